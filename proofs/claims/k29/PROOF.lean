import PyProof.Rows.All
import Wide.All
import OpenK.AllK
import Wide.FinOn
import HandS.ForExc
import HandS.CallSlots
import HandS.Comp
import HandS.Wide
import HandS.WideBits
import HandS.Lambda
import HandS.Gcd
import HandS.IsInst
import HandS.RaiseMore
import HandS.Iter
import HandS.Flow
import HandS.Defaults
import HandS.NoneIn
import HandS.Deep
import HandS.TupAny
import HandS.EndTab
import HandS.EndOwn
import Flt.RightSqrt
import HandS.SetFor
import HandS.SortInts
import HandS.Strs
import HandS.Style
import PyProof.Rows.BitMore
import KE.DataMinMax
import HandS.Property
import HandS.OwnEq
import PyProof.InstEq
import HandS.Zip
import HandS.More
import HandS.Conv
import HandS.DictComp
import HandS.Small
import KE.GoesMore
import KE.GoesEnum
import KE.GoesZip
import HandS.StrMore
import HandS.FStr
import HandS.Text
import PyProof.StrOps2
import PyProof.ListStr
import PyProof.ReprRoads
import HandS.HotCalls
import HandS.ExcIs
import HandS.TryMany
import KE.KTryMore
import KE.KCallOwn
import HandS.SetBool
import HandS.TupMul
import PySem.Challenge.RW_purepowers_k29_whole_kinds_for_looks
set_option Elab.async false
set_option linter.all false
set_option maxRecDepth 100000
set_option maxHeartbeats 4000000
/-! HD1: a data layer over the hand layer: data (tuples by value), a store of what changes, rules that speak of data and store alone. -/
namespace HD
open PySem PySem.Spec PyProof.Rows L2

/-- data: tuples by value; ref k is the k-th thing of the store; ro a list that is only read; adr an object of the written part -/
inductive D where
  | non | bl (b : Bool) | int (i : Int) | str (x : Str) | ty (n : String) | adr (a : Addr) | ref (k : Nat) | tup (xs : List D) | ro (xs : List D)
  | exc (a C dx : Addr) (ns : List Str) (ds : List D)
  /-- a lambda at f, of a code object at c named q, made where the slots were σ -/
  | lam (f c : Addr) (q : Str) (σ : L2.St) (ks : List Bool) (ds : List D)
/-- what may change -/
inductive O where
  | lst (xs : List D)
  /-- a table of code objects, all of the name q -/
  | tab (p : Addr) (q : Str)
  /-- an instance of the class at C -/
  | ins (C : Addr) (fs : List (Str × D))
  /-- a dict whose keys are ints and texts -/
  | dct (kvs : List (Key × D))
abbrev Sto := List O
abbrev En := List (Option D)

def slot : En → Nat → Option D
  | [], _ => none
  | d :: _, 0 => d
  | _ :: r, n + 1 => slot r n
def put : En → Nat → Option D → En
  | [], _, _ => []
  | _ :: r, 0, d => d :: r
  | x :: r, n + 1, d => x :: put r n d
theorem put_length : ∀ (δ : En) (n : Nat) (d : Option D), (put δ n d).length = δ.length
  | [], _, _ => rfl
  | _ :: _, 0, _ => rfl
  | _ :: r, n + 1, d => by
    show (put r n d).length + 1 = r.length + 1
    rw [put_length r n d]
theorem slot_put : ∀ (δ : En) (n m : Nat) (d : Option D) (e : D), slot (put δ n d) m = some e → (m = n ∧ d = some e) ∨ (m ≠ n ∧ slot δ m = some e)
  | [], _, _, _, _, h => by cases h
  | _ :: _, 0, 0, _, _, h => .inl ⟨rfl, h⟩
  | _ :: _, 0, m + 1, _, _, h => .inr ⟨by omega, h⟩
  | _ :: _, n + 1, 0, _, _, h => .inr ⟨by omega, h⟩
  | _ :: r, n + 1, m + 1, d, e, h => by
    rcases slot_put r n m d e h with ⟨a, b⟩ | ⟨a, b⟩
    · exact .inl ⟨by omega, b⟩
    · exact .inr ⟨by omega, b⟩
def cell : Sto → Nat → Option O
  | [], _ => none
  | o :: _, 0 => some o
  | _ :: r, n + 1 => cell r n
theorem cell_lt : ∀ {μ : Sto} {k : Nat} {o : O}, cell μ k = some o → k < μ.length
  | [], _, _, h => by cases h
  | _ :: _, 0, _, _ => Nat.zero_lt_succ _
  | _ :: r, k + 1, _, h => Nat.succ_lt_succ (cell_lt (μ := r) h)
theorem cell_app : ∀ {μ : Sto} {k : Nat} {o : O} (ν : Sto), cell μ k = some o → cell (μ ++ ν) k = some o
  | [], _, _, _, h => by cases h
  | _ :: _, 0, _, _, h => h
  | _ :: r, k + 1, _, ν, h => cell_app (μ := r) ν h
theorem cell_new : ∀ (μ : Sto) (o : O) (ν : Sto), cell (μ ++ o :: ν) μ.length = some o
  | [], _, _ => rfl
  | _ :: r, o, ν => cell_new r o ν
theorem cell_app_iff : ∀ {μ : Sto} {k : Nat} {o u : O}, cell (μ ++ [u]) k = some o → cell μ k = some o ∨ (k = μ.length ∧ o = u)
  | [], 0, _, _, h => .inr ⟨rfl, (Option.some.inj h).symm⟩
  | [], k + 1, _, _, h => by cases h
  | _ :: _, 0, _, _, h => .inl h
  | _ :: r, k + 1, _, _, h => by
    rcases cell_app_iff (μ := r) (k := k) h with a | ⟨a, b⟩
    · exact .inl a
    · exact .inr ⟨by rw [a]; rfl, b⟩
theorem cell_set : ∀ {μ : Sto} {k j : Nat} {o u : O}, cell (μ.set k u) j = some o → (j = k ∧ o = u) ∨ (j ≠ k ∧ cell μ j = some o)
  | [], _, _, _, _, h => by cases h
  | _ :: _, 0, 0, _, _, h => .inl ⟨rfl, (Option.some.inj h).symm⟩
  | _ :: _, 0, j + 1, _, _, h => .inr ⟨by omega, h⟩
  | _ :: _, k + 1, 0, _, _, h => .inr ⟨by omega, h⟩
  | _ :: r, k + 1, j + 1, _, _, h => by
    rcases cell_set (μ := r) (k := k) (j := j) h with ⟨a, b⟩ | ⟨a, b⟩
    · exact .inl ⟨by omega, b⟩
    · exact .inr ⟨by omega, b⟩
theorem cell_set_same : ∀ {μ : Sto} {k : Nat} {u : O}, k < μ.length → cell (μ.set k u) k = some u
  | [], _, _, h => absurd h (Nat.not_lt_zero _)
  | _ :: _, 0, _, _ => rfl
  | _ :: r, k + 1, _, h => cell_set_same (μ := r) (Nat.lt_of_succ_lt_succ h)
theorem cell_set_ne : ∀ {μ : Sto} {k j : Nat} {u : O}, j ≠ k → cell (μ.set k u) j = cell μ j
  | [], _, _, _, _ => rfl
  | _ :: _, 0, 0, _, h => absurd rfl h
  | _ :: _, 0, j + 1, _, _ => rfl
  | _ :: _, k + 1, 0, _, _ => rfl
  | _ :: r, k + 1, j + 1, _, h => cell_set_ne (μ := r) (by omega)
/-- the list at k -/
def lstAt (μ : Sto) (k : Nat) : Option (List D) := match cell μ k with
  | some (.lst xs) => some xs
  | _ => none
theorem lstAt_cell {μ : Sto} {k : Nat} {xs : List D} (h : lstAt μ k = some xs) : cell μ k = some (.lst xs) := by
  unfold lstAt at h
  split at h
  · rename_i ys e
    rw [e]
    rw [Option.some.inj h]
  · cases h
theorem lstAt_of {μ : Sto} {k : Nat} {xs : List D} (h : cell μ k = some (.lst xs)) : lstAt μ k = some xs := by
  unfold lstAt
  rw [h]

/-! ### data and the heap -/
/-- a list that never changes: frozen, or of the written part -/
def Fz (K : PySem.W.Frag) (H : Hp) (a : Addr) (xs : List V) : Prop := (∃ o, H a = some (.frz o (.lst xs))) ∨
  ∃ (o : Obj) (its : Array Value) (n : Nat), K.lookup a = some o ∧ o.cls = .type "list" ∧ o.dict = none ∧ o.data = .seq its n ∧ its.size ≤ sizeLine ∧ Vals xs its.toList
theorem Fz.seq {K : PySem.W.Frag} {H : Hp} {a : Addr} {xs : List V} (h : Fz K H a xs) : SqL K H a xs := by
  rcases h with h | h
  · exact .inl (.inr h)
  · exact .inr h
mutual
def Is (K : PySem.W.Frag) (ι : List Addr) (H : Hp) : D → V → Prop
  | .non, v => v = .non
  | .bl b, v => v = .bl b
  | .int i, v => v = .int i
  | .str x, v => v = .str x
  | .ty n, v => v = .ty n
  | .adr a, v => v = .ref a
  | .ref k, v => ∃ a, ι[k]? = some a ∧ v = .ref a
  | .tup ds, v => ∃ a xs, v = .ref a ∧ SqT K H a xs ∧ IsAll K ι H ds xs
  | .ro ds, v => ∃ a xs, v = .ref a ∧ Fz K H a xs ∧ IsAll K ι H ds xs
  | .exc a _ dx ns ds, v => v = .ref a ∧ ∃ vs, H dx = some (.xd (ns.zip vs)) ∧ vs.length = ns.length ∧ IsAll K ι H ds vs
  | .lam f c q σ ks ds, v => v = .ref f ∧ H c = some (LamX.CodeO c q) ∧ ks.length = σ.length ∧ ds.length = σ.length ∧ ∃ vs, IsAll K ι H ds vs ∧ ∀ (i : Nat) (u : V), ks[i]? = some true → vs[i]? = some u → σ[i]? = some (some u)
def IsAll (K : PySem.W.Frag) (ι : List Addr) (H : Hp) : List D → List V → Prop
  | [], xs => xs = []
  | d :: ds, xs => ∃ v r, xs = v :: r ∧ Is K ι H d v ∧ IsAll K ι H ds r
end
/-- tuples and what is frozen stay -/
structure HX (H H' : Hp) : Prop where
  tup : ∀ b xs, H b = some (.tup xs) → H' b = some (.tup xs)
  frz : ∀ b o u, H b = some (.frz o u) → H' b = some (.frz o u)
  xd : ∀ b gs, H b = some (.xd gs) → H' b = some (.xd gs)
  ext : ∀ b z, H b = some (.ext z) → H' b = some (.ext z)
theorem HX.refl (H : Hp) : HX H H := ⟨fun _ _ e => e, fun _ _ _ e => e, fun _ _ e => e, fun _ _ e => e⟩
theorem HX.trans {H H1 H2 : Hp} (a : HX H H1) (b : HX H1 H2) : HX H H2 := ⟨fun c xs e => b.tup c xs (a.tup c xs e), fun c o u e => b.frz c o u (a.frz c o u e), fun c o e => b.xd c o (a.xd c o e), fun c o e => b.ext c o (a.ext c o e)⟩
theorem HX.new {H : Hp} {p : Addr} {o : HO} (h : H p = none) : HX H (upd H p o) :=
  ⟨fun b xs e => by rw [upd_ne (ne_of_none e h)]; exact e, fun b o' u e => by rw [upd_ne (ne_of_none e h)]; exact e, fun b xs e => by rw [upd_ne (ne_of_none e h)]; exact e, fun b xs e => by rw [upd_ne (ne_of_none e h)]; exact e⟩
theorem HX.lst {H : Hp} {p : Addr} {o : HO} {xs : List V} (h : H p = some (.lst xs)) : HX H (upd H p o) :=
  ⟨fun b ys e => by rw [upd_ne (ne_of e h (fun q => by cases q))]; exact e, fun b o' u e => by rw [upd_ne (ne_of e h (fun q => by cases q))]; exact e, fun b ys e => by rw [upd_ne (ne_of e h (fun q => by cases q))]; exact e, fun b ys e => by rw [upd_ne (ne_of e h (fun q => by cases q))]; exact e⟩
/-- what may be written in its place -/
def mutO : HO → Bool
  | .tup _ => false
  | .frz _ _ => false
  | .xd _ => false
  | .ext _ => false
  | _ => true
theorem HX.mut {H : Hp} {p : Addr} {o u : HO} (h : H p = some u) (m : mutO u = true) : HX H (upd H p o) :=
  ⟨fun b ys e => by rw [upd_ne (ne_of e h (fun q => by subst q; cases m))]; exact e, fun b o' u e => by rw [upd_ne (ne_of e h (fun q => by subst q; cases m))]; exact e, fun b ys e => by rw [upd_ne (ne_of e h (fun q => by subst q; cases m))]; exact e, fun b ys e => by rw [upd_ne (ne_of e h (fun q => by subst q; cases m))]; exact e⟩
theorem HX.of_same {H H' : Hp} (h : ∀ b o, H b = some o → H' b = some o) : HX H H' := ⟨fun b xs e => h b _ e, fun b o u e => h b _ e, fun b o e => h b _ e, fun b o e => h b _ e⟩
theorem sqT_hx {K : PySem.W.Frag} {H H' : Hp} {a : Addr} {xs : List V} (h : SqT K H a xs) (x : HX H H') : SqT K H' a xs := by
  rcases h with (h | ⟨o, h⟩) | h
  · exact .inl (.inl (x.tup _ _ h))
  · exact .inl (.inr ⟨o, x.frz _ _ _ h⟩)
  · exact .inr h
theorem fz_hx {K : PySem.W.Frag} {H H' : Hp} {a : Addr} {xs : List V} (h : Fz K H a xs) (x : HX H H') : Fz K H' a xs := by
  rcases h with ⟨o, h⟩ | h
  · exact .inl ⟨o, x.frz _ _ _ h⟩
  · exact .inr h
structure Stp (ι : List Addr) (H : Hp) (ι' : List Addr) (H' : Hp) : Prop where
  ext : ∀ (k : Nat) (a : Addr), ι[k]? = some a → ι'[k]? = some a
  hx : HX H H'
theorem Stp.refl (ι : List Addr) (H : Hp) : Stp ι H ι H := ⟨fun _ _ e => e, HX.refl H⟩
theorem Stp.trans {ι ι1 ι2 : List Addr} {H H1 H2 : Hp} (a : Stp ι H ι1 H1) (b : Stp ι1 H1 ι2 H2) : Stp ι H ι2 H2 := ⟨fun k x e => b.ext k x (a.ext k x e), a.hx.trans b.hx⟩
section
variable {K : PySem.W.Frag} {ι ι' : List Addr} {H H' : Hp}
mutual
theorem Is.stp (s : Stp ι H ι' H') : ∀ (d : D) (v : V), Is K ι H d v → Is K ι' H' d v
  | .non, _, h => h
  | .bl _, _, h => h
  | .int _, _, h => h
  | .str _, _, h => h
  | .ty _, _, h => h
  | .adr _, _, h => h
  | .ref k, _, h => by
    obtain ⟨a, e, q⟩ := h
    exact ⟨a, s.ext k a e, q⟩
  | .tup ds, _, h => by
    obtain ⟨a, xs, e, q, r⟩ := h
    exact ⟨a, xs, e, sqT_hx q s.hx, IsAll.stp s ds xs r⟩
  | .ro ds, _, h => by
    obtain ⟨a, xs, e, q, r⟩ := h
    exact ⟨a, xs, e, fz_hx q s.hx, IsAll.stp s ds xs r⟩
  | .exc _ _ _ _ ds, _, h => by
    obtain ⟨e, vs, q, l, r⟩ := h
    exact ⟨e, vs, s.hx.xd _ _ q, l, IsAll.stp s ds vs r⟩
  | .lam _ _ _ _ _ ds, _, h => by
    obtain ⟨e, q, l1, l2, vs, r, t⟩ := h
    exact ⟨e, s.hx.ext _ _ q, l1, l2, vs, IsAll.stp s ds vs r, t⟩
theorem IsAll.stp (s : Stp ι H ι' H') : ∀ (ds : List D) (xs : List V), IsAll K ι H ds xs → IsAll K ι' H' ds xs
  | [], _, h => h
  | d :: ds, _, h => by
    obtain ⟨v, r, e, q, t⟩ := h
    exact ⟨v, r, e, Is.stp s d v q, IsAll.stp s ds r t⟩
end
theorem IsAll.length : ∀ {ds : List D} {xs : List V}, IsAll K ι H ds xs → xs.length = ds.length
  | [], _, h => by
    have h' : _ = [] := h
    rw [h'] <;> rfl
  | d :: ds, _, h => by
    obtain ⟨v, r, e, _, t⟩ := h
    rw [e, List.length_cons, List.length_cons, IsAll.length t]
theorem IsAll.get : ∀ {ds : List D} {xs : List V} {i : Nat} {d : D}, IsAll K ι H ds xs → ds[i]? = some d → ∃ v, xs[i]? = some v ∧ Is K ι H d v
  | [], _, _, _, _, e => by simp at e
  | d :: ds, _, 0, _, h, e => by
    obtain ⟨v, r, e1, q, _⟩ := h
    have e' : d = _ := Option.some.inj e
    subst e'
    exact ⟨v, by rw [e1] <;> rfl, q⟩
  | _ :: ds, _, i + 1, _, h, e => by
    obtain ⟨v, r, e1, _, t⟩ := h
    obtain ⟨w, e2, q⟩ := IsAll.get (i := i) t (by simpa using e)
    exact ⟨w, by rw [e1]; simpa using e2, q⟩
theorem IsAll.app : ∀ {ds es : List D} {xs ys : List V}, IsAll K ι H ds xs → IsAll K ι H es ys → IsAll K ι H (ds ++ es) (xs ++ ys)
  | [], _, _, _, h, g => by
    have h' : _ = [] := h
    rw [h']
    exact g
  | _ :: ds, _, _, _, h, g => by
    obtain ⟨v, r, e1, q, t⟩ := h
    rw [e1]
    exact ⟨v, _, rfl, q, IsAll.app t g⟩
theorem IsAll.drop : ∀ {ds : List D} {xs : List V} (n : Nat), IsAll K ι H ds xs → IsAll K ι H (ds.drop n) (xs.drop n)
  | _, _, 0, h => h
  | [], _, n + 1, h => by
    have h' : _ = [] := h
    rw [h']
    exact rfl
  | _ :: ds, _, n + 1, h => by
    obtain ⟨v, r, e1, q, t⟩ := h
    rw [e1]
    exact IsAll.drop n t
theorem IsAll.take : ∀ {ds : List D} {xs : List V} (n : Nat), IsAll K ι H ds xs → IsAll K ι H (ds.take n) (xs.take n)
  | [], _, n, h => by
    have h' : _ = [] := h
    rw [h', List.take_nil, List.take_nil]
    exact rfl
  | _ :: ds, _, 0, h => rfl
  | _ :: ds, _, n + 1, h => by
    obtain ⟨v, r, e1, q, t⟩ := h
    rw [e1]
    exact ⟨v, _, rfl, q, IsAll.take n t⟩
theorem IsAll.set : ∀ {ds : List D} {xs : List V} (n : Nat) {d : D} {v : V}, IsAll K ι H ds xs → Is K ι H d v → IsAll K ι H (ds.set n d) (xs.set n v)
  | [], _, n, _, _, h, _ => by
    have h' : _ = [] := h
    rw [h']
    exact rfl
  | _ :: ds, _, 0, d, v, h, g => by
    obtain ⟨w, r, e1, q, t⟩ := h
    rw [e1]
    exact ⟨v, r, rfl, g, t⟩
  | _ :: ds, _, n + 1, d, v, h, g => by
    obtain ⟨w, r, e1, q, t⟩ := h
    rw [e1]
    exact ⟨w, _, rfl, q, IsAll.set n t g⟩
theorem IsAll.rep {ds : List D} {xs : List V} (h : IsAll K ι H ds xs) : ∀ n : Nat, IsAll K ι H (List.replicate n ds).flatten (List.replicate n xs).flatten
  | 0 => rfl
  | n + 1 => by
    rw [List.replicate_succ, List.replicate_succ, List.flatten_cons, List.flatten_cons]
    exact h.app (IsAll.rep h n)
theorem isAll_ints : ∀ ns : List Int, IsAll K ι H (ns.map D.int) (ns.map V.int)
  | [] => rfl
  | n :: ns => ⟨_, _, rfl, rfl, isAll_ints ns⟩
end

/-- the store and the heap -/
def OIs (K : PySem.W.Frag) (ι : List Addr) (H : Hp) : O → Addr → Prop
  | .lst ds, a => ∃ xs, H a = some (.lst xs) ∧ IsAll K ι H ds xs
  | .tab p q, a => a = p ∧ LamX.TabS H p q
  | .ins C fs, a => ∃ dx vs, H a = some (.ins C dx ((fs.map (·.1)).zip vs)) ∧ IsAll K ι H (fs.map (·.2)) vs
  | .dct kvs, a => ∃ vs, H a = some (.dK ((kvs.map (·.1)).zip vs)) ∧ IsAll K ι H (kvs.map (·.2)) vs
theorem tabS_hx {H H' : Hp} {p : Addr} {q : Str} (t : LamX.TabS H p q) (x : HX H H') (e : H' p = H p) : LamX.TabS H' p q := by
  obtain ⟨ps, h1, h2, h3⟩ := t
  refine ⟨ps, by rw [e]; exact h1, h2, fun pos cv hc => ?_⟩
  obtain ⟨c, e1, e2⟩ := h3 pos cv hc
  exact ⟨c, e1, x.ext _ _ e2⟩
structure Rel (K : PySem.W.Frag) (ι : List Addr) (μ : Sto) (H : Hp) : Prop where
  len : ι.length = μ.length
  inj : ∀ (i j : Nat) (a : Addr), ι[i]? = some a → ι[j]? = some a → i = j
  at_ : ∀ (k : Nat) (o : O), cell μ k = some o → ∃ a, ι[k]? = some a ∧ OIs K ι H o a
theorem Rel.lst {K : PySem.W.Frag} {ι : List Addr} {μ : Sto} {H : Hp} (r : Rel K ι μ H) {k : Nat} {ds : List D} (h : lstAt μ k = some ds) : ∃ a xs, ι[k]? = some a ∧ H a = some (.lst xs) ∧ IsAll K ι H ds xs := by
  obtain ⟨a, e, xs, h1, h2⟩ := r.at_ k _ (lstAt_cell h)
  exact ⟨a, xs, e, h1, h2⟩
section
variable {K : PySem.W.Frag} {ι ι' : List Addr} {μ : Sto} {H H' : Hp}
theorem OIs.tracked {o : O} {a : Addr} (h : OIs K ι H o a) : ∃ u, H a = some u := by
  cases o with
  | lst ds =>
    obtain ⟨xs, e, _⟩ := h
    exact ⟨_, e⟩
  | tab p q =>
    obtain ⟨rfl, ps, e, _⟩ := h
    exact ⟨_, e⟩
  | ins C fs =>
    obtain ⟨dx, vs, e, _⟩ := h
    exact ⟨_, e⟩
  | dct kvs =>
    obtain ⟨vs, e, _⟩ := h
    exact ⟨_, e⟩
theorem OIs.stp {o : O} {a : Addr} (h : OIs K ι H o a) (s : Stp ι H ι' H') (e : H' a = H a) : OIs K ι' H' o a := by
  cases o with
  | lst ds =>
    obtain ⟨xs, e1, q⟩ := h
    exact ⟨xs, by rw [e]; exact e1, IsAll.stp s _ _ q⟩
  | tab p q =>
    obtain ⟨rfl, t⟩ := h
    exact ⟨rfl, tabS_hx t s.hx e⟩
  | ins C fs =>
    obtain ⟨dx, vs, e1, q⟩ := h
    exact ⟨dx, vs, by rw [e]; exact e1, IsAll.stp s _ _ q⟩
  | dct kvs =>
    obtain ⟨vs, e1, q⟩ := h
    exact ⟨vs, by rw [e]; exact e1, IsAll.stp s _ _ q⟩
theorem Stp.new {p : Addr} {o : HO} (h : H p = none) : Stp ι H ι (upd H p o) := ⟨fun _ _ e => e, HX.new h⟩
theorem Stp.push {p : Addr} {o : HO} (h : H p = none) : Stp ι H (ι ++ [p]) (upd H p o) :=
  ⟨fun k a e => by rw [List.getElem?_append_left (List.getElem?_eq_some_iff.mp e).1]; exact e, HX.new h⟩
/-- a new thing that the store does not know -/
theorem Rel.new (r : Rel K ι μ H) {p : Addr} {o : HO} (h : H p = none) : Rel K ι μ (upd H p o) :=
  ⟨r.len, r.inj, fun k u e => by
    obtain ⟨a, e1, q⟩ := r.at_ k u e
    obtain ⟨w, e2⟩ := q.tracked
    exact ⟨a, e1, q.stp (Stp.new h) (upd_ne (ne_of_none e2 h))⟩⟩
/-- a new thing of the store -/
theorem Rel.push (r : Rel K ι μ H) {p : Addr} {o : HO} {u : O} (h : H p = none) (hu : OIs K (ι ++ [p]) (upd H p o) u p) : Rel K (ι ++ [p]) (μ ++ [u]) (upd H p o) := by
  have nin : ∀ k : Nat, ι[k]? = some p → False := fun k e => by
    have hk : k < μ.length := by rw [← r.len]; exact (List.getElem?_eq_some_iff.mp e).1
    have ex : ∃ w, cell μ k = some w := by
      have gen : ∀ (μ : Sto) (k : Nat), k < μ.length → ∃ w, cell μ k = some w := by
        intro μ
        induction μ with
        | nil => intro k h; exact absurd h (Nat.not_lt_zero _)
        | cons w t ih =>
          intro k h
          cases k with
          | zero => exact ⟨w, rfl⟩
          | succ k => exact ih k (Nat.lt_of_succ_lt_succ h)
      exact gen μ k hk
    obtain ⟨w, ew⟩ := ex
    obtain ⟨a, e1, q⟩ := r.at_ k w ew
    rw [e] at e1
    have e1' : p = a := Option.some.inj e1
    subst e1'
    obtain ⟨z, ez⟩ := q.tracked
    rw [h] at ez
    cases ez
  have app : ∀ (i : Nat) (a : Addr), (ι ++ [p])[i]? = some a → ι[i]? = some a ∨ (i = ι.length ∧ a = p) := fun i a e => by
    by_cases hi : i < ι.length
    · rw [List.getElem?_append_left hi] at e
      exact .inl e
    · rw [List.getElem?_append_right (by omega)] at e
      have hz : i - ι.length = 0 := by
        cases hq : i - ι.length with
        | zero => rfl
        | succ n => rw [hq] at e; simp at e
      rw [hz] at e
      exact .inr ⟨by omega, (Option.some.inj e).symm⟩
  refine ⟨by rw [List.length_append, List.length_append, r.len] <;> rfl, fun i j a e1 e2 => ?_, fun k w e => ?_⟩
  · rcases app i a e1 with a1 | ⟨a1, b1⟩
    · rcases app j a e2 with a2 | ⟨a2, b2⟩
      · exact r.inj i j a a1 a2
      · subst b2
        exact (nin i a1).elim
    · subst b1
      rcases app j a e2 with a2 | ⟨a2, b2⟩
      · exact (nin j a2).elim
      · rw [a1, a2]
  · rcases cell_app_iff e with e | ⟨ek, rfl⟩
    · obtain ⟨a, e1, q⟩ := r.at_ k w e
      obtain ⟨z, e2⟩ := q.tracked
      exact ⟨a, (Stp.push (o := o) h).ext k a e1, q.stp (Stp.push h) (upd_ne (ne_of_none e2 h))⟩
    · refine ⟨p, ?_, hu⟩
      rw [ek, ← r.len, List.getElem?_append_right (Nat.le_refl _), Nat.sub_self]
      rfl
theorem Rel.pushLst (r : Rel K ι μ H) {p : Addr} {ds : List D} {xs : List V} (h : H p = none) (hx : IsAll K ι H ds xs) : Rel K (ι ++ [p]) (μ ++ [.lst ds]) (upd H p (.lst xs)) :=
  r.push h ⟨xs, upd_same, IsAll.stp (Stp.push h) _ _ hx⟩
theorem is_pushed (r : Rel K ι μ H) {p : Addr} {H' : Hp} : Is K (ι ++ [p]) H' (.ref μ.length) (.ref p) := by
  refine ⟨p, ?_, rfl⟩
  rw [← r.len, List.getElem?_append_right (Nat.le_refl _), Nat.sub_self]
  rfl
/-- a list of the store is written -/
theorem Rel.write (r : Rel K ι μ H) {k : Nat} {p : Addr} {ds ds' : List D} {xs xs' : List V} (hk : cell μ k = some (.lst ds)) (e : ι[k]? = some p) (hp : H p = some (.lst xs)) (hx : IsAll K ι H ds' xs') : Rel K ι (μ.set k (.lst ds')) (upd H p (.lst xs')) := by
  have s : Stp ι H ι (upd H p (.lst xs')) := ⟨fun _ _ e => e, HX.lst hp⟩
  refine ⟨by rw [List.length_set]; exact r.len, r.inj, fun j w ej => ?_⟩
  rcases cell_set ej with ⟨rfl, rfl⟩ | ⟨hne, ej⟩
  · exact ⟨p, e, xs', upd_same, IsAll.stp s _ _ hx⟩
  · obtain ⟨a, e1, q⟩ := r.at_ j w ej
    refine ⟨a, e1, q.stp s (upd_ne fun z => hne ?_)⟩
    rw [z] at e1
    exact r.inj j k p e1 e
/-- any thing of the store is written -/
theorem Rel.writeO (r : Rel K ι μ H) {k : Nat} {p : Addr} {u0 u : O} {o o' : HO} (hk : cell μ k = some u0) (e : ι[k]? = some p) (hp : H p = some o) (m : mutO o = true) (hu : OIs K ι (upd H p o') u p) : Rel K ι (μ.set k u) (upd H p o') := by
  have s : Stp ι H ι (upd H p o') := ⟨fun _ _ e => e, HX.mut hp m⟩
  refine ⟨by rw [List.length_set]; exact r.len, r.inj, fun j w ej => ?_⟩
  rcases cell_set ej with ⟨rfl, rfl⟩ | ⟨hne, ej⟩
  · exact ⟨p, e, hu⟩
  · obtain ⟨a, e1, q⟩ := r.at_ j w ej
    refine ⟨a, e1, q.stp s (upd_ne fun z => hne ?_)⟩
    rw [z] at e1
    exact r.inj j k p e1 e
theorem Stp.mut {p : Addr} {o u : HO} (h : H p = some u) (m : mutO u = true) : Stp ι H ι (upd H p o) := ⟨fun _ _ e => e, HX.mut h m⟩
theorem Stp.wr {p : Addr} {o : HO} {xs : List V} (h : H p = some (.lst xs)) : Stp ι H ι (upd H p o) := ⟨fun _ _ e => e, HX.lst h⟩
end

/-! ### the slots -/
structure EnvIs (K : PySem.W.Frag) (ι : List Addr) (H : Hp) (δ : En) (σ : L2.St) : Prop where
  len : δ.length = σ.length
  at_ : ∀ (i : Nat) (d : D), slot δ i = some d → ∃ v, σ[i]? = some (some v) ∧ Is K ι H d v
theorem slot_lt : ∀ {δ : En} {i : Nat} {d : D}, slot δ i = some d → i < δ.length
  | [], _, _, h => by cases h
  | _ :: _, 0, _, _ => Nat.zero_lt_succ _
  | _ :: r, i + 1, _, h => Nat.succ_lt_succ (slot_lt (δ := r) h)
section
variable {K : PySem.W.Frag} {ι ι' : List Addr} {H H' : Hp} {δ : En} {σ : L2.St}
theorem EnvIs.stp (e : EnvIs K ι H δ σ) (s : Stp ι H ι' H') : EnvIs K ι' H' δ σ := ⟨e.len, fun i d h => by
  obtain ⟨v, e1, q⟩ := e.at_ i d h
  exact ⟨v, e1, Is.stp s d v q⟩⟩
theorem EnvIs.put (e : EnvIs K ι H δ σ) {i : Nat} {d : D} {v : V} (h : Is K ι H d v) : EnvIs K ι H (put δ i (some d)) (σ.set i (some v)) :=
  ⟨by rw [put_length, List.length_set]; exact e.len, fun j f hj => by
    rcases slot_put δ i j (some d) f hj with ⟨rfl, q⟩ | ⟨hne, q⟩
    · cases q
      have hl : j < (HD.put δ j (some d)).length := slot_lt hj
      rw [put_length, e.len] at hl
      exact ⟨v, List.getElem?_set_self hl, h⟩
    · obtain ⟨w, e1, q2⟩ := e.at_ j f q
      exact ⟨w, by rw [List.getElem?_set_ne (Ne.symm hne)]; exact e1, q2⟩⟩
theorem EnvIs.drop (e : EnvIs K ι H δ σ) {i : Nat} (u : Option V) : EnvIs K ι H (HD.put δ i none) (σ.set i u) :=
  ⟨by rw [put_length, List.length_set]; exact e.len, fun j f hj => by
    rcases slot_put δ i j none f hj with ⟨rfl, q⟩ | ⟨hne, q⟩
    · cases q
    · obtain ⟨w, e1, q2⟩ := e.at_ j f q
      exact ⟨w, by rw [List.getElem?_set_ne (Ne.symm hne)]; exact e1, q2⟩⟩
end

/-! ### what is wished -/
/-- of an exception: the slots, its class, its fields, the store -/
abbrev XD := En → Addr → List (Str × D) → Sto → Prop
def FsIs (K : PySem.W.Frag) (ι : List Addr) (H : Hp) (fs : List (Str × D)) (gs : List (Str × V)) : Prop := gs.map (·.1) = fs.map (·.1) ∧ IsAll K ι H (fs.map (·.2)) (gs.map (·.2))
/-- the dict of an exception, perhaps none -/
def DxIs (K : PySem.W.Frag) (ι : List Addr) (H : Hp) (fs : List (Str × D)) (d : Option Addr) : Prop := match d with
  | some dx => ∃ gs, H dx = some (.xd gs) ∧ FsIs K ι H fs gs
  | none => fs = []
def XL (K : PySem.W.Frag) (W : WX) (ι : List Addr) (H : Hp) (R : XD) : Prop := ∀ ι' μ' δ' σ' H' C fs d, Stp ι H ι' H' → Rel K ι' μ' H' → EnvIs K ι' H' δ' σ' → DxIs K ι' H' fs d → R δ' C fs μ' → W (.ref C) d σ' H'
theorem XL.stp {K : PySem.W.Frag} {W : WX} {ι ι' : List Addr} {H H' : Hp} {R : XD} (x : XL K W ι H R) (s : Stp ι H ι' H') : XL K W ι' H' R :=
  fun ι2 μ2 δ2 σ2 H2 C fs d s2 r e f q => x ι2 μ2 δ2 σ2 H2 C fs d (s.trans s2) r e f q
abbrev WE := XD → En → Sto → (D → Sto → Prop) → Prop
abbrev WT := XD → En → Sto → (Bool → Sto → Prop) → Prop
abbrev WA := XD → En → Sto → (List D → Sto → Prop) → Prop
/-- where one stands -/
structure Cn (K : PySem.W.Frag) (W : WX) (ι : List Addr) (μ : Sto) (H : Hp) (δ : En) (σ : L2.St) (R : XD) : Prop where
  rel : Rel K ι μ H
  env : EnvIs K ι H δ σ
  xl : XL K W ι H R
theorem Cn.stp {K : PySem.W.Frag} {W : WX} {ι ι' : List Addr} {μ μ' : Sto} {H H' : Hp} {δ : En} {σ : L2.St} {R : XD} (c : Cn K W ι μ H δ σ R) (s : Stp ι H ι' H') (r : Rel K ι' μ' H') : Cn K W ι' μ' H' δ σ R := ⟨r, c.env.stp s, c.xl.stp s⟩
def Kt (K : PySem.W.Frag) (ι : List Addr) (H : Hp) (P : D → Sto → Prop) (Q : VK) : Prop := ∀ v d ι' μ' H', Stp ι H ι' H' → Rel K ι' μ' H' → Is K ι' H' d v → P d μ' → Q v H'
def KtB (K : PySem.W.Frag) (ι : List Addr) (H : Hp) (P : Bool → Sto → Prop) (Q : Bool → Hp → Prop) : Prop := ∀ b ι' μ' H', Stp ι H ι' H' → Rel K ι' μ' H' → P b μ' → Q b H'
def KtA (K : PySem.W.Frag) (ι : List Addr) (H : Hp) (P : List D → Sto → Prop) (Q : List V → Hp → Prop) : Prop := ∀ vs ds ι' μ' H', Stp ι H ι' H' → Rel K ι' μ' H' → IsAll K ι' H' ds vs → P ds μ' → Q vs H'
theorem Kt.stp {K : PySem.W.Frag} {ι ι' : List Addr} {H H' : Hp} {P : D → Sto → Prop} {Q : VK} (k : Kt K ι H P Q) (s : Stp ι H ι' H') : Kt K ι' H' P Q := fun v d ι2 μ2 H2 s2 r i q => k v d ι2 μ2 H2 (s.trans s2) r i q
theorem KtB.stp {K : PySem.W.Frag} {ι ι' : List Addr} {H H' : Hp} {P : Bool → Sto → Prop} {Q : Bool → Hp → Prop} (k : KtB K ι H P Q) (s : Stp ι H ι' H') : KtB K ι' H' P Q := fun v ι2 μ2 H2 s2 r q => k v ι2 μ2 H2 (s.trans s2) r q
theorem KtA.stp {K : PySem.W.Frag} {ι ι' : List Addr} {H H' : Hp} {P : List D → Sto → Prop} {Q : List V → Hp → Prop} (k : KtA K ι H P Q) (s : Stp ι H ι' H') : KtA K ι' H' P Q := fun v d ι2 μ2 H2 s2 r i q => k v d ι2 μ2 H2 (s.trans s2) r i q
/-- the value itself, nothing has changed -/
theorem Kt.at {K : PySem.W.Frag} {ι : List Addr} {μ : Sto} {H : Hp} {P : D → Sto → Prop} {Q : VK} (k : Kt K ι H P Q) (r : Rel K ι μ H) {d : D} {v : V} (i : Is K ι H d v) (p : P d μ) : Q v H := k v d ι μ H (Stp.refl ι H) r i p

def RE (K : PySem.W.Frag) (W : WX) (t : TE) (w : WE) : Prop := ∀ R ι μ δ σ H P Q, Cn K W ι μ H δ σ R → w R δ μ P → Kt K ι H P Q → t σ H Q
def RT (K : PySem.W.Frag) (W : WX) (t : TT) (w : WT) : Prop := ∀ R ι μ δ σ H P Q, Cn K W ι μ H δ σ R → w R δ μ P → KtB K ι H P Q → t σ H Q
def RA (K : PySem.W.Frag) (W : WX) (t : TA) (w : WA) : Prop := ∀ R ι μ δ σ H P Q, Cn K W ι μ H δ σ R → w R δ μ P → KtA K ι H P Q → t σ H Q
def QE (X : Cx) (W : WX) (e : Expr) (w : WE) : Prop := ∃ t, PE X e t ∧ RE X.K W t w
def QT (X : Cx) (W : WX) (e : Expr) (w : WT) : Prop := ∃ t, PT X e t ∧ RT X.K W t w
def QW (X : Cx) (W : WX) (e : Expr) (w : WT) : Prop := ∃ t, PW X e t ∧ RT X.K W t w
def QA (X : Cx) (W : WX) (es : List Expr) (w : WA) : Prop := ∃ t, PA X es t ∧ RA X.K W t w
def QK (X : Cx) (W : WX) (ks : List Keyword) (w : WA) : Prop := ∃ t, PK X ks t ∧ RA X.K W t w

/-! ### expressions -/
section
variable {X : Cx} {W : WX} {e a b c : Expr} {es : List Expr} {wa wb wc : WE} {pos p : Pos}
def wVar (i : Nat) : WE := fun _ δ μ P => match slot δ i with
  | some d => P d μ
  | none => False
theorem q_var (i : Nat) {x : Str} (hN : X.N[i]? = some x) (hv : Vis X.env.scope x) (hd : (x == ("__debug__" : Str)) = false := by decide) (hcd : (x == ("__classdict__" : Str)) = false := by decide) : QE X W (.Name x pos) (wVar i) := by
  refine ⟨_, pe_var hN hv hd hcd, fun R ι μ δ σ H P Q c h k => ?_⟩
  unfold wVar at h
  split at h
  · rename_i d e
    obtain ⟨v, e1, q⟩ := c.env.at_ i d e
    exact ⟨v, e1, k.at c.rel q h⟩
  · exact h.elim
def wC (d : D) : WE := fun _ _ μ P => P d μ
theorem q_int {i j} : QE X W (.Constant (.int i) j pos) (wC (.int i)) := ⟨_, pe_int, fun _ _ _ _ _ _ _ _ c h k => k.at c.rel (d := .int i) rfl h⟩
theorem q_bl {i j} : QE X W (.Constant (.bool i) j pos) (wC (.bl i)) := ⟨_, pe_bl, fun _ _ _ _ _ _ _ _ c h k => k.at c.rel (d := .bl i) rfl h⟩
theorem q_non {j} : QE X W (.Constant .none j pos) (wC .non) := ⟨_, pe_non, fun _ _ _ _ _ _ _ _ c h k => k.at c.rel (d := .non) rfl h⟩
theorem q_str {x j} : QE X W (.Constant (.str x) j pos) (wC (.str x)) := ⟨_, pe_str, fun _ _ _ _ _ _ _ _ c h k => k.at c.rel (d := .str x) rfl h⟩
/-- a constant of the module: an int -/
theorem q_globI {x : Str} {i : Int} {t : Tok} (hg : Gl X x) (hm : X.mg x = some (.int i t)) (hd : (x == ("__debug__" : Str)) = false := by decide) : QE X W (.Name x pos) (wC (.int i)) :=
  ⟨_, pe_glob (v := .int i) hg hm ⟨t, rfl⟩ hd, fun _ _ _ _ _ _ _ _ c h k => k.at c.rel (d := .int i) rfl h⟩
theorem q_globA {x : Str} {f : Addr} (hg : Gl X x) (hm : X.mg x = some (.ref f)) (hd : (x == ("__debug__" : Str)) = false := by decide) : QE X W (.Name x pos) (wC (.adr f)) :=
  ⟨_, pe_glob (v := .ref f) hg hm rfl hd, fun _ _ _ _ _ _ _ _ c h k => k.at c.rel (d := .adr f) rfl h⟩

/-- two-place operations on data -/
abbrev WO := D → D → Sto → (D → Sto → Prop) → Prop
def RO (K : PySem.W.Frag) (r : R2) (w : WO) : Prop := ∀ ι μ H x y d e P Q, Rel K ι μ H → Is K ι H d x → Is K ι H e y → w d e μ P → Kt K ι H P Q → r x y H Q
def QO (X : Cx) (f : Value → Value → Sem Value) (w : WO) : Prop := ∃ r, OpR X f r ∧ RO X.K r w
def wOp (w : WO) (wa wb : WE) : WE := fun R δ μ P => wa R δ μ fun d μ1 => wb R δ μ1 fun e μ2 => w d e μ2 P
theorem re_op {K : PySem.W.Frag} {ta tb : TE} {r : R2} {w : WO} (ha : RE K W ta wa) (hb : RE K W tb wb) (hr : RO K r w) : RE K W (tOp r ta tb) (wOp w wa wb) := fun R ι μ δ σ H P Q c h k =>
  ha R ι μ δ σ H _ _ c h fun v d ι1 μ1 H1 s1 r1 i1 h1 =>
    hb R ι1 μ1 δ σ H1 _ _ (c.stp s1 r1) h1 fun u e ι2 μ2 H2 s2 r2 i2 h2 =>
      hr ι2 μ2 H2 v u d e P Q r2 (Is.stp s2 d v i1) i2 h2 (k.stp (s1.trans s2))
theorem q_op {op : Operator} {w : WO} (ho : QO X (binaryOp op) w) (ha : QE X W a wa) (hb : QE X W b wb) : QE X W (.BinOp a op b pos) (wOp w wa wb) := by
  obtain ⟨r, h1, h2⟩ := ho
  obtain ⟨ta, a1, a2⟩ := ha
  obtain ⟨tb, b1, b2⟩ := hb
  exact ⟨_, pe_op h1 a1 b1, re_op a2 b2 h2⟩
theorem q_cmp {op : CmpOp} {w : WO} (ho : QO X (compareOp op) w) (ha : QE X W a wa) (hb : QE X W b wb) (hm : behindInMarks op b = false) : QE X W (.Compare a [op] [b] pos) (wOp w wa wb) := by
  obtain ⟨r, h1, h2⟩ := ho
  obtain ⟨ta, a1, a2⟩ := ha
  obtain ⟨tb, b1, b2⟩ := hb
  exact ⟨_, pe_cmpR h1 a1 b1 hm, re_op a2 b2 h2⟩
/-- a truth value as a test -/
def wB (w : WE) : WT := fun R δ μ P => w R δ μ fun d μ1 => match d with
  | .bl k => P k μ1
  | _ => False
theorem rt_test {K : PySem.W.Frag} {t : TE} {w : WE} (h : RE K W t w) : RT K W (tTest t) (wB w) := fun R ι μ δ σ H P Q c hw k =>
  h R ι μ δ σ H _ _ c hw fun v d ι1 μ1 H1 s1 r1 i1 h1 => by
    cases d with
    | bl b =>
      have e : v = .bl b := i1
      exact ⟨b, e, k b ι1 μ1 H1 s1 r1 h1⟩
    | _ => exact h1.elim
theorem qt_cmp {op : CmpOp} {w : WO} (ho : QO X (compareOp op) w) (ha : QE X W a wa) (hb : QE X W b wb) (hm : behindInMarks op b = false) : QT X W (.Compare a [op] [b] pos) (wB (wOp w wa wb)) := by
  obtain ⟨r, h1, h2⟩ := ho
  obtain ⟨ta, a1, a2⟩ := ha
  obtain ⟨tb, b1, b2⟩ := hb
  exact ⟨_, pt_cmpR h1 a1 b1 hm, rt_test (re_op a2 b2 h2)⟩
/-- a op b op' c -/
def wChain (w w' : WO) (wa wb wc : WE) : WE := fun R δ μ P => wa R δ μ fun d μ1 => wb R δ μ1 fun e μ2 => w d e μ2 fun z μ3 => match z with
  | .bl true => wc R δ μ3 fun f μ4 => w' e f μ4 P
  | .bl false => P (.bl false) μ3
  | _ => False
theorem re_chain {K : PySem.W.Frag} {ta tb tc : TE} {r r' : R2} {w w' : WO} (ha : RE K W ta wa) (hb : RE K W tb wb) (hc : RE K W tc wc) (hr : RO K r w) (hr' : RO K r' w') : RE K W (tChain r r' ta tb tc) (wChain w w' wa wb wc) := fun R ι μ δ σ H P Q c h k =>
  ha R ι μ δ σ H _ _ c h fun v d ι1 μ1 H1 s1 r1 i1 h1 =>
    hb R ι1 μ1 δ σ H1 _ _ (c.stp s1 r1) h1 fun u e ι2 μ2 H2 s2 r2 i2 h2 =>
      hr ι2 μ2 H2 v u d e _ _ r2 (Is.stp s2 d v i1) i2 h2 fun z f ι3 μ3 H3 s3 r3 i3 h3 => by
        cases f with
        | bl b =>
          have ez : z = .bl b := i3
          subst ez
          cases b with
          | true =>
            refine ⟨true, rfl, ?_⟩
            rw [if_pos rfl]
            exact hc R ι3 μ3 δ σ H3 _ _ (c.stp ((s1.trans s2).trans s3) r3) h3 fun y g ι4 μ4 H4 s4 r4 i4 h4 =>
              hr' ι4 μ4 H4 u y e g P Q r4 (Is.stp (s3.trans s4) e u i2) i4 h4 (k.stp (((s1.trans s2).trans s3).trans s4))
          | false =>
            refine ⟨false, rfl, ?_⟩
            rw [if_neg Bool.false_ne_true]
            exact k (.bl false) (.bl false) ι3 μ3 H3 ((s1.trans s2).trans s3) r3 rfl h3
        | _ => exact h3.elim
theorem q_chain {op op' : CmpOp} {w w' : WO} (ho : QO X (compareOp op) w) (ho' : QO X (compareOp op') w') (ha : QE X W a wa) (hb : QE X W b wb) (hc : QE X W c wc)
    (hm : lastMarks [op, op'] [b, c] = false := by with_unfolding_all rfl) : QE X W (.Compare a [op, op'] [b, c] pos) (wChain w w' wa wb wc) := by
  obtain ⟨r, h1, h2⟩ := ho
  obtain ⟨r', h3, h4⟩ := ho'
  obtain ⟨ta, a1, a2⟩ := ha
  obtain ⟨tb, b1, b2⟩ := hb
  obtain ⟨tc, c1, c2⟩ := hc
  exact ⟨_, pe_chain h1 h3 a1 b1 c1 hm, re_chain a2 b2 c2 h2 h4⟩
theorem qt_chain {op op' : CmpOp} {w w' : WO} (ho : QO X (compareOp op) w) (ho' : QO X (compareOp op') w') (ha : QE X W a wa) (hb : QE X W b wb) (hc : QE X W c wc)
    (hm : lastMarks [op, op'] [b, c] = false := by with_unfolding_all rfl) : QT X W (.Compare a [op, op'] [b, c] pos) (wB (wChain w w' wa wb wc)) := by
  obtain ⟨r, h1, h2⟩ := ho
  obtain ⟨r', h3, h4⟩ := ho'
  obtain ⟨ta, a1, a2⟩ := ha
  obtain ⟨tb, b1, b2⟩ := hb
  obtain ⟨tc, c1, c2⟩ := hc
  exact ⟨_, pt_chain h1 h3 a1 b1 c1 hm, rt_test (re_chain a2 b2 c2 h2 h4)⟩
theorem qt_val (h : QE X W a wa) (hp : ∀ t, PE X a t → PT X a (tTest t)) : QT X W a (wB wa) := by
  obtain ⟨ta, a1, a2⟩ := h
  exact ⟨_, hp ta a1, rt_test a2⟩
/-- and, or, not of tests -/
def wAnd (u v : WT) : WT := fun R δ μ P => u R δ μ fun k μ1 => match k with
  | true => v R δ μ1 P
  | false => P false μ1
def wOr (u v : WT) : WT := fun R δ μ P => u R δ μ fun k μ1 => match k with
  | true => P true μ1
  | false => v R δ μ1 P
def wNot (u : WT) : WT := fun R δ μ P => u R δ μ fun k μ1 => P (!k) μ1
theorem rt_and {K : PySem.W.Frag} {t u : TT} {w v : WT} (h1 : RT K W t w) (h2 : RT K W u v) : RT K W (tAnd t u) (wAnd w v) := fun R ι μ δ σ H P Q c h k =>
  h1 R ι μ δ σ H _ _ c h fun b ι1 μ1 H1 s1 r1 q1 => by
    cases b with
    | true =>
      show u σ H1 Q
      exact h2 R ι1 μ1 δ σ H1 P Q (c.stp s1 r1) q1 (k.stp s1)
    | false =>
      show Q false H1
      exact k false ι1 μ1 H1 s1 r1 q1
theorem rt_or {K : PySem.W.Frag} {t u : TT} {w v : WT} (h1 : RT K W t w) (h2 : RT K W u v) : RT K W (tOr t u) (wOr w v) := fun R ι μ δ σ H P Q c h k =>
  h1 R ι μ δ σ H _ _ c h fun b ι1 μ1 H1 s1 r1 q1 => by
    cases b with
    | false =>
      show u σ H1 Q
      exact h2 R ι1 μ1 δ σ H1 P Q (c.stp s1 r1) q1 (k.stp s1)
    | true =>
      show Q true H1
      exact k true ι1 μ1 H1 s1 r1 q1
theorem rt_not {K : PySem.W.Frag} {t : TT} {w : WT} (h1 : RT K W t w) : RT K W (tNot t) (wNot w) := fun R ι μ δ σ H P Q c h k =>
  h1 R ι μ δ σ H _ _ c h fun b ι1 μ1 H1 s1 r1 q1 => k (!b) ι1 μ1 H1 s1 r1 q1
theorem qw_and1 {w : WT} (h : QT X W a w) : QW X W (.BoolOp .And [a] pos) w := by
  obtain ⟨t, h1, h2⟩ := h
  exact ⟨_, pw_and1 h1, h2⟩
theorem qw_or1 {w : WT} (h : QT X W a w) : QW X W (.BoolOp .Or [a] pos) w := by
  obtain ⟨t, h1, h2⟩ := h
  exact ⟨_, pw_or1 h1, h2⟩
theorem qw_and {w v : WT} {rest : List Expr} (h : QT X W a w) (h' : QW X W (.BoolOp .And (b :: rest) pos) v) : QW X W (.BoolOp .And (a :: b :: rest) pos) (wAnd w v) := by
  obtain ⟨t, h1, h2⟩ := h
  obtain ⟨t', h3, h4⟩ := h'
  exact ⟨_, pw_and h1 h3, rt_and h2 h4⟩
theorem qw_or {w v : WT} {rest : List Expr} (h : QT X W a w) (h' : QW X W (.BoolOp .Or (b :: rest) pos) v) : QW X W (.BoolOp .Or (a :: b :: rest) pos) (wOr w v) := by
  obtain ⟨t, h1, h2⟩ := h
  obtain ⟨t', h3, h4⟩ := h'
  exact ⟨_, pw_or h1 h3, rt_or h2 h4⟩
theorem qt_bool {w : WT} (h : QW X W a w) : QT X W a w := by
  obtain ⟨t, h1, h2⟩ := h
  exact ⟨_, h1.pt, h2⟩
theorem qt_not {w : WT} (h : QT X W a w) : QT X W (.UnaryOp .Not a pos) (wNot w) := by
  obtain ⟨t, h1, h2⟩ := h
  exact ⟨_, pt_not h1, rt_not h2⟩
/-- .. as values (truth values) -/
def wAndV (u v : WE) : WE := fun R δ μ P => u R δ μ fun d μ1 => match d with
  | .bl true => v R δ μ1 P
  | .bl false => P (.bl false) μ1
  | _ => False
def wOrV (u v : WE) : WE := fun R δ μ P => u R δ μ fun d μ1 => match d with
  | .bl true => P (.bl true) μ1
  | .bl false => v R δ μ1 P
  | _ => False
def wNotV (u : WE) : WE := fun R δ μ P => u R δ μ fun d μ1 => match d with
  | .bl k => P (.bl (!k)) μ1
  | _ => False
theorem q_one {op} (h : QE X W a wa) : QE X W (.BoolOp op [a] pos) wa := by
  obtain ⟨t, h1, h2⟩ := h
  exact ⟨_, pe_one h1, h2⟩
theorem q_and {rest : List Expr} (h : QE X W a wa) (h' : QE X W (.BoolOp .And (b :: rest) pos) wb) : QE X W (.BoolOp .And (a :: b :: rest) pos) (wAndV wa wb) := by
  obtain ⟨t, h1, h2⟩ := h
  obtain ⟨t', h3, h4⟩ := h'
  refine ⟨_, pe_and h1 h3, fun R ι μ δ σ H P Q c hw k => h2 R ι μ δ σ H _ _ c hw fun v d ι1 μ1 H1 s1 r1 i1 q1 => ?_⟩
  cases d with
  | bl z =>
    have ez : v = .bl z := i1
    subst ez
    refine ⟨z, rfl, ?_⟩
    cases z with
    | true =>
      rw [if_pos rfl]
      exact h4 R ι1 μ1 δ σ H1 P Q (c.stp s1 r1) q1 (k.stp s1)
    | false =>
      rw [if_neg Bool.false_ne_true]
      exact k _ (.bl false) ι1 μ1 H1 s1 r1 rfl q1
  | _ => exact q1.elim
theorem q_or {rest : List Expr} (h : QE X W a wa) (h' : QE X W (.BoolOp .Or (b :: rest) pos) wb) : QE X W (.BoolOp .Or (a :: b :: rest) pos) (wOrV wa wb) := by
  obtain ⟨t, h1, h2⟩ := h
  obtain ⟨t', h3, h4⟩ := h'
  refine ⟨_, pe_or h1 h3, fun R ι μ δ σ H P Q c hw k => h2 R ι μ δ σ H _ _ c hw fun v d ι1 μ1 H1 s1 r1 i1 q1 => ?_⟩
  cases d with
  | bl z =>
    have ez : v = .bl z := i1
    subst ez
    refine ⟨z, rfl, ?_⟩
    cases z with
    | false =>
      rw [if_neg Bool.false_ne_true]
      exact h4 R ι1 μ1 δ σ H1 P Q (c.stp s1 r1) q1 (k.stp s1)
    | true =>
      rw [if_pos rfl]
      exact k _ (.bl true) ι1 μ1 H1 s1 r1 rfl q1
  | _ => exact q1.elim
theorem q_not (h : QE X W a wa) : QE X W (.UnaryOp .Not a pos) (wNotV wa) := by
  obtain ⟨t, h1, h2⟩ := h
  refine ⟨_, pe_not h1, fun R ι μ δ σ H P Q c hw k => h2 R ι μ δ σ H _ _ c hw fun v d ι1 μ1 H1 s1 r1 i1 q1 => ?_⟩
  cases d with
  | bl z =>
    have ez : v = .bl z := i1
    subst ez
    exact ⟨z, rfl, k _ (.bl (!z)) ι1 μ1 H1 s1 r1 rfl q1⟩
  | _ => exact q1.elim
/-- a if t else b -/
def wIf (t : WT) (u v : WE) : WE := fun R δ μ P => t R δ μ fun k μ1 => match k with
  | true => u R δ μ1 P
  | false => v R δ μ1 P
theorem q_if {t : WT} (hc : QT X W c t) (ha : QE X W a wa) (hb : QE X W b wb) : QE X W (.IfExp c a b pos) (wIf t wa wb) := by
  obtain ⟨tc, c1, c2⟩ := hc
  obtain ⟨ta, a1, a2⟩ := ha
  obtain ⟨tb, b1, b2⟩ := hb
  refine ⟨_, pe_ifExp c1 a1 b1, fun R ι μ δ σ H P Q c hw k => c2 R ι μ δ σ H _ _ c hw fun z ι1 μ1 H1 s1 r1 q1 => ?_⟩
  cases z with
  | true =>
    show ta σ H1 Q
    exact a2 R ι1 μ1 δ σ H1 P Q (c.stp s1 r1) q1 (k.stp s1)
  | false =>
    show tb σ H1 Q
    exact b2 R ι1 μ1 δ σ H1 P Q (c.stp s1 r1) q1 (k.stp s1)

/-! ### arguments, displays -/
def wNil : WA := fun _ _ μ P => P [] μ
def wCons (w : WE) (ws : WA) : WA := fun R δ μ P => w R δ μ fun d μ1 => ws R δ μ1 fun ds μ2 => P (d :: ds) μ2
theorem ra_nil {K : PySem.W.Frag} : RA K W tNil wNil := fun R ι μ δ σ H P Q c h k => k [] [] ι μ H (Stp.refl ι H) c.rel rfl h
theorem ra_cons {K : PySem.W.Frag} {t : TE} {ts : TA} {w : WE} {ws : WA} (h1 : RE K W t w) (h2 : RA K W ts ws) : RA K W (tCons t ts) (wCons w ws) := fun R ι μ δ σ H P Q c h k =>
  h1 R ι μ δ σ H _ _ c h fun v d ι1 μ1 H1 s1 r1 i1 q1 =>
    h2 R ι1 μ1 δ σ H1 _ _ (c.stp s1 r1) q1 fun vs ds ι2 μ2 H2 s2 r2 i2 q2 =>
      k (v :: vs) (d :: ds) ι2 μ2 H2 (s1.trans s2) r2 ⟨v, vs, rfl, Is.stp s2 d v i1, i2⟩ q2
theorem qa_nil : QA X W [] wNil := ⟨_, pa_nil, ra_nil⟩
theorem qa_cons {ws : WA} (h : QE X W e wa) (h' : QA X W es ws) (hs : starEach (e :: es) X.env = (false, eval e X.env) :: starEach es X.env := by rfl) : QA X W (e :: es) (wCons wa ws) := by
  obtain ⟨t, h1, h2⟩ := h
  obtain ⟨t', h3, h4⟩ := h'
  exact ⟨_, pa_cons h1 h3 hs, ra_cons h2 h4⟩
theorem qk_nil : QK X W [] wNil := ⟨_, pk_nil, ra_nil⟩
theorem qk_cons {ws : WA} {nm : Option Str} {kpos : Pos} {kws : List Keyword} (h : QE X W e wa) (h' : QK X W kws ws) : QK X W (⟨nm, e, kpos⟩ :: kws) (wCons wa ws) := by
  obtain ⟨t, h1, h2⟩ := h
  obtain ⟨t', h3, h4⟩ := h'
  exact ⟨_, pk_cons h1 h3, ra_cons h2 h4⟩
def wTup (ws : WA) : WE := fun R δ μ P => ws R δ μ fun ds μ1 => ds.length ≤ 1000 ∧ P (.tup ds) μ1
def wLst (ws : WA) : WE := fun R δ μ P => ws R δ μ fun ds μ1 => ds.length ≤ 1000 ∧ P (.ref μ1.length) (μ1 ++ [.lst ds])
theorem le_line {n : Nat} (h : n ≤ 1000) : n ≤ sizeLine := Nat.le_of_lt (small1000 h)
theorem q_tup {ws : WA} {x1} (h : QA X W es ws) : QE X W (.Tuple es x1 pos) (wTup ws) := by
  obtain ⟨t, h1, h2⟩ := h
  refine ⟨_, pe_tup h1, fun R ι μ δ σ H P Q c hw k => h2 R ι μ δ σ H _ _ c hw fun vs ds ι1 μ1 H1 s1 r1 i1 q1 => ?_⟩
  refine ⟨by rw [i1.length]; exact le_line q1.1, fun p hp => ?_⟩
  exact k (.ref p) (.tup ds) ι1 μ1 _ (s1.trans (Stp.new hp)) (r1.new hp) ⟨p, vs, rfl, SqT.of upd_same, IsAll.stp (Stp.new hp) _ _ i1⟩ q1.2
theorem q_lst {ws : WA} (h : QA X W es ws) : QE X W (.List es pos) (wLst ws) := by
  obtain ⟨t, h1, h2⟩ := h
  refine ⟨_, pe_lst h1, fun R ι μ δ σ H P Q c hw k => h2 R ι μ δ σ H _ _ c hw fun vs ds ι1 μ1 H1 s1 r1 i1 q1 => ?_⟩
  refine ⟨by rw [i1.length]; exact le_line q1.1, fun p hp => ?_⟩
  exact k (.ref p) (.ref μ1.length) (ι1 ++ [p]) _ _ (s1.trans (Stp.push hp)) (r1.pushLst hp i1) (is_pushed r1) q1.2
end
end HD
/-! HD2: defs that know that nothing is being shown (guards), their calls; statements. -/
namespace HD
open PySem PySem.Spec PyProof.Rows L2

/-! ### defs -/
structure FnG (P : Program) (w : World) (K : PySem.W.Frag) (mg : Str → Option Value) (base : Heap) (k : Nat) (f : Addr) (fd : FuncData) (ps : List Str) (sp : Sp) : Prop where
  len : ∀ vs H Q E, sp vs H Q E → vs.length = ps.length
  run : ∀ (A : Around) (outer : List Env) (s : Shared) (H : Hp) (args : Args) (us : List Value) (vs : List V) (Q : VK) (E : XK), A.guards = some [] → Room k A →
    Env0 P w K mg base A outer s H → BindsTo s fd args (ps.zip us) → Vals vs us → sp vs H Q E → codeAny (model P w) A (.call (.ref f) args) (CR (L2.CX P w) outer P w H s Q E) s
theorem FnG.mono {P : Program} {w : World} {K : PySem.W.Frag} {mg : Str → Option Value} {base : Heap} {j k : Nat} {f : Addr} {fd : FuncData} {ps : List Str} {sp : Sp} (F : FnG P w K mg base j f fd ps sp) (h : j ≤ k) : FnG P w K mg base k f fd ps sp :=
  ⟨F.len, fun A outer s H args us vs Q E g hr => F.run A outer s H args us vs Q E g (hr.mono h)⟩
theorem fnG_of {P : Program} {w : World} {K : PySem.W.Frag} {mg : Str → Option Value} {base : Heap} {x qual : Str} {st : Stmt} {f : Addr} {fd : FuncData} {N ps : List Str} {k : Nat} {sp : Sp}
    (F : Fun K x qual st f fd) (S : FnScope N ps (defScope st)) (hn : ∀ vs H Q E, sp vs H Q E → vs.length = ps.length)
    (body : ∀ (cdv : Value) (A : Around) (outer : List Env) (s : Shared) (H : Hp) (vs : List V) (Q : VK) (E : XK), A.guards = some [] → Room k (A.deeper (envOfC qual (defScope st) s.heap.objs.size f cdv)) → sp vs H Q E →
      ∃ t, PSs (cxOf (L2.CX P w) P w K mg base N qual (defScope st) f cdv A outer s H E) (defBody st) t ∧ t { nx := fun _ H' => Q .non H', rt := Q } (start N vs) H) :
    FnG P w K mg base (k + 1) f fd ps sp := by
  obtain ⟨oc, od, kV, doc, pm, an, cdv, ct, osl, rfl, lk, hcd⟩ := F.ex
  refine ⟨hn, fun A outer s H args us vs Q E hgd hrm e0 hbind hvals hspec => ?_⟩
  have hlen : vs.length = ps.length := hn vs H Q E hspec
  have kin : K.In s.heap := Frag_keeps e0
  have nolim : s.heap.NoLimit := nolim_keeps e0
  have kinds : ∀ y ∈ ps.zip us, (defScope st).names.lookup y.1 = some .local ∨ ((defScope st).names.lookup y.1 = some .cell ∧
      ((cellsFrom (s.heap.objs.size + 1) (defScope st).names []).lookup y.1).isSome = true) := by
    intro y hy
    cases S.par y.1 (List.of_mem_zip (a := y.1) (b := y.2) hy).1 with
    | inl q => exact Or.inl q
    | inr q => exact Or.inr ⟨q, PySem.W.cellsFrom_some _ _ _ (Or.inl q)⟩
  have enter := hbind
  refine codeAny_call_function hrm.depth
    (kin _ _ lk) rfl S.co S.gen rfl
    (PySem.W.codeRec_of kin hcd) (enter _ _ _ _ ?_)
  refine wpAny_newFunctionEnv_cells S.kind kinds
    fun env' henv s' inC => ?_
  subst henv
  refine ⟨nolim.keeps inC.toInCall.keep, codeAny_func ?_⟩
  obtain ⟨t, hps, hstart⟩ := body cdv A outer s H vs Q E hgd (hrm.deeper _) hspec
  have inv0 := inv_start (CX := L2.CX P w) (P := P) (w := w) (K := K) (mg := mg) (base := base) (qual := qual) (f := f) (cd := cdv) (E := E) S hrm.hd e0 hlen hvals inC
  refine wpAny_mono (hps.run [] s' (start N vs) H _ inv0 hstart) (fun fl s2 hend => ?_) (fun _ _ z => z)
  match fl, hend with
  | .ret u, hend =>
    obtain ⟨v, σ2, H2, J, rv, q⟩ := hend
    exact ⟨v, H2, J.os, J.bare, J.base, J.hok, rv, q⟩
  | .next, hend =>
    obtain ⟨σ2, H2, J, q⟩ := hend
    exact ⟨.non, H2, J.os, J.bare, J.base, J.hok, (show RelV V.non Value.none from rfl), q⟩
  | .brk, hend =>
    obtain ⟨_, _, _, q⟩ := hend
    exact q.elim
  | .cont, hend =>
    obtain ⟨_, _, _, q⟩ := hend
    exact q.elim
where
  Frag_keeps {P : Program} {w : World} {K : PySem.W.Frag} {mg : Str → Option Value} {base : Heap} {A : Around} {outer : List Env} {s : Shared} {H : Hp} (e0 : Env0 P w K mg base A outer s H) : K.In s.heap :=
    e0.mod.kin.keeps (fun b o e => (e0.bs b o e).1)
  nolim_keeps {P : Program} {w : World} {K : PySem.W.Frag} {mg : Str → Option Value} {base : Heap} {A : Around} {outer : List Env} {s : Shared} {H : Hp} (e0 : Env0 P w K mg base A outer s H) : s.heap.NoLimit :=
    e0.mod.nolimit.keeps (fun b o e => (e0.bs b o e).1)

section
variable {X : Cx} {k : Nat} {f : Addr} {fd : FuncData} {ps : List Str} {sp : Sp}
/-- such a def is called -/
theorem runG {pins : List (Addr × Obj)} {σ : L2.St} {H : Hp} {s : Shared} {Q : VK} {us xs : List Value} {kw : List (Str × Value)} {vs : List V} {E : XK}
    (F : FnG X.prog X.w X.K X.mg X.base k f fd ps sp) (gd : X.A.guards = some []) (hr : Room k X.A) (hx : PassesAt (L2.CX X.prog X.w) X σ E) (I : Inv X pins σ H s)
    (hb : BindsTo s fd ⟨us, kw⟩ (ps.zip xs)) (r : Vals vs xs) (h : sp vs H Q E) : wpAny (model X.prog X.w) X.A (call (.ref f) us kw) (EP X pins σ Q) X.xe s := by
  have go := F.run X.A X.stack s H ⟨us, kw⟩ xs vs Q E gd hr I.env0 hb r h
  refine wpAny_call (codeAny_mono go ?_)
  intro res s' hres
  match res, hres with
  | .error e, hres => exact hx pins H s e s' I hres
  | .ok (.ret u), hres => exact I.after hres
  | .ok .next, hres => exact False.elim hres
  | .ok .brk, hres => exact False.elim hres
  | .ok .cont, hres => exact False.elim hres
variable {x : Str} {p pos : Pos} {e : Expr} {es : List Expr} {t tk : TA} {E : L2.St → XK}
theorem pe_callG (F : FnG X.prog X.w X.K X.mg X.base k f fd ps sp) (gd : X.A.guards = some []) (hr : Room k X.A) (hg : Gl X x) (hm : X.mg x = some (.ref f)) (hk : PySem.W.keepIn X.K (.ref f) = true) (hb : Binds X.K fd ps [])
    (hx : ∀ σ, PassesAt (L2.CX X.prog X.w) X σ (E σ)) (ha : PA X (e :: es) t) (hdb : (x == ("__debug__" : Str)) = false := by decide)
    (he : starEach (e :: es) X.env = (false, eval e X.env) :: starEach es X.env := by rfl) (hpl : (backTo pos (starEach es X.env)).any (·.1) = false := by rfl) :
    PE X (.Call (.Name x p) (e :: es) [] pos) (tCallS sp E t) := by
  refine ⟨fun pins s σ H Q I h => ?_⟩
  refine wpAny_Call_Name_kw (ld_glob I hg hm ?_ hdb)
  have args := ha.run pos pins s σ H _ I h
  refine PySem.W.callWith_K (h₀ := X.base) I.ok.mod.kin hk (thn args ?_) he hpl
  intro us s1 hq
  obtain ⟨vs, H1, I1, r, q⟩ := hq
  refine ⟨I1.kIn, ?_⟩
  have hl : us.length = ps.length := r.length.symm.trans (F.len _ _ _ _ q)
  have b := hb s1 us I1.kIn (by rw [List.append_nil]; exact hl)
  rw [List.append_nil] at b
  exact runG F gd hr (hx σ) I1 b r q
theorem pe_callG0 (F : FnG X.prog X.w X.K X.mg X.base k f fd ps sp) (gd : X.A.guards = some []) (hr : Room k X.A) (hg : Gl X x) (hm : X.mg x = some (.ref f)) (hk : PySem.W.keepIn X.K (.ref f) = true) (hb : Binds X.K fd ps [])
    (hx : ∀ σ, PassesAt (L2.CX X.prog X.w) X σ (E σ)) (hdb : (x == ("__debug__" : Str)) = false := by decide) : PE X (.Call (.Name x p) [] [] pos) (tCallS sp E tNil) := by
  refine ⟨fun pins s σ H Q I h => ?_⟩
  refine wpAny_Call_Name_kw (ld_glob I hg hm ?_ hdb)
  have hl : ([] : List Value).length = ps.length := F.len _ _ _ _ h
  have b := hb s [] I.kIn (by rw [List.append_nil]; exact hl)
  rw [List.append_nil] at b
  exact PySem.W.callWith_K0 I.kIn hk (runG F gd hr (hx σ) I b .nil h)
/-- how keywords bind: n positional values, keywords named ks -/
structure KBd (K : PySem.W.Frag) (fd : FuncData) (ps ks : List Str) (n : Nat) (g : {α : Type} → List α → List α → List α) : Prop where
  to : ∀ (s : Shared) (us ws : List Value), us.length = n → ws.length = ks.length → BindsTo s fd ⟨us, ks.zip ws⟩ (ps.zip (g us ws))
  rel : ∀ {vs : List V} {us : List Value} {zs : List V} {ws : List Value}, vs.length = n → zs.length = ks.length → Vals vs us → Vals zs ws → Vals (g vs zs) (g us ws)
variable {kws : List Keyword} {ks : List Str} {n : Nat} {g : {α : Type} → List α → List α → List α}
def tCallG (n m : Nat) (sp : Sp) (g : {α : Type} → List α → List α → List α) (E : L2.St → XK) (t tk : TA) : TE := fun σ H Q => t σ H fun vs H1 => tk σ H1 fun zs H2 => vs.length = n ∧ zs.length = m ∧ sp (g vs zs) H2 Q (E σ)
theorem pe_callGK (F : FnG X.prog X.w X.K X.mg X.base k f fd ps sp) (gd : X.A.guards = some []) (hr : Room k X.A) (hg : Gl X x) (hm : X.mg x = some (.ref f)) (hk : PySem.W.keepIn X.K (.ref f) = true) (hb : KBd X.K fd ps ks n g)
    (hx : ∀ σ, PassesAt (L2.CX X.prog X.w) X σ (E σ)) (ha : PA X (e :: es) t) (hkw : PK X kws tk) (hall : (backToKw pos (keywordEach kws X.env)).all (·.1.isSome) = true := by rfl)
    (hks : (backToKw pos (keywordEach kws X.env)).filterMap (·.1) = ks := by rfl) (hdb : (x == ("__debug__" : Str)) = false := by decide) (he : starEach (e :: es) X.env = (false, eval e X.env) :: starEach es X.env := by rfl)
    (hpl : ((backTo pos (starEach (e :: es) X.env)).any (·.1) || (backToKw pos (keywordEach kws X.env)).any (·.1.isNone)) = false := by rfl) :
    PE X (.Call (.Name x p) (e :: es) kws pos) (tCallG n ks.length sp g E t tk) := by
  refine ⟨fun pins s σ H Q I h => ?_⟩
  refine wpAny_Call_Name_kw (ld_glob I hg hm ?_ hdb)
  have args := ha.run pos pins s σ H _ I h
  refine PySem.W.callWith_KW (h₀ := X.base) I.ok.mod.kin hk hall (thn args ?_) hpl he
  intro us s1 hq
  obtain ⟨vs, H1, I1, r, q⟩ := hq
  refine thn (hkw.run pos pins s1 σ H1 _ I1 q) ?_
  intro ws s2 hq2
  obtain ⟨zs, H2, I2, rz, l1, l2, q2⟩ := hq2
  refine ⟨I2.kIn, ?_⟩
  rw [hks]
  exact runG F gd hr (hx σ) I2 (hb.to s2 us ws (r.length.symm.trans l1) (rz.length.symm.trans l2)) (hb.rel l1 l2 r rz) q2
theorem pe_callGK0 (F : FnG X.prog X.w X.K X.mg X.base k f fd ps sp) (gd : X.A.guards = some []) (hr : Room k X.A) (hg : Gl X x) (hm : X.mg x = some (.ref f)) (hk : PySem.W.keepIn X.K (.ref f) = true) (hb : KBd X.K fd ps ks 0 g)
    (hx : ∀ σ, PassesAt (L2.CX X.prog X.w) X σ (E σ)) (hkw : PK X kws tk) (hall : (backToKw pos (keywordEach kws X.env)).all (·.1.isSome) = true := by rfl)
    (hks : (backToKw pos (keywordEach kws X.env)).filterMap (·.1) = ks := by rfl) (hdb : (x == ("__debug__" : Str)) = false := by decide)
    (hpl : ((backTo pos (starEach [] X.env)).any (·.1) || (backToKw pos (keywordEach kws X.env)).any (·.1.isNone)) = false := by rfl) :
    PE X (.Call (.Name x p) [] kws pos) (tCallG 0 ks.length sp g E tNil tk) := by
  refine ⟨fun pins s σ H Q I h => ?_⟩
  refine wpAny_Call_Name_kw (ld_glob I hg hm ?_ hdb)
  refine PySem.W.callWith_KW0 (h₀ := X.base) I.ok.mod.kin hk hall (thn (hkw.run pos pins s σ H _ I h) ?_) hpl
  intro ws s2 hq2
  obtain ⟨zs, H2, I2, rz, l1, l2, q2⟩ := hq2
  refine ⟨I2.kIn, ?_⟩
  rw [hks]
  exact runG F gd hr (hx σ) I2 (hb.to s2 [] ws rfl (rz.length.symm.trans l2)) (hb.rel (vs := []) rfl l2 .nil rz) q2
end

/-! ### promises that speak of data -/
abbrev SpD := List D → Sto → (D → Sto → Prop) → (Addr → List (Str × D) → Sto → Prop) → Prop
def KtX (K : PySem.W.Frag) (ι : List Addr) (H : Hp) (R : Addr → List (Str × D) → Sto → Prop) (E : XK) : Prop :=
  ∀ C fs d ι' μ' H', Stp ι H ι' H' → Rel K ι' μ' H' → DxIs K ι' H' fs d → R C fs μ' → E (.ref C) d H'
def spOf (K : PySem.W.Frag) (sp : SpD) : Sp := fun vs H Q E => ∃ ι μ ds P R, Rel K ι μ H ∧ IsAll K ι H ds vs ∧ sp ds μ P R ∧ Kt K ι H P Q ∧ KtX K ι H R E
section
variable {X : Cx} {W : WX} {k : Nat} {f : Addr} {fd : FuncData} {ps : List Str} {sp : SpD} {x : Str} {p pos : Pos} {e : Expr} {es : List Expr} {wa wk : WA}
def wCall (sp : SpD) (wa : WA) : WE := fun R δ μ P => wa R δ μ fun ds μ1 => sp ds μ1 P fun C fs μ2 => R δ C fs μ2
theorem ktx_of {K : PySem.W.Frag} {ι ι' : List Addr} {μ' : Sto} {H H' : Hp} {δ : En} {σ : L2.St} {R : XD} (x : XL K W ι H R) (ev : EnvIs K ι H δ σ) (s : Stp ι H ι' H') : KtX K ι' H' (fun C fs μ2 => R δ C fs μ2) (L2.WE W σ) :=
  fun C fs d ι2 μ2 H2 s2 r2 f2 q => x ι2 μ2 δ σ H2 C fs d (s.trans s2) r2 (ev.stp (s.trans s2)) f2 q
theorem q_call (F : FnG X.prog X.w X.K X.mg X.base k f fd ps (spOf X.K sp)) (gd : X.A.guards = some []) (hr : Room k X.A) (hg : Gl X x) (hm : X.mg x = some (.ref f)) (hk : PySem.W.keepIn X.K (.ref f) = true) (hb : Binds X.K fd ps [])
    (tk : Takes X W) (ha : QA X W (e :: es) wa) (hdb : (x == ("__debug__" : Str)) = false := by decide)
    (he : starEach (e :: es) X.env = (false, eval e X.env) :: starEach es X.env := by rfl) (hpl : (backTo pos (starEach es X.env)).any (·.1) = false := by rfl) :
    QE X W (.Call (.Name x p) (e :: es) [] pos) (wCall sp wa) := by
  obtain ⟨t, h1, h2⟩ := ha
  refine ⟨_, pe_callG (E := L2.WE W) F gd hr hg hm hk hb (fun σ => passAt tk σ) h1 hdb he hpl, fun R ι μ δ σ H P Q c h kt => ?_⟩
  exact h2 R ι μ δ σ H _ _ c h fun vs ds ι1 μ1 H1 s1 r1 i1 q1 => ⟨ι1, μ1, ds, P, _, r1, i1, q1, kt.stp s1, ktx_of (μ' := μ1) c.xl c.env s1⟩
theorem q_call0 (F : FnG X.prog X.w X.K X.mg X.base k f fd ps (spOf X.K sp)) (gd : X.A.guards = some []) (hr : Room k X.A) (hg : Gl X x) (hm : X.mg x = some (.ref f)) (hk : PySem.W.keepIn X.K (.ref f) = true) (hb : Binds X.K fd ps [])
    (tk : Takes X W) (hdb : (x == ("__debug__" : Str)) = false := by decide) : QE X W (.Call (.Name x p) [] [] pos) (wCall sp wNil) :=
  ⟨_, pe_callG0 (E := L2.WE W) F gd hr hg hm hk hb (fun σ => passAt tk σ) hdb, fun R ι μ δ σ H P Q c h kt =>
    ⟨ι, μ, [], P, _, c.rel, rfl, h, kt, ktx_of (μ' := μ) c.xl c.env (Stp.refl ι H)⟩⟩
def wCallK (n m : Nat) (sp : SpD) (g : {α : Type} → List α → List α → List α) (wa wk : WA) : WE := fun R δ μ P => wa R δ μ fun ds μ1 => wk R δ μ1 fun es μ2 => ds.length = n ∧ es.length = m ∧ sp (g ds es) μ2 P fun C fs μ3 => R δ C fs μ3
variable {kws : List Keyword} {ks : List Str} {n : Nat} {g : {α : Type} → List α → List α → List α}
/-- what g must do for data -/
def GAll (n m : Nat) (g : {α : Type} → List α → List α → List α) : Prop := ∀ (K : PySem.W.Frag) (ι : List Addr) (H : Hp) (ds es : List D) (vs zs : List V), ds.length = n → es.length = m → IsAll K ι H ds vs → IsAll K ι H es zs → IsAll K ι H (g ds es) (g vs zs)
theorem q_callK (F : FnG X.prog X.w X.K X.mg X.base k f fd ps (spOf X.K sp)) (gd : X.A.guards = some []) (hr : Room k X.A) (hg : Gl X x) (hm : X.mg x = some (.ref f)) (hk : PySem.W.keepIn X.K (.ref f) = true) (hb : KBd X.K fd ps ks n g) (hG : GAll n ks.length g)
    (tk : Takes X W) (ha : QA X W (e :: es) wa) (hkw : QK X W kws wk) (hall : (backToKw pos (keywordEach kws X.env)).all (·.1.isSome) = true := by rfl)
    (hks : (backToKw pos (keywordEach kws X.env)).filterMap (·.1) = ks := by rfl) (hdb : (x == ("__debug__" : Str)) = false := by decide) (he : starEach (e :: es) X.env = (false, eval e X.env) :: starEach es X.env := by rfl)
    (hpl : ((backTo pos (starEach (e :: es) X.env)).any (·.1) || (backToKw pos (keywordEach kws X.env)).any (·.1.isNone)) = false := by rfl) :
    QE X W (.Call (.Name x p) (e :: es) kws pos) (wCallK n ks.length sp g wa wk) := by
  obtain ⟨t, h1, h2⟩ := ha
  obtain ⟨t', h3, h4⟩ := hkw
  refine ⟨_, pe_callGK (E := L2.WE W) F gd hr hg hm hk hb (fun σ => passAt tk σ) h1 h3 hall hks hdb he hpl, fun R ι μ δ σ H P Q c h kt => ?_⟩
  refine h2 R ι μ δ σ H _ _ c h fun vs ds ι1 μ1 H1 s1 r1 i1 q1 => h4 R ι1 μ1 δ σ H1 _ _ (c.stp s1 r1) q1 fun zs es ι2 μ2 H2 s2 r2 i2 q2 => ?_
  obtain ⟨l1, l2, q⟩ := q2
  exact ⟨i1.length.trans l1, i2.length.trans l2, ι2, μ2, _, P, _, r2, hG _ _ _ _ _ _ _ l1 l2 (IsAll.stp s2 _ _ i1) i2, q, kt.stp (s1.trans s2), ktx_of (μ' := μ2) c.xl c.env (s1.trans s2)⟩
theorem q_callK0 (F : FnG X.prog X.w X.K X.mg X.base k f fd ps (spOf X.K sp)) (gd : X.A.guards = some []) (hr : Room k X.A) (hg : Gl X x) (hm : X.mg x = some (.ref f)) (hk : PySem.W.keepIn X.K (.ref f) = true) (hb : KBd X.K fd ps ks 0 g) (hG : GAll 0 ks.length g)
    (tk : Takes X W) (hkw : QK X W kws wk) (hall : (backToKw pos (keywordEach kws X.env)).all (·.1.isSome) = true := by rfl)
    (hks : (backToKw pos (keywordEach kws X.env)).filterMap (·.1) = ks := by rfl) (hdb : (x == ("__debug__" : Str)) = false := by decide)
    (hpl : ((backTo pos (starEach [] X.env)).any (·.1) || (backToKw pos (keywordEach kws X.env)).any (·.1.isNone)) = false := by rfl) :
    QE X W (.Call (.Name x p) [] kws pos) (wCallK 0 ks.length sp g wNil wk) := by
  obtain ⟨t', h3, h4⟩ := hkw
  refine ⟨_, pe_callGK0 (E := L2.WE W) F gd hr hg hm hk hb (fun σ => passAt tk σ) h3 hall hks hdb hpl, fun R ι μ δ σ H P Q c h kt => ?_⟩
  refine h4 R ι μ δ σ H _ _ c h fun zs es ι2 μ2 H2 s2 r2 i2 q2 => ?_
  obtain ⟨l1, l2, q⟩ := q2
  exact ⟨rfl, i2.length.trans l2, ι2, μ2, _, P, _, r2, hG _ _ _ _ _ [] _ l1 l2 rfl i2, q, kt.stp s2, ktx_of (μ' := μ2) c.xl c.env s2⟩
end

/-! ### statements -/
structure EndsD where
  nx : En → Sto → Prop
  rt : D → Sto → Prop
  bk : En → Sto → Prop := fun _ _ => False
  ct : En → Sto → Prop := fun _ _ => False
abbrev WS := XD → EndsD → En → Sto → Prop
structure Lk (K : PySem.W.Frag) (ι : List Addr) (H : Hp) (E : EndsD) (D : Ends) : Prop where
  nx : ∀ ι' μ' H' δ' σ', Stp ι H ι' H' → Rel K ι' μ' H' → EnvIs K ι' H' δ' σ' → E.nx δ' μ' → D.nx σ' H'
  rt : ∀ v d ι' μ' H', Stp ι H ι' H' → Rel K ι' μ' H' → Is K ι' H' d v → E.rt d μ' → D.rt v H'
  bk : ∀ ι' μ' H' δ' σ', Stp ι H ι' H' → Rel K ι' μ' H' → EnvIs K ι' H' δ' σ' → E.bk δ' μ' → D.bk σ' H'
  ct : ∀ ι' μ' H' δ' σ', Stp ι H ι' H' → Rel K ι' μ' H' → EnvIs K ι' H' δ' σ' → E.ct δ' μ' → D.ct σ' H'
theorem Lk.stp {K : PySem.W.Frag} {ι ι1 : List Addr} {H H1 : Hp} {E : EndsD} {D : Ends} (l : Lk K ι H E D) (s : Stp ι H ι1 H1) : Lk K ι1 H1 E D :=
  ⟨fun a b c d e z => l.nx a b c d e (s.trans z), fun a b c d e z => l.rt a b c d e (s.trans z), fun a b c d e z => l.bk a b c d e (s.trans z), fun a b c d e z => l.ct a b c d e (s.trans z)⟩
def RS (K : PySem.W.Frag) (W : WX) (t : TS) (w : WS) : Prop := ∀ R ι μ δ σ H E D, Cn K W ι μ H δ σ R → w R E δ μ → Lk K ι H E D → t D σ H
def QS (X : Cx) (W : WX) (st : Stmt) (w : WS) : Prop := ∃ t, PS X st t ∧ RS X.K W t w
def QSs (X : Cx) (W : WX) (st : List Stmt) (w : WS) : Prop := ∃ t, PSs X st t ∧ RS X.K W t w
section
variable {X : Cx} {W : WX} {st : Stmt} {rest : List Stmt} {w v : WS} {e : Expr} {we : WE} {pos p : Pos}
def wNext : WS := fun _ E δ μ => E.nx δ μ
def wSeq (w v : WS) : WS := fun R E δ μ => w R { E with nx := fun δ' μ' => v R E δ' μ' } δ μ
theorem rs_next {K : PySem.W.Frag} : RS K W tNext wNext := fun R ι μ δ σ H E D c h l => l.nx ι μ H δ σ (Stp.refl ι H) c.rel c.env h
theorem rs_seq {K : PySem.W.Frag} {t u : TS} (h1 : RS K W t w) (h2 : RS K W u v) : RS K W (tSeq t u) (wSeq w v) := fun R ι μ δ σ H E D c h l =>
  h1 R ι μ δ σ H { E with nx := fun δ' μ' => v R E δ' μ' } { D with nx := u D } c h ⟨fun ι' μ' H' δ' σ' s r e q => h2 R ι' μ' δ' σ' H' E D ⟨r, e, c.xl.stp s⟩ q (l.stp s), l.rt, l.bk, l.ct⟩
theorem qss_nil : QSs X W [] wNext := ⟨_, pss_nil, rs_next⟩
theorem qss_cons (h : QS X W st w) (h' : QSs X W rest v) : QSs X W (st :: rest) (wSeq w v) := by
  obtain ⟨t, h1, h2⟩ := h
  obtain ⟨t', h3, h4⟩ := h'
  exact ⟨_, pss_cons h1 h3, rs_seq h2 h4⟩
theorem qss_one (h : QS X W st w) : QSs X W [st] w := by
  obtain ⟨t, h1, h2⟩ := h
  exact ⟨_, pss_one h1, h2⟩
theorem qs_doc {x j pos'} : QS X W (.Expr (.Constant (.str x) j pos) pos') wNext := ⟨_, ps_doc, rs_next⟩
theorem qs_pass : QS X W (.Pass pos) wNext := ⟨_, ps_pass, rs_next⟩
def wDrop (we : WE) : WS := fun R E δ μ => we R δ μ fun _ μ1 => E.nx δ μ1
theorem qs_expr (he : QE X W e we) (hs : swapsWith e none pos.line X.env = pure false := by rfl) : QS X W (.Expr e pos) (wDrop we) := by
  obtain ⟨t, h1, h2⟩ := he
  exact ⟨_, ps_expr h1 hs, fun R ι μ δ σ H E D c h l => h2 R ι μ δ σ H _ _ c h fun v d ι1 μ1 H1 s1 r1 i1 q1 => l.nx ι1 μ1 H1 δ σ s1 r1 (c.env.stp s1) q1⟩
def wRet (we : WE) : WS := fun R E δ μ => we R δ μ E.rt
theorem qs_ret (he : QE X W e we) : QS X W (.Return (some e) pos) (wRet we) := by
  obtain ⟨t, h1, h2⟩ := he
  exact ⟨_, ps_ret h1, fun R ι μ δ σ H E D c h l => h2 R ι μ δ σ H _ _ c h fun v d ι1 μ1 H1 s1 r1 i1 q1 => l.rt v d ι1 μ1 H1 s1 r1 i1 q1⟩
def wRetN : WS := fun _ E _ μ => E.rt .non μ
theorem qs_retN : QS X W (.Return none pos) wRetN := ⟨_, ps_retN, fun R ι μ δ σ H E D c h l => l.rt .non .non ι μ H (Stp.refl ι H) c.rel rfl h⟩
def wBrk : WS := fun _ E δ μ => E.bk δ μ
def wCnt : WS := fun _ E δ μ => E.ct δ μ
theorem qs_break : QS X W (.Break pos) wBrk := ⟨_, ps_break, fun R ι μ δ σ H E D c h l => l.bk ι μ H δ σ (Stp.refl ι H) c.rel c.env h⟩
theorem qs_continue : QS X W (.Continue pos) wCnt := ⟨_, ps_continue, fun R ι μ δ σ H E D c h l => l.ct ι μ H δ σ (Stp.refl ι H) c.rel c.env h⟩
def wIfS (wt : WT) (w v : WS) : WS := fun R E δ μ => wt R δ μ fun k μ1 => match k with
  | true => w R E δ μ1
  | false => v R E δ μ1
theorem qs_if {c : Expr} {a b : List Stmt} {wt : WT} (hc : QT X W c wt) (ha : QSs X W a w) (hb : QSs X W b v) : QS X W (.If c a b pos) (wIfS wt w v) := by
  obtain ⟨tc, c1, c2⟩ := hc
  obtain ⟨ta, a1, a2⟩ := ha
  obtain ⟨tb, b1, b2⟩ := hb
  refine ⟨_, ps_if c1 a1 b1, fun R ι μ δ σ H E D c h l => c2 R ι μ δ σ H _ _ c h fun z ι1 μ1 H1 s1 r1 q1 => ?_⟩
  cases z with
  | true =>
    show ta D σ H1
    exact a2 R ι1 μ1 δ σ H1 E D (c.stp s1 r1) q1 (l.stp s1)
  | false =>
    show tb D σ H1
    exact b2 R ι1 μ1 δ σ H1 E D (c.stp s1 r1) q1 (l.stp s1)
/-- code that is never come to -/
def wNever : WS := fun _ _ _ _ => False
theorem qs_never : QS X W st wNever := ⟨_, ps_never, fun _ _ _ _ _ _ _ _ _ h _ => h.elim⟩
theorem qss_never {sts : List Stmt} : QSs X W sts wNever := ⟨_, pss_never, fun _ _ _ _ _ _ _ _ _ h _ => h.elim⟩

/-! targets -/
abbrev WG := XD → D → En → Sto → (En → Sto → Prop) → Prop
abbrev WGs := XD → List D → En → Sto → (En → Sto → Prop) → Prop
def KtG (K : PySem.W.Frag) (ι : List Addr) (H : Hp) (P : En → Sto → Prop) (Q : L2.St → Hp → Prop) : Prop := ∀ ι' μ' H' δ' σ', Stp ι H ι' H' → Rel K ι' μ' H' → EnvIs K ι' H' δ' σ' → P δ' μ' → Q σ' H'
theorem KtG.stp {K : PySem.W.Frag} {ι ι' : List Addr} {H H' : Hp} {P : En → Sto → Prop} {Q : L2.St → Hp → Prop} (k : KtG K ι H P Q) (s : Stp ι H ι' H') : KtG K ι' H' P Q := fun a b c d e z => k a b c d e (s.trans z)
def RG (K : PySem.W.Frag) (W : WX) (t : TG) (w : WG) : Prop := ∀ R ι μ δ σ H v d P Q, Cn K W ι μ H δ σ R → Is K ι H d v → w R d δ μ P → KtG K ι H P Q → t v σ H Q
def RGs (K : PySem.W.Frag) (W : WX) (t : TGs) (w : WGs) : Prop := ∀ R ι μ δ σ H vs ds P Q, Cn K W ι μ H δ σ R → IsAll K ι H ds vs → w R ds δ μ P → KtG K ι H P Q → t vs σ H Q
def QG (X : Cx) (W : WX) (e : Expr) (w : WG) : Prop := ∃ t, PG X e t ∧ RG X.K W t w
def QGs (X : Cx) (W : WX) (es : List Expr) (w : WGs) : Prop := ∃ t, PGs X es t ∧ RGs X.K W t w
def wgName (i : Nat) : WG := fun _ d δ μ P => P (put δ i (some d)) μ
theorem rg_name {K : PySem.W.Frag} (i : Nat) : RG K W (gName i) (wgName i) := fun R ι μ δ σ H v d P Q c hv h k => k ι μ H _ _ (Stp.refl ι H) c.rel (c.env.put hv) h
theorem qg_name {i : Nat} {x : Str} (hN : X.N.Nodup) (hi : X.N[i]? = some x) (hx : Loc X.env.scope x) (hf : X.fn x = true ∨ X.env.scope.names.lookup x = some .local := by first | exact .inl rfl | exact .inr rfl | assumption) : QG X W (.Name x pos) (wgName i) :=
  ⟨_, pg_name hN hi hx hf, rg_name i⟩
def wgNil : WGs := fun _ _ δ μ P => P δ μ
def wgCons (w : WG) (ws : WGs) : WGs := fun R ds δ μ P => match ds with
  | d :: r => w R d δ μ fun δ' μ' => ws R r δ' μ' P
  | [] => False
def wgEnd : WGs := fun R ds δ μ P => match ds with
  | [] => P δ μ
  | _ :: _ => False
theorem qgs_nil : QGs X W [] wgEnd := ⟨_, pgs_nil, fun R ι μ δ σ H vs ds P Q c hv h k => by
  cases ds with
  | nil =>
    have e : vs = [] := hv
    exact ⟨e, k ι μ H _ _ (Stp.refl ι H) c.rel c.env h⟩
  | cons d r => exact h.elim⟩
theorem qgs_cons {es : List Expr} {wg : WG} {wgs : WGs} (h : QG X W e wg) (h' : QGs X W es wgs) (hs : (assignEach (e :: es) X.env).map (·.2) = assign e X.env :: (assignEach es X.env).map (·.2) := by rfl) : QGs X W (e :: es) (wgCons wg wgs) := by
  obtain ⟨t, h1, h2⟩ := h
  obtain ⟨t', h3, h4⟩ := h'
  refine ⟨_, pgs_cons h1 h3 hs, fun R ι μ δ σ H vs ds P Q c hv h k => ?_⟩
  cases ds with
  | nil => exact h.elim
  | cons d r =>
    obtain ⟨v, vr, e1, iv, ir⟩ := hv
    refine ⟨v, vr, e1, h2 R ι μ δ σ H v d _ _ c iv h fun ι' μ' H' δ' σ' s r' ev q => ?_⟩
    exact h4 R ι' μ' δ' σ' H' vr r P Q ⟨r', ev, c.xl.stp s⟩ (IsAll.stp s _ _ ir) q (k.stp s)
def wgTup (n : Nat) (ws : WGs) : WG := fun R d δ μ P => match d with
  | .tup ds => ds.length = n ∧ ws R ds δ μ P
  | .ref k => match lstAt μ k with
    | some ds => ds.length = n ∧ ws R ds δ μ P
    | none => False
  | _ => False
theorem pg_or {X : Cx} {e : Expr} {t u : TG} (h : PG X e t) (g : PG X e u) : PG X e (fun v σ H Q => t v σ H Q ∨ u v σ H Q) :=
  ⟨fun pins s σ H v w Q I r hw => hw.elim (h.run pins s σ H v w Q I r) (g.run pins s σ H v w Q I r)⟩
theorem qg_tup {es : List Expr} {k : Nat} {n : Nat} {ws : WGs} (hc : X.calm = true) (h : QGs X W es ws) (hn : (assignEach es X.env).length = n := by rfl) (hst : (assignEach es X.env).findIdx? (·.1) = none := by rfl) : QG X W (.Tuple es k pos) (wgTup n ws) := by
  obtain ⟨t, h1, h2⟩ := h
  refine ⟨_, pg_or (pg_tup hc h1 hn hst) (pg_unl hc h1 hn hst), fun R ι μ δ σ H v d P Q c hv h k => ?_⟩
  cases d with
  | tup ds =>
    obtain ⟨a, xs, e, q, r⟩ := hv
    obtain ⟨hl, hw⟩ := h
    exact .inl ⟨a, xs, e, q, r.length.trans hl, h2 R ι μ δ σ H xs ds P Q c r hw k⟩
  | ref kk =>
    have h' : match lstAt μ kk with
      | some ds => ds.length = n ∧ ws R ds δ μ P
      | none => False := h
    split at h'
    · rename_i ds el
      obtain ⟨a, xs, f1, f2, r⟩ := c.rel.lst el
      obtain ⟨a', ea, e⟩ := hv
      rw [f1] at ea
      cases ea
      exact .inr ⟨a, xs, e, SqL.of f2, r.length.trans h'.1, h2 R ι μ δ σ H xs ds P Q c r h'.2 k⟩
    · exact h'.elim
  | _ => exact h.elim
/-- xs[i] = v, a list of the store -/
def wSetL (o i v : D) (μ : Sto) (P : Sto → Prop) : Prop := match o, i with
  | .ref k, .int n => match lstAt μ k with
    | some xs => match ixN xs.length n with
      | some j => P (μ.set k (.lst (xs.set j v)))
      | none => False
    | none => False
  | _, _ => False
def wgSub (wo wi : WE) : WG := fun R d δ μ P => wo R δ μ fun o μ1 => wi R δ μ1 fun i μ2 => wSetL o i d μ2 fun μ3 => P δ μ3
theorem qg_sub {o i : Expr} {wo wi : WE} (ho : QE X W o wo) (hi : QE X W i wi)
    (ha : ∀ v, assign (.Subscript o i pos) X.env v = (do
      let ov ← holding [v] (eval o X.env)
      let iv ← holding [v, ov] (eval i X.env)
      standAt pos
      holding [v, ov, iv] (setItem ov iv v)
      release [v, ov, iv] []) := by intro _; rfl) : QG X W (.Subscript o i pos) (wgSub wo wi) := by
  obtain ⟨t, h1, h2⟩ := ho
  obtain ⟨t', h3, h4⟩ := hi
  refine ⟨_, pg_sub h1 h3 set_list ha, fun R ι μ δ σ H v d P Q c hv h k => ?_⟩
  refine h2 R ι μ δ σ H _ _ c h fun x o ι1 μ1 H1 s1 r1 i1 q1 => h4 R ι1 μ1 δ σ H1 _ _ (c.stp s1 r1) q1 fun y i ι2 μ2 H2 s2 r2 i2 q2 => ?_
  unfold wSetL at q2
  split at q2
  · rename_i kk nn
    split at q2
    · rename_i xs exs
      split at q2
      · rename_i j ej
        obtain ⟨a, ys, e1, e2, e3⟩ := r2.lst exs
        have i1' := Is.stp s2 _ _ i1
        obtain ⟨a', ea', ex⟩ := i1'
        rw [e1] at ea'
        cases ea'
        refine ⟨a, ys, nn, j, ex, i2, e2, by rw [e3.length]; exact ej, ?_⟩
        have hv2 := Is.stp (s1.trans s2) _ _ hv
        exact k ι2 _ _ δ σ ((s1.trans s2).trans (Stp.wr e2)) (r2.write (lstAt_cell exs) e1 e2 (e3.set j hv2)) ((c.env.stp (s1.trans s2)).stp (Stp.wr e2)) q2
      · exact q2.elim
    · exact q2.elim
  · exact q2.elim
def wAsg (we : WE) (wg : WG) : WS := fun R E δ μ => we R δ μ fun d μ1 => wg R d δ μ1 E.nx
theorem rs_asg {K : PySem.W.Frag} {t : TE} {g : TG} {wg : WG} (h1 : RE K W t we) (h2 : RG K W g wg) : RS K W (tAsg t g) (wAsg we wg) := fun R ι μ δ σ H E D c h l =>
  h1 R ι μ δ σ H _ _ c h fun v d ι1 μ1 H1 s1 r1 i1 q1 => h2 R ι1 μ1 δ σ H1 v d _ _ (c.stp s1 r1) i1 q1 fun ι' μ' H' δ' σ' s r e q => l.nx ι' μ' H' δ' σ' (s1.trans s) r e q
theorem qs_set {i : Nat} {x : Str} {pos' : Pos} (hN : X.N.Nodup) (hi : X.N[i]? = some x) (hx : Loc X.env.scope x) (he : QE X W e we) (hs : swapsWith e (some (.Name x pos')) pos.line X.env = pure false := by rfl) (hf : X.fn x = true ∨ X.env.scope.names.lookup x = some .local := by first | exact .inl rfl | exact .inr rfl | assumption) :
    QS X W (.Assign [.Name x pos'] e pos) (wAsg we (wgName i)) := by
  obtain ⟨t, h1, h2⟩ := he
  exact ⟨_, ps_set hN hi hx h1 hs hf, rs_asg h2 (rg_name i)⟩
theorem qs_asg {tg : Expr} {wg : WG} (he : QE X W e we) (hg : QG X W tg wg) (hs : swapsWithSole [tg] e pos.line X.env = pure false := by rfl) (hw : swappedStores [tg] e X.env = pure none := by rfl)
    (h1 : (assignEach [tg] X.env).map (·.2) = [assign tg X.env] := by rfl) : QS X W (.Assign [tg] e pos) (wAsg we wg) := by
  obtain ⟨t, a1, a2⟩ := he
  obtain ⟨g, b1, b2⟩ := hg
  exact ⟨_, ps_asg a1 b1 hs hw h1, rs_asg a2 b2⟩
/-- x, y = a, b -/
def wPar (i j : Nat) (wa : WA) : WS := fun R E δ μ => wa R δ μ fun ds μ1 => match ds with
  | [d, f] => E.nx (put (put δ i (some d)) j (some f)) μ1
  | _ => False
theorem qs_par {i j : Nat} {x y : Str} {a b : Expr} {wa : WA} {px py pt : Pos} {kt k2 pt2} (hc : X.calm = true) (hN : X.N.Nodup) (hi : X.N[i]? = some x) (hj : X.N[j]? = some y) (hij : i ≠ j)
    (hx : X.env.scope.names.lookup x = some .local) (hy : X.env.scope.names.lookup y = some .local) (ha : QA X W [a, b] wa)
    (hw : swappedStores [.Tuple [.Name x px, .Name y py] kt pt] (.Tuple [a, b] k2 pt2) X.env = pure (some [x, y]))
    (hs : swapsWithSole [.Tuple [.Name x px, .Name y py] kt pt] (.Tuple [a, b] k2 pt2) pos.line X.env = pure false := by rfl) :
    QS X W (.Assign [.Tuple [.Name x px, .Name y py] kt pt] (.Tuple [a, b] k2 pt2) pos) (wPar i j wa) := by
  obtain ⟨t, a1, a2⟩ := ha
  refine ⟨_, ps_par hc hN hi hj hij hx hy a1 hw hs, fun R ι μ δ σ H E D c h l => a2 R ι μ δ σ H _ _ c h fun vs ds ι1 μ1 H1 s1 r1 i1 q1 => ?_⟩
  match ds, i1, q1 with
  | [d, f], i1, q1 =>
    obtain ⟨v, r, e1, iv, r2⟩ := i1
    obtain ⟨u, r', e2, iu, e3⟩ := r2
    have e3' : r' = [] := e3
    subst e3'
    subst e2
    exact ⟨v, u, e1, l.nx ι1 μ1 H1 _ _ s1 r1 (((c.env.stp s1).put iv).put iu) q1⟩
  | [], _, q1 => exact q1.elim
  | [_], _, q1 => exact q1.elim
  | _ :: _ :: _ :: _, _, q1 => exact q1.elim

/-! while -/
def wWhile (wt : WT) (wb : WS) : WS := fun R E δ μ => ∃ Wv : Nat → En → Sto → Prop, (∃ m, Wv m δ μ) ∧ ∀ m δ' μ', Wv m δ' μ' →
  wt R δ' μ' fun k μ1 => match k with
    | true => wb R { E with nx := fun δ2 μ2 => ∃ m', m' < m ∧ Wv m' δ2 μ2, ct := fun δ2 μ2 => ∃ m', m' < m ∧ Wv m' δ2 μ2, bk := E.nx } δ' μ1
    | false => E.nx δ' μ1
theorem qs_while {c : Expr} {body : List Stmt} {wt : WT} {wb : WS} (hp : PassesOwn (model X.prog X.w) X.A X.env X.xe) (hc : QT X W c wt) (hb : QSs X W body wb) : QS X W (.While c body [] pos) (wWhile wt wb) := by
  obtain ⟨tc, c1, c2⟩ := hc
  obtain ⟨tb, b1, b2⟩ := hb
  refine ⟨_, ps_while hp c1 b1, fun R ι μ δ σ H E D c h l => ?_⟩
  obtain ⟨Wv, ⟨m0, w0⟩, turn⟩ := h
  refine ⟨fun m σ' H' => ∃ ι' μ' δ', Stp ι H ι' H' ∧ Rel X.K ι' μ' H' ∧ EnvIs X.K ι' H' δ' σ' ∧ Wv m δ' μ', ⟨m0, ι, μ, δ, Stp.refl ι H, c.rel, c.env, w0⟩, fun m σ' H' hw => ?_⟩
  obtain ⟨ι', μ', δ', s', r', e', w'⟩ := hw
  refine c2 R ι' μ' δ' σ' H' _ _ ⟨r', e', c.xl.stp s'⟩ (turn m δ' μ' w') fun b ι1 μ1 H1 s1 r1 q1 => ?_
  cases b with
  | true =>
    rw [if_pos rfl]
    refine ⟨fun σ2 H2 => ∃ m', m' < m ∧ ∃ ι2 μ2 δ2, Stp ι H ι2 H2 ∧ Rel X.K ι2 μ2 H2 ∧ EnvIs X.K ι2 H2 δ2 σ2 ∧ Wv m' δ2 μ2, fun σ2 H2 z => z, ?_⟩
    refine b2 R ι1 μ1 δ' σ' H1 _ _ ⟨r1, e'.stp s1, c.xl.stp (s'.trans s1)⟩ q1 ?_
    have fin : ∀ ι2 μ2 H2 δ2 σ2, Stp ι1 H1 ι2 H2 → Rel X.K ι2 μ2 H2 → EnvIs X.K ι2 H2 δ2 σ2 → (∃ m', m' < m ∧ Wv m' δ2 μ2) → ∃ m', m' < m ∧ ∃ ι2 μ2 δ2, Stp ι H ι2 H2 ∧ Rel X.K ι2 μ2 H2 ∧ EnvIs X.K ι2 H2 δ2 σ2 ∧ Wv m' δ2 μ2 :=
      fun ι2 μ2 H2 δ2 σ2 s2 r2 e2 ⟨m', hm, q⟩ => ⟨m', hm, ι2, μ2, δ2, (s'.trans s1).trans s2, r2, e2, q⟩
    exact ⟨fin, (l.stp (s'.trans s1)).rt, (l.stp (s'.trans s1)).nx, fin⟩
  | false =>
    rw [if_neg Bool.false_ne_true]
    exact l.nx ι1 μ1 H1 δ' σ' (s'.trans s1) r1 (e'.stp s1) q1

end
end HD
set_option maxHeartbeats 1000000
namespace HD
open PySem PySem.Spec PyProof.Rows L2
section
variable {X : Cx} {W : WX} {st : Stmt} {rest : List Stmt} {w v : WS} {e : Expr} {we : WE} {pos p : Pos}
/-! for -/
/-- the items of a list or a tuple that is walked -/
def itemsOf (μ : Sto) : D → Option (List D)
  | .ref k => lstAt μ k
  | .ro xs => some xs
  | .tup xs => some xs
  | _ => none
def isTup : D → Bool
  | .tup _ => true
  | _ => false
def Sq (K : PySem.W.Frag) (k : Bool) (H : Hp) (a : Addr) (ys : List V) : Prop := match k with
  | true => SqT K H a ys
  | false => SqL K H a ys
def ItA (K : PySem.W.Frag) (k : Bool) (a : Addr) : It := match k with
  | true => Itt K a
  | false => Itl K a
theorem ItA.go {K : PySem.W.Frag} {k : Bool} {a : Addr} {ys : List V} {i : Nat} {y : V} {H : Hp} (q : Sq K k H a ys) (e : ys[i]? = some y) : (ItA K k a).go i H := by
  cases k
  · exact ⟨ys, y, q, e⟩
  · exact ⟨ys, y, q, e⟩
theorem ItA.stop {K : PySem.W.Frag} {k : Bool} {a : Addr} {ys : List V} {i : Nat} {H : Hp} (q : Sq K k H a ys) (e : ys.length ≤ i) : (ItA K k a).stop i H := by
  cases k
  · exact ⟨ys, q, e⟩
  · exact ⟨ys, q, e⟩
theorem ItA.yld {K : PySem.W.Frag} {k : Bool} {a : Addr} {i : Nat} {x : V} {H H' : Hp} (h : (ItA K k a).yld i H x H') : H' = H ∧ ∀ ys, Sq K k H a ys → ys[i]? = some x := by
  cases k
  · exact h
  · exact h
def iAny (K : PySem.W.Frag) (tl : TE) : TI := fun σ H R => tl σ H fun x H1 => ∃ a k, x = .ref a ∧ (∃ xs, Sq K k H1 a xs) ∧ R (ItA K k a) H1
theorem pi_any {tg l : Expr} {tl : TE} (hl : PE X l tl) : PI X tg l (iAny X.K tl) := by
  refine ⟨fun pins s σ H R I h => ?_⟩
  refine thn (hl.run pins s σ H _ I h) fun v s1 ⟨x, H1, I1, r1, q1⟩ => ?_
  obtain ⟨a, k, e, ⟨xs, hq⟩, q⟩ := q1
  subst e
  cases r1
  cases k with
  | false =>
    obtain ⟨its, rv, p, hz⟩ := I1.list hq
    refine wpAny_pyIter_list p.isList ?_
    refine ⟨s1.heap.objs.size, [s1.heap.objs.size], _, _, H1, rfl, I1.kept (t' := s1.toks) fun b o e => Heap.get?_push_of_some _ e, turn_list a _, ⟨_, Heap.get?_push_size _ rfl, rfl, rfl⟩, fun b hb => ?_, q⟩
    have e : b = s1.heap.objs.size := by simpa using hb
    subst e
    exact I1.fpOk (Nat.le_refl _) (I1.hok.fresh (Nat.le_refl _))
  | true =>
    obtain ⟨its, rv, p, hz⟩ := I1.tuple hq
    refine wpAny_pyIter_tuple (show s1.heap.IsTuple a its.toArray from p) ?_
    refine ⟨s1.heap.objs.size, [s1.heap.objs.size], _, _, H1, rfl, I1.kept (t' := s1.toks) fun b o e => Heap.get?_push_of_some _ e, turn_tuple a _, ⟨_, Heap.get?_push_size _ rfl, rfl, rfl⟩, fun b hb => ?_, q⟩
    have e : b = s1.heap.objs.size := by simpa using hb
    subst e
    exact I1.fpOk (Nat.le_refl _) (I1.hok.fresh (Nat.le_refl _))
theorem items_seq {K : PySem.W.Frag} {ι : List Addr} {μ : Sto} {H : Hp} {d : D} {v : V} {xs : List D} (r : Rel K ι μ H) (i : Is K ι H d v) (h : itemsOf μ d = some xs) : ∃ a ys, v = .ref a ∧ Sq K (isTup d) H a ys ∧ IsAll K ι H xs ys := by
  cases d with
  | ref k =>
    obtain ⟨a, ys, e1, e2, e3⟩ := r.lst (show lstAt μ k = some xs from h)
    obtain ⟨a', ea, ev⟩ := i
    rw [e1] at ea
    cases ea
    exact ⟨a, ys, ev, SqL.of e2, e3⟩
  | ro zs =>
    obtain ⟨a, ys, ev, q, t⟩ := i
    have e : zs = xs := Option.some.inj h
    subst e
    exact ⟨a, ys, ev, q.seq, t⟩
  | tup zs =>
    obtain ⟨a, ys, ev, q, t⟩ := i
    have e : zs = xs := Option.some.inj h
    subst e
    exact ⟨a, ys, ev, q, t⟩
  | _ => cases h
def wForL (wl : WE) (wg : WG) (wb : WS) : WS := fun R E δ μ => wl R δ μ fun d μ1 => ∃ (xs : List D) (Pv : Nat → En → Sto → Prop), Pv 0 δ μ1 ∧ (∀ i δ' μ', i ≤ xs.length → Pv i δ' μ' → itemsOf μ' d = some xs) ∧
  (∀ i x δ' μ', xs[i]? = some x → Pv i δ' μ' → wg R x δ' μ' fun δ2 μ2 => wb R { E with nx := Pv (i + 1), ct := Pv (i + 1), bk := E.nx } δ2 μ2) ∧ ∀ δ' μ', Pv xs.length δ' μ' → E.nx δ' μ'
theorem qs_forL {tg iter : Expr} {body : List Stmt} {wl : WE} {wg : WG} {wb : WS} (hp : PassesOwn (model X.prog X.w) X.A X.env X.xe) (hc : X.calm = true) (hi : QE X W iter wl) (hg : QG X W tg wg) (hb : QSs X W body wb)
    (hs : ∀ x, foldedSetIterable iter X.env x = pure x := by intro _; rfl) : QS X W (.For tg iter body [] pos) (wForL wl wg wb) := by
  obtain ⟨tl, l1, l2⟩ := hi
  obtain ⟨g, g1, g2⟩ := hg
  obtain ⟨tb, b1, b2⟩ := hb
  refine ⟨_, ps_for hp hc (pi_any l1) g1 b1 hs, fun R ι μ δ σ H E D c h l => l2 R ι μ δ σ H _ _ c h fun v d ι1 μ1 H1 s1 r1 i1 q1 => ?_⟩
  obtain ⟨xs, Pv, h0, hl, ht, hd⟩ := q1
  obtain ⟨a, ys0, ev, q0, t0⟩ := items_seq r1 i1 (hl 0 δ μ1 (Nat.zero_le _) h0)
  subst ev
  refine ⟨a, isTup d, rfl, ⟨ys0, q0⟩, fun i m σ' H' => m = xs.length - i ∧ i ≤ xs.length ∧ ∃ ι' μ' δ', Stp ι1 H1 ι' H' ∧ Rel X.K ι' μ' H' ∧ EnvIs X.K ι' H' δ' σ' ∧ Pv i δ' μ',
    ⟨xs.length, rfl, Nat.zero_le _, ι1, μ1, δ, Stp.refl _ _, r1, c.env.stp s1, h0⟩, fun i m σ' H' hw => ?_⟩
  obtain ⟨em, hle, ι', μ', δ', s', r', e', w'⟩ := hw
  obtain ⟨a', ys, ev, q', t'⟩ := items_seq r' (Is.stp s' _ _ i1) (hl i δ' μ' hle w')
  cases ev
  by_cases hlt : i < xs.length
  · obtain ⟨y, hy, iy⟩ := t'.get (i := i) (d := xs[i]) (List.getElem?_eq_getElem hlt)
    refine .inr ⟨ItA.go q' hy, fun σ2 H2 => ∃ ι2 μ2 δ2, Stp ι1 H1 ι2 H2 ∧ Rel X.K ι2 μ2 H2 ∧ EnvIs X.K ι2 H2 δ2 σ2 ∧ Pv (i + 1) δ2 μ2, fun σ2 H2 z => ⟨xs.length - (i + 1), by omega, rfl, hlt, z⟩, fun x H2 hx => ?_⟩
    obtain ⟨eH, fx⟩ := ItA.yld hx
    subst eH
    have exy : x = y := Option.some.inj ((fx _ q').symm.trans hy)
    subst exy
    refine g2 R ι' μ' δ' σ' _ x xs[i] _ _ ⟨r', e', c.xl.stp (s1.trans s')⟩ iy (ht i xs[i] δ' μ' (List.getElem?_eq_getElem hlt) w') fun ι2 μ2 H3 δ2 σ2 s2 r2 e2 q2 => ?_
    refine b2 R ι2 μ2 δ2 σ2 H3 _ _ ⟨r2, e2, c.xl.stp ((s1.trans s').trans s2)⟩ q2 ?_
    exact ⟨fun ι3 μ3 H4 δ3 σ3 s3 r3 e3 q3 => ⟨ι3, μ3, δ3, (s'.trans s2).trans s3, r3, e3, q3⟩, (l.stp ((s1.trans s').trans s2)).rt, (l.stp ((s1.trans s').trans s2)).nx,
      fun ι3 μ3 H4 δ3 σ3 s3 r3 e3 q3 => ⟨ι3, μ3, δ3, (s'.trans s2).trans s3, r3, e3, q3⟩⟩
  · have ei : i = xs.length := by omega
    subst ei
    exact .inl ⟨ItA.stop q' (by rw [t'.length]; exact Nat.le_refl _), l.nx ι' μ' H' δ' σ' (s1.trans s') r' e' (hd δ' μ' w')⟩
/-- over a range, from the reading of its bounds -/
def turnsR (wg : WG) (wb : WS) (lo : Int) (n : Nat) : WS := fun R E δ μ => ∃ Pv : Nat → En → Sto → Prop, Pv 0 δ μ ∧
  (∀ (i : Nat) δ' μ', i < n → Pv i δ' μ' → wg R (.int (lo + i)) δ' μ' fun δ2 μ2 => wb R { E with nx := Pv (i + 1), ct := Pv (i + 1), bk := E.nx } δ2 μ2) ∧ ∀ δ' μ', Pv n δ' μ' → E.nx δ' μ'
theorem rs_turnsR {K : PySem.W.Frag} {g : TG} {tb : TS} {wg : WG} {wb : WS} {lo : Int} {n : Nat} (g2 : RG K W g wg) (b2 : RS K W tb wb) {R : XD} {ι : List Addr} {μ : Sto} {δ : En} {σ : L2.St} {H : Hp} {E : EndsD} {D : Ends} (c : Cn K W ι μ H δ σ R)
    (h : turnsR wg wb lo n R E δ μ) (l : Lk K ι H E D) : ∃ Wv : Nat → Nat → L2.St → Hp → Prop, (∃ m, Wv 0 m σ H) ∧ ∀ i m σ H, Wv i m σ H →
      ((Itr lo n).stop i H ∧ D.nx σ H) ∨ ((Itr lo n).go i H ∧ ∃ N : L2.St → Hp → Prop, (∀ σ' H', N σ' H' → ∃ m', m' < m ∧ Wv (i + 1) m' σ' H') ∧ ∀ x H', (Itr lo n).yld i H x H' → g x σ H' fun σ2 H2 => tb { D with nx := N, ct := N, bk := D.nx } σ2 H2) := by
  obtain ⟨Pv, h0, ht, hd⟩ := h
  refine for_range (fun i σ' H' => ∃ ι' μ' δ', Stp ι H ι' H' ∧ Rel K ι' μ' H' ∧ EnvIs K ι' H' δ' σ' ∧ Pv i δ' μ') ⟨ι, μ, δ, Stp.refl ι H, c.rel, c.env, h0⟩ (fun i σ' H' hi z => ?_) fun σ' H' z => ?_
  · obtain ⟨ι', μ', δ', s', r', e', w'⟩ := z
    refine g2 R ι' μ' δ' σ' H' _ (.int (lo + i)) _ _ ⟨r', e', c.xl.stp s'⟩ rfl (ht i δ' μ' hi w') fun ι2 μ2 H3 δ2 σ2 s2 r2 e2 q2 => ?_
    refine b2 R ι2 μ2 δ2 σ2 H3 _ _ ⟨r2, e2, c.xl.stp (s'.trans s2)⟩ q2 ?_
    exact ⟨fun ι3 μ3 H4 δ3 σ3 s3 r3 e3 q3 => ⟨ι3, μ3, δ3, (s'.trans s2).trans s3, r3, e3, q3⟩, (l.stp (s'.trans s2)).rt, (l.stp (s'.trans s2)).nx,
      fun ι3 μ3 H4 δ3 σ3 s3 r3 e3 q3 => ⟨ι3, μ3, δ3, (s'.trans s2).trans s3, r3, e3, q3⟩⟩
  · obtain ⟨ι', μ', δ', s', r', e', w'⟩ := z
    exact l.nx ι' μ' H' δ' σ' s' r' e' (hd δ' μ' w')

def R62 (j : Int) : Prop := -(2 ^ 62) ≤ j ∧ j < 2 ^ 62
theorem r62 {j : Int} (h : -1000000000 ≤ j ∧ j ≤ 1000000000) : R62 j := ⟨by omega, by omega⟩
theorem isAll1 {K : PySem.W.Frag} {ι : List Addr} {H : Hp} {d : D} {vs : List V} (h : IsAll K ι H [d] vs) : ∃ v, vs = [v] ∧ Is K ι H d v := by
  obtain ⟨v, r, e1, iv, e2⟩ := h
  have e2' : r = [] := e2
  subst e2'
  exact ⟨v, e1, iv⟩
theorem isAll2 {K : PySem.W.Frag} {ι : List Addr} {H : Hp} {d e : D} {vs : List V} (h : IsAll K ι H [d, e] vs) : ∃ v u, vs = [v, u] ∧ Is K ι H d v ∧ Is K ι H e u := by
  obtain ⟨v, r, e1, iv, e2⟩ := h
  obtain ⟨u, e3, iu⟩ := isAll1 e2
  subst e3
  exact ⟨v, u, e1, iv, iu⟩
theorem isAll3 {K : PySem.W.Frag} {ι : List Addr} {H : Hp} {d e f : D} {vs : List V} (h : IsAll K ι H [d, e, f] vs) : ∃ v u w, vs = [v, u, w] ∧ Is K ι H d v ∧ Is K ι H e u ∧ Is K ι H f w := by
  obtain ⟨v, r, e1, iv, e2⟩ := h
  obtain ⟨u, w, e3, iu, iw⟩ := isAll2 e2
  subst e3
  exact ⟨v, u, w, e1, iv, iu, iw⟩
/-- the arguments are one int, two, three -/
def ints1 (P : Int → Prop) : List D → Prop
  | [.int i] => P i
  | _ => False
def ints2 (P : Int → Int → Prop) : List D → Prop
  | [.int i, .int j] => P i j
  | _ => False
def ints3 (P : Int → Int → Int → Prop) : List D → Prop
  | [.int i, .int j, .int k] => P i j k
  | _ => False
theorem ints1_of {P : Int → Prop} {ds : List D} (h : ints1 P ds) : ∃ i, ds = [.int i] ∧ P i := by
  unfold ints1 at h
  split at h
  · exact ⟨_, rfl, h⟩
  · exact h.elim
theorem ints2_of {P : Int → Int → Prop} {ds : List D} (h : ints2 P ds) : ∃ i j, ds = [.int i, .int j] ∧ P i j := by
  unfold ints2 at h
  split at h
  · exact ⟨_, _, rfl, h⟩
  · exact h.elim
theorem ints3_of {P : Int → Int → Int → Prop} {ds : List D} (h : ints3 P ds) : ∃ i j k, ds = [.int i, .int j, .int k] ∧ P i j k := by
  unfold ints3 at h
  split at h
  · exact ⟨_, _, _, rfl, h⟩
  · exact h.elim

def wForR1 (wa : WA) (wg : WG) (wb : WS) : WS := fun R E δ μ => wa R δ μ fun ds μ1 => ints1 (fun j => R62 j ∧ turnsR wg wb 0 j.toNat R E δ μ1) ds
theorem qs_forR1 {tg a : Expr} {pr p' : Pos} {body : List Stmt} {wa : WA} {wg : WG} {wb : WS} (hp : PassesOwn (model X.prog X.w) X.A X.env X.xe) (hc : X.calm = true) (hgl : Gl X "range") (hm : X.mg "range" = none) (ha : QA X W [a] wa) (hg : QG X W tg wg) (hb : QSs X W body wb)
    (hst : starEach [a] X.env = [(false, eval a X.env)] := by rfl) (hs : ∀ x, foldedSetIterable (.Call (.Name "range" pr) [a] [] p') X.env x = pure x := by intro _; rfl) : QS X W (.For tg (.Call (.Name "range" pr) [a] [] p') body [] pos) (wForR1 wa wg wb) := by
  obtain ⟨ta, a1, a2⟩ := ha
  obtain ⟨g, g1, g2⟩ := hg
  obtain ⟨tb, b1, b2⟩ := hb
  refine ⟨_, ps_for hp hc (pi_range1 hgl hm a1 hst) g1 b1 hs, fun R ι μ δ σ H E D c h l => a2 R ι μ δ σ H _ _ c h fun vs ds ι1 μ1 H1 s1 r1 i1 q1 => ?_⟩
  obtain ⟨j, ed, hj, ht⟩ := ints1_of q1
  subst ed
  obtain ⟨v, e1, iv⟩ := isAll1 i1
  have iv' : v = .int j := iv
  subst iv'
  exact ⟨j, e1, hj.1, hj.2, rs_turnsR g2 b2 (c.stp s1 r1) ht (l.stp s1)⟩
def wForR2 (wa : WA) (wg : WG) (wb : WS) : WS := fun R E δ μ => wa R δ μ fun ds μ1 => ints2 (fun i j => (R62 i ∧ R62 j) ∧ turnsR wg wb i (j - i).toNat R E δ μ1) ds
theorem qs_forR2 {tg a b : Expr} {pr p' : Pos} {body : List Stmt} {wa : WA} {wg : WG} {wb : WS} (hp : PassesOwn (model X.prog X.w) X.A X.env X.xe) (hc : X.calm = true) (hgl : Gl X "range") (hm : X.mg "range" = none) (ha : QA X W [a, b] wa) (hg : QG X W tg wg) (hb : QSs X W body wb)
    (hst : starEach [a, b] X.env = [(false, eval a X.env), (false, eval b X.env)] := by rfl) (hs2 : starEach [b] X.env = [(false, eval b X.env)] := by rfl)
    (hs : ∀ x, foldedSetIterable (.Call (.Name "range" pr) [a, b] [] p') X.env x = pure x := by intro _; rfl) : QS X W (.For tg (.Call (.Name "range" pr) [a, b] [] p') body [] pos) (wForR2 wa wg wb) := by
  obtain ⟨ta, a1, a2⟩ := ha
  obtain ⟨g, g1, g2⟩ := hg
  obtain ⟨tb, b1, b2⟩ := hb
  refine ⟨_, ps_for hp hc (pi_range2 hgl hm a1 hst hs2) g1 b1 hs, fun R ι μ δ σ H E D c h l => a2 R ι μ δ σ H _ _ c h fun vs ds ι1 μ1 H1 s1 r1 i1 q1 => ?_⟩
  obtain ⟨i, j, ed, ⟨hi, hj⟩, ht⟩ := ints2_of q1
  subst ed
  obtain ⟨v, u, e1, iv, iu⟩ := isAll2 i1
  have iv' : v = .int i := iv
  have iu' : u = .int j := iu
  subst iv' iu'
  exact ⟨i, j, e1, ⟨hi.1, hi.2, hj.1, hj.2⟩, rs_turnsR g2 b2 (c.stp s1 r1) ht (l.stp s1)⟩
end
end HD
/-! HD4: operations on data, calls of built-in functions. -/
namespace HD
open PySem PySem.Spec PyProof.Rows L2

/-! ### data as the library's own data -/
mutual
inductive Py (μ : Sto) : D → PyData → Prop
  | non : Py μ .non .none
  | bl (b : Bool) : Py μ (.bl b) (.bool b)
  | int (i : Int) : Py μ (.int i) (.int i)
  | str (x : Str) : Py μ (.str x) (.str x)
  | tup {ds : List D} {ps : List PyData} : PyAll μ ds ps → Py μ (.tup ds) (.tuple ps)
  | ro {ds : List D} {ps : List PyData} : PyAll μ ds ps → Py μ (.ro ds) (.list ps)
  | ref {k : Nat} {ds : List D} {ps : List PyData} : lstAt μ k = some ds → PyAll μ ds ps → Py μ (.ref k) (.list ps)
inductive PyAll (μ : Sto) : List D → List PyData → Prop
  | nil : PyAll μ [] []
  | cons {d : D} {ds : List D} {p : PyData} {ps : List PyData} : Py μ d p → PyAll μ ds ps → PyAll μ (d :: ds) (p :: ps)
end
section
variable {K : PySem.W.Frag} {ι : List Addr} {μ : Sto} {H : Hp}
mutual
theorem Py.dp (r : Rel K ι μ H) : ∀ (p : PyData) (d : D) (v : V), Py μ d p → Is K ι H d v → Dp K H v p
  | .none, _, _, h, i => by
    cases h
    have e : _ = V.non := i
    rw [e]
    exact .non
  | .bool b, _, _, h, i => by
    cases h
    have e : _ = V.bl b := i
    rw [e]
    exact .bl b
  | .int n, _, _, h, i => by
    cases h
    have e : _ = V.int n := i
    rw [e]
    exact .int n
  | .str x, _, _, h, i => by
    cases h
    have e : _ = V.str x := i
    rw [e]
    exact .str x
  | .tuple ps, _, _, h, i => by
    cases h with
    | tup ha =>
      obtain ⟨a, xs, e, q, t⟩ := i
      rw [e]
      exact .tup q (PyAll.dp r ps _ xs ha t)
  | .list ps, _, _, h, i => by
    cases h with
    | ro ha =>
      obtain ⟨a, xs, e, q, t⟩ := i
      rw [e]
      exact .lst q.seq (PyAll.dp r ps _ xs ha t)
    | ref hk ha =>
      obtain ⟨a, xs, e1, e2, t⟩ := r.lst hk
      obtain ⟨a', ea, e⟩ := i
      rw [e1] at ea
      cases ea
      rw [e]
      exact .lst (SqL.of e2) (PyAll.dp r ps _ xs ha t)
  | .dict _, _, _, h, _ => by cases h
theorem PyAll.dp (r : Rel K ι μ H) : ∀ (ps : List PyData) (ds : List D) (xs : List V), PyAll μ ds ps → IsAll K ι H ds xs → DpAll K H xs ps
  | [], _, _, h, i => by
    cases h
    have e : _ = [] := i
    rw [e]
    exact .nil
  | p :: ps, _, _, h, i => by
    cases h with
    | cons h1 h2 =>
      obtain ⟨v, r', e, q, t⟩ := i
      rw [e]
      exact .cons (Py.dp r p _ v h1 q) (PyAll.dp r ps _ r' h2 t)
end
end

/-! ### operators -/
theorem opR_or {X : Cx} {f : Value → Value → Sem Value} {r r' : R2} (h : OpR X f r) (h' : OpR X f r') : OpR X f (fun x y H Q => r x y H Q ∨ r' x y H Q) := by
  intro pins s σ H x y v u Q I rx ry q
  rcases q with q | q
  · exact h pins s σ H x y v u Q I rx ry q
  · exact h' pins s σ H x y v u Q I rx ry q
section
variable {X : Cx}
/-- a rule on ints, under C -/
def wI (C : Int → Int → Prop) (g : Int → Int → D) : WO := fun d e μ P => match d, e with
  | .int i, .int j => C i j ∧ P (g i j) μ
  | _, _ => False
def wI0 (g : Int → Int → D) : WO := fun d e μ P => match d, e with
  | .int i, .int j => P (g i j) μ
  | _, _ => False
def isV : D → V
  | .int i => .int i
  | .bl b => .bl b
  | _ => .non
theorem ro_I {K : PySem.W.Frag} {C : Int → Int → Prop} {g : Int → Int → Int} : RO K (rI C fun i j => .int (g i j)) (wI C fun i j => .int (g i j)) := fun ι μ H x y d e P Q r i1 i2 h k => by
  unfold wI at h
  split at h
  · exact ⟨_, _, i1, i2, h.1, k.at r (d := .int _) rfl h.2⟩
  · exact h.elim
theorem ro_I0 {K : PySem.W.Frag} {g : Int → Int → Int} : RO K (rI0 fun i j => .int (g i j)) (wI0 fun i j => .int (g i j)) := fun ι μ H x y d e P Q r i1 i2 h k => by
  unfold wI0 at h
  split at h
  · exact ⟨_, _, i1, i2, k.at r (d := .int _) rfl h⟩
  · exact h.elim
theorem ro_B0 {K : PySem.W.Frag} {g : Int → Int → Bool} : RO K (rI0 fun i j => .bl (g i j)) (wI0 fun i j => .bl (g i j)) := fun ι μ H x y d e P Q r i1 i2 h k => by
  unfold wI0 at h
  split at h
  · exact ⟨_, _, i1, i2, k.at r (d := .bl _) rfl h⟩
  · exact h.elim
def wSub : WO := wI0 fun i j => .int (i - j)
theorem qo_sub : QO X (binaryOp .Sub) wSub := ⟨_, op_sub, ro_I0⟩
def wLt : WO := wI0 fun i j => .bl (decide (i < j))
def wLe : WO := wI0 fun i j => .bl (decide (i ≤ j))
def wGt : WO := wI0 fun i j => .bl (decide (j < i))
def wGe : WO := wI0 fun i j => .bl (decide (j ≤ i))
theorem qo_lt : QO X (compareOp .Lt) wLt := ⟨_, op_lt, ro_B0⟩
theorem qo_le : QO X (compareOp .LtE) wLe := ⟨_, op_le, ro_B0⟩
theorem qo_gt : QO X (compareOp .Gt) wGt := ⟨_, op_gt, ro_B0⟩
theorem qo_ge : QO X (compareOp .GtE) wGe := ⟨_, op_ge, ro_B0⟩
/-- // by a positive divisor that is not huge -/
def DivOk (j : Int) : Prop := 0 < j ∧ j.natAbs.log2 < 9000
theorem divOk {j : Int} (h : 0 < j) (h2 : j < 2 ^ 8000) : DivOk j := ⟨h, by
  refine Nat.lt_of_not_le fun z => ?_
  have h3 : 2 ^ 9000 ≤ j.natAbs := by
    have := (Nat.le_log2 (n := j.natAbs) (k := 9000) (by omega)).mp z
    exact this
  have h4 : (2 : Nat) ^ 8000 ≤ 2 ^ 9000 := Nat.pow_le_pow_right (by decide) (by decide)
  have h5 : (j.natAbs : Int) = j := by omega
  have h6 : ((2 ^ 8000 : Nat) : Int) ≤ j := by
    rw [← h5]
    exact Int.ofNat_le.mpr (Nat.le_trans h4 h3)
  have h7 : ((2 ^ 8000 : Nat) : Int) = (2 : Int) ^ 8000 := by rw [Int.natCast_pow] <;> rfl
  rw [h7] at h6
  exact absurd h2 (Int.not_lt.mpr h6)⟩
def wDiv : WO := wI (fun _ j => DivOk j) fun i j => .int (i / j)
theorem qo_div : QO X (binaryOp .FloorDiv) wDiv := ⟨_, op_fdivW, ro_I⟩
def wMod : WO := wI (fun _ j => 0 < j) fun i j => .int (i % j)
theorem qo_mod : QO X (binaryOp .Mod) wMod := ⟨_, op_mod, ro_I⟩
def wPow : WO := wI CPow fun i j => .int (i ^ j.toNat)
theorem qo_pow : QO X (binaryOp .Pow) wPow := ⟨_, op_pow, ro_I⟩
def wShl : WO := wI CPow fun i j => .int (i * 2 ^ j.toNat)
theorem qo_shl : QO X (binaryOp .LShift) wShl := ⟨_, op_shl, ro_I⟩
def wAdd : WO := fun d e μ P => match d, e with
  | .int i, .int j => P (.int (i + j)) μ
  | .str x, .str y => x.length + y.length ≤ sizeLine ∧ P (.str (x ++ y)) μ
  | .ref a, .ref b => ∃ xs ys, lstAt μ a = some xs ∧ lstAt μ b = some ys ∧ xs.length + ys.length ≤ 1000 ∧ P (.ref μ.length) (μ ++ [.lst (xs ++ ys)])
  | _, _ => False
theorem qo_add : QO X (binaryOp .Add) wAdd := by
  refine ⟨_, opR_or op_add (opR_or op_add_str op_cat), fun ι μ H x y d e P Q r i1 i2 h k => ?_⟩
  unfold wAdd at h
  split at h
  · exact .inl ⟨_, _, i1, i2, k.at r (d := .int _) rfl h⟩
  · exact .inr (.inl ⟨_, _, i1, i2, h.1, k.at r (d := .str _) rfl h.2⟩)
  · obtain ⟨xs, ys, e1, e2, hz, q⟩ := h
    obtain ⟨a, us, f1, f2, f3⟩ := r.lst e1
    obtain ⟨b, vs, g1, g2, g3⟩ := r.lst e2
    obtain ⟨a', ea, ex⟩ := i1
    obtain ⟨b', eb, ey⟩ := i2
    rw [f1] at ea
    cases ea
    rw [g1] at eb
    cases eb
    refine .inr (.inr ⟨a, b, us, vs, ex, ey, f2, g2, by rw [f3.length, g3.length]; exact le_line hz, fun p hp => ?_⟩)
    exact k (.ref p) (.ref μ.length) (ι ++ [p]) _ _ (Stp.push hp) (r.pushLst hp (f3.app g3)) (is_pushed r) q
  · exact h.elim
/-- products of ints of any reasonable size; a list many times -/
def MulOk (i j : Int) : Prop := CMulX i j
theorem mulOk {i j : Int} {a b : Nat} (ha : i.natAbs < 2 ^ a) (hb : j.natAbs < 2 ^ b) (h : a + b ≤ 134217728) : MulOk i j := mulx_ok ha hb h
def wMul : WO := fun d e μ P => match d, e with
  | .int i, .int j => MulOk i j ∧ P (.int (i * j)) μ
  | .ref a, .int j => ∃ xs, lstAt μ a = some xs ∧ (0 ≤ j ∧ j ≤ 1000) ∧ xs.length * j.toNat ≤ 1000 ∧ P (.ref μ.length) (μ ++ [.lst (List.replicate j.toNat xs).flatten])
  | _, _ => False
theorem qo_mul : QO X (binaryOp .Mult) wMul := by
  refine ⟨_, opR_or op_mulX op_rep, fun ι μ H x y d e P Q r i1 i2 h k => ?_⟩
  unfold wMul at h
  split at h
  · exact .inl ⟨_, _, i1, i2, h.1, k.at r (d := .int _) rfl h.2⟩
  · rename_i a j
    obtain ⟨xs, e1, hj, hz, q⟩ := h
    obtain ⟨b, us, f1, f2, f3⟩ := r.lst e1
    obtain ⟨a', ea, ex⟩ := i1
    rw [f1] at ea
    cases ea
    refine .inr ⟨b, j, us, ex, i2, f2, by omega, by omega, by rw [f3.length]; exact le_line hz, fun p hp => ?_⟩
    exact k (.ref p) (.ref μ.length) (ι ++ [p]) _ _ (Stp.push hp) (r.pushLst hp (f3.rep _)) (is_pushed r) q
  · exact h.elim
/-- == and != -/
def wEq : WO := fun d e μ P => match d, e with
  | .int i, .int j => P (.bl (decide (i = j))) μ
  | .str i, .str j => P (.bl (decide (i = j))) μ
  | .bl i, .bl j => P (.bl (decide (i = j))) μ
  | d, e => ∃ p q, Py μ d p ∧ Py μ e q ∧ SeqAt.shaped p = true ∧ SeqAt.shaped q = true ∧ P (.bl (PyData.eqv p q)) μ
def wNe : WO := fun d e μ P => match d, e with
  | .int i, .int j => P (.bl (!decide (i = j))) μ
  | .str i, .str j => P (.bl (!decide (i = j))) μ
  | .bl i, .bl j => P (.bl (!decide (i = j))) μ
  | d, e => ∃ p q, Py μ d p ∧ Py μ e q ∧ SeqAt.shaped p = true ∧ SeqAt.shaped q = true ∧ P (.bl (!PyData.eqv p q)) μ
theorem dec_inj {α : Type} [DecidableEq α] (f : α → V) (hf : ∀ a b, f a = f b → a = b) (i j : α) : decide (f i = f j) = decide (i = j) := by
  by_cases h : i = j
  · subst h
    simp
  · have h2 : ¬ f i = f j := fun z => h (hf _ _ z)
    rw [decide_eq_false h, decide_eq_false h2]
theorem qo_eq (hu : X.A.units + 64 < cLine) : QO X (compareOp .Eq) wEq := by
  refine ⟨_, opR_or op_eq (op_eqD hu), fun ι μ H x y d e P Q r i1 i2 h k => ?_⟩
  unfold wEq at h
  split at h
  · have e1 : x = .int _ := i1
    have e2 : y = .int _ := i2
    subst e1 e2
    exact .inl ⟨rfl, k.at r (d := .bl _) (by show V.bl _ = V.bl _; rw [dec_inj V.int (fun _ _ z => V.int.inj z)]) h⟩
  · have e1 : x = .str _ := i1
    have e2 : y = .str _ := i2
    subst e1 e2
    exact .inl ⟨rfl, k.at r (d := .bl _) (by show V.bl _ = V.bl _; rw [dec_inj V.str (fun _ _ z => V.str.inj z)]) h⟩
  · have e1 : x = .bl _ := i1
    have e2 : y = .bl _ := i2
    subst e1 e2
    exact .inl ⟨rfl, k.at r (d := .bl _) (by show V.bl _ = V.bl _; rw [dec_inj V.bl (fun _ _ z => V.bl.inj z)]) h⟩
  · obtain ⟨p, q, h1, h2, h3, h4, h5⟩ := h
    exact .inr ⟨p, q, Py.dp r p _ x h1 i1, Py.dp r q _ y h2 i2, h3, h4, k.at r (d := .bl _) rfl h5⟩
theorem qo_ne (hu : X.A.units + 64 < cLine) : QO X (compareOp .NotEq) wNe := by
  refine ⟨_, opR_or op_ne (op_neD hu), fun ι μ H x y d e P Q r i1 i2 h k => ?_⟩
  unfold wNe at h
  split at h
  · have e1 : x = .int _ := i1
    have e2 : y = .int _ := i2
    subst e1 e2
    exact .inl ⟨rfl, k.at r (d := .bl _) (by show V.bl _ = V.bl _; rw [dec_inj V.int (fun _ _ z => V.int.inj z)]) h⟩
  · have e1 : x = .str _ := i1
    have e2 : y = .str _ := i2
    subst e1 e2
    exact .inl ⟨rfl, k.at r (d := .bl _) (by show V.bl _ = V.bl _; rw [dec_inj V.str (fun _ _ z => V.str.inj z)]) h⟩
  · have e1 : x = .bl _ := i1
    have e2 : y = .bl _ := i2
    subst e1 e2
    exact .inl ⟨rfl, k.at r (d := .bl _) (by show V.bl _ = V.bl _; rw [dec_inj V.bl (fun _ _ z => V.bl.inj z)]) h⟩
  · obtain ⟨p, q, h1, h2, h3, h4, h5⟩ := h
    exact .inr ⟨p, q, Py.dp r p _ x h1 i1, Py.dp r q _ y h2 i2, h3, h4, k.at r (d := .bl _) rfl h5⟩
/-- is None -/
def isNon : D → Bool
  | .non => true
  | _ => false
theorem isNon_of {K : PySem.W.Frag} {ι : List Addr} {H : Hp} {d : D} {v : V} (h : Is K ι H d v) : decide (v = .non) = isNon d := by
  cases d with
  | non =>
    have e : v = .non := h
    rw [e]
    rfl
  | bl _ => have e : v = .bl _ := h; rw [e]; rfl
  | int _ => have e : v = .int _ := h; rw [e]; rfl
  | str _ => have e : v = .str _ := h; rw [e]; rfl
  | ty _ => have e : v = .ty _ := h; rw [e]; rfl
  | adr _ => have e : v = .ref _ := h; rw [e]; rfl
  | ref _ =>
    obtain ⟨_, _, e⟩ := h
    rw [e]; rfl
  | tup _ =>
    obtain ⟨_, _, e, _⟩ := h
    rw [e]; rfl
  | ro _ =>
    obtain ⟨_, _, e, _⟩ := h
    rw [e]; rfl
  | exc _ _ _ _ _ =>
    obtain ⟨e, _⟩ := h
    rw [e]; rfl
  | lam _ _ _ _ _ _ =>
    obtain ⟨e, _⟩ := h
    rw [e]; rfl
def wIsN : WO := fun d e μ P => match e with
  | .non => P (.bl (isNon d)) μ
  | _ => False
def wNotN : WO := fun d e μ P => match e with
  | .non => P (.bl (!isNon d)) μ
  | _ => False
theorem qo_isN : QO X (compareOp .Is) wIsN := ⟨_, op_isN, fun ι μ H x y d e P Q r i1 i2 h k => by
  unfold wIsN at h
  split at h
  · exact ⟨i2, by rw [isNon_of i1]; exact k.at r (d := .bl _) rfl h⟩
  · exact h.elim⟩
theorem qo_notN : QO X (compareOp .IsNot) wNotN := ⟨_, op_notN, fun ι μ H x y d e P Q r i1 i2 h k => by
  unfold wNotN at h
  split at h
  · exact ⟨i2, by rw [isNon_of i1]; exact k.at r (d := .bl _) rfl h⟩
  · exact h.elim⟩
/-- in a list of data -/
def wIn : WO := fun d e μ P => ∃ p ps, Py μ d p ∧ Py μ e (.list ps) ∧ SeqAt.shaped p = true ∧ SeqAt.shaped (.list ps) = true ∧ P (.bl (ps.any fun z => PyData.eqv z p)) μ
theorem qo_in (hu : X.A.units + 65 < cLine) : QO X (compareOp .In) wIn := ⟨_, op_inD hu, fun ι μ H x y d e P Q r i1 i2 h k => by
  obtain ⟨p, ps, h1, h2, h3, h4, h5⟩ := h
  exact ⟨p, ps, Py.dp r p _ x h1 i1, Py.dp r _ _ y h2 i2, h3, h4, k.at r (d := .bl _) rfl h5⟩⟩
/-! one-place -/
variable {W : WX} {a b e : Expr} {es : List Expr} {wa wb : WE} {pos p apos : Pos}
def wNeg (u : WE) : WE := fun R δ μ P => u R δ μ fun d μ1 => match d with
  | .int i => P (.int (-i)) μ1
  | _ => False
theorem q_neg (h : QE X W a wa) : QE X W (.UnaryOp .USub a pos) (wNeg wa) := by
  obtain ⟨t, h1, h2⟩ := h
  refine ⟨_, pe_un un_neg h1, fun R ι μ δ σ H P Q c hw k => h2 R ι μ δ σ H _ _ c hw fun v d ι1 μ1 H1 s1 r1 i1 q1 => ?_⟩
  cases d with
  | int i => exact ⟨i, i1, (k.stp s1).at r1 (d := .int _) rfl q1⟩
  | _ => exact q1.elim
/-! subscripts -/
def wIx : WO := fun d e μ P => match d, e with
  | .tup xs, .int i => match atI xs i with
    | some x => P x μ
    | none => False
  | .ro xs, .int i => match atI xs i with
    | some x => P x μ
    | none => False
  | .ref k, .int i => match lstAt μ k with
    | some xs => match atI xs i with
      | some x => P x μ
      | none => False
    | none => False
  | .str z, .int i => z.length ≤ sizeLine ∧ match atI z.cps.toList i with
    | some c => P (.str ⟨#[c]⟩) μ
    | none => False
  | _, _ => False
theorem atI_is {K : PySem.W.Frag} {ι : List Addr} {H : Hp} {xs : List D} {ys : List V} {i : Int} {d : D} (h : IsAll K ι H xs ys) (e : atI xs i = some d) : ∃ v, atI ys i = some v ∧ Is K ι H d v := by
  unfold atI at e ⊢
  rw [h.length]
  cases hj : ixN xs.length i with
  | none =>
    rw [hj] at e
    cases e
  | some j =>
    rw [hj] at e
    exact h.get (i := j) e
theorem q_ix (ha : QE X W a wa) (hb : QE X W b wb) (hs : PlainIx b) : QE X W (.Subscript a b pos) (wOp wIx wa wb) := by
  obtain ⟨ta, a1, a2⟩ := ha
  obtain ⟨tb, b1, b2⟩ := hb
  refine ⟨_, pe_ix ix_seq a1 b1 hs, re_op a2 b2 fun ι μ H x y d e P Q r i1 i2 h k => ?_⟩
  unfold wIx at h
  split at h
  · split at h
    · rename_i el
      obtain ⟨a, xs, e1, q, t⟩ := i1
      obtain ⟨v, e2, iv⟩ := atI_is t el
      exact .inr (.inl ⟨a, xs, _, v, e1, i2, q, e2, k.at r iv h⟩)
    · exact h.elim
  · split at h
    · rename_i el
      obtain ⟨a, xs, e1, q, t⟩ := i1
      obtain ⟨v, e2, iv⟩ := atI_is t el
      exact .inl ⟨a, xs, _, v, e1, i2, q.seq, e2, k.at r iv h⟩
    · exact h.elim
  · split at h
    · rename_i el
      split at h
      · rename_i em
        obtain ⟨a, xs, f1, f2, t⟩ := r.lst el
        obtain ⟨a', ea, e1⟩ := i1
        rw [f1] at ea
        cases ea
        obtain ⟨v, e2, iv⟩ := atI_is t em
        exact .inl ⟨a, xs, _, v, e1, i2, SqL.of f2, e2, k.at r iv h⟩
      · exact h.elim
    · exact h.elim
  · obtain ⟨hz, h⟩ := h
    split at h
    · rename_i el
      exact .inr (.inr ⟨_, _, _, i1, i2, hz, el, k.at r (d := .str _) rfl h⟩)
    · exact h.elim
  · exact h.elim
/-- xs[lo:hi] of a list: a new one -/
abbrev WP := XD → En → Sto → (Option Int → Sto → Prop) → Prop
def wNoPart : WP := fun _ _ μ P => P none μ
def wPart (w : WE) : WP := fun R δ μ P => w R δ μ fun d μ1 => match d with
  | .int i => P (some i) μ1
  | _ => False
def KtO (K : PySem.W.Frag) (ι : List Addr) (H : Hp) (P : Option Int → Sto → Prop) (Q : Option Int → Hp → Prop) : Prop := ∀ o ι' μ' H', Stp ι H ι' H' → Rel K ι' μ' H' → P o μ' → Q o H'
def RP (K : PySem.W.Frag) (W : WX) (t : TO) (w : WP) : Prop := ∀ R ι μ δ σ H P Q, Cn K W ι μ H δ σ R → w R δ μ P → KtO K ι H P Q → t σ H Q
def QP (X : Cx) (W : WX) (e : Option Expr) (w : WP) : Prop := ∃ t, PO X e t ∧ RP X.K W t w
theorem qp_none : QP X W none wNoPart := ⟨_, po_none, fun R ι μ δ σ H P Q c h k => k none ι μ H (Stp.refl ι H) c.rel h⟩
theorem qp_some (h : QE X W a wa) : QP X W (some a) (wPart wa) := by
  obtain ⟨t, h1, h2⟩ := h
  refine ⟨_, po_some h1, fun R ι μ δ σ H P Q c hw k => h2 R ι μ δ σ H _ _ c hw fun v d ι1 μ1 H1 s1 r1 i1 q1 => ?_⟩
  cases d with
  | int i => exact ⟨i, i1, k (some i) ι1 μ1 H1 s1 r1 q1⟩
  | _ => exact q1.elim
def cutD (xs : List D) (lo hi : Option Int) : List D := (xs.drop (HT.sIx xs.length 0 lo)).take (HT.sIx xs.length xs.length hi - HT.sIx xs.length 0 lo)
def wSlL (wa : WE) (wl wh : WP) : WE := fun R δ μ P => wa R δ μ fun d μ1 => wl R δ μ1 fun lo μ2 => wh R δ μ2 fun hi μ3 => ∃ xs, itemsOf μ3 d = some xs ∧ match isTup d with
  | true => P (.tup (cutD xs lo hi)) μ3
  | false => P (.ref μ3.length) (μ3 ++ [.lst (cutD xs lo hi)])
theorem cut_is {K : PySem.W.Frag} {ι : List Addr} {H : Hp} {xs : List D} {ys : List V} {lo hi : Option Int} (t : IsAll K ι H xs ys) : IsAll K ι H (cutD xs lo hi) (cutV ys lo hi) := by
  unfold cutD cutV
  rw [t.length]
  exact (t.drop _).take _
theorem cut_whole {α : Type} {ys : List α} {lo hi : Option Int} (h : HT.sIx ys.length 0 lo = 0 ∧ HT.sIx ys.length ys.length hi = ys.length) : (ys.drop (HT.sIx ys.length 0 lo)).take (HT.sIx ys.length ys.length hi - HT.sIx ys.length 0 lo) = ys := by
  rw [h.1, h.2]
  simp
theorem q_sliceL {lo hi : Option Expr} {p2 : Pos} {wl wh : WP} (ha : QE X W a wa) (hl : QP X W lo wl) (hh : QP X W hi wh) : QE X W (.Subscript a (.Slice lo hi none p2) pos) (wSlL wa wl wh) := by
  obtain ⟨ta, a1, a2⟩ := ha
  obtain ⟨tl, l1, l2⟩ := hl
  obtain ⟨th, h1, h2⟩ := hh
  refine ⟨_, pe_slice (SlR.or sl_list sl_tupA) a1 l1 h1, fun R ι μ δ σ H P Q c hw k => a2 R ι μ δ σ H _ _ c hw fun v d ι1 μ1 H1 s1 r1 i1 q1 => ?_⟩
  refine l2 R ι1 μ1 δ σ H1 _ _ (c.stp s1 r1) q1 fun lo' ι2 μ2 H2 s2 r2 q2 => h2 R ι2 μ2 δ σ H2 _ _ (c.stp (s1.trans s2) r2) q2 fun hi' ι3 μ3 H3 s3 r3 q3 => ?_
  obtain ⟨xs, ex, q⟩ := q3
  obtain ⟨ad, ys, ev, hq, ht⟩ := items_seq r3 (Is.stp (s2.trans s3) _ _ i1) ex
  have hcut : IsAll X.K ι3 H3 (cutD xs lo' hi') (cutV ys lo' hi') := cut_is ht
  have k3 := k.stp ((s1.trans s2).trans s3)
  cases hk : isTup d with
  | false =>
    rw [hk] at hq q
    refine .inl ⟨ad, ys, ev, hq, fun pn hp => ?_⟩
    exact k3 (.ref pn) (.ref μ3.length) (ι3 ++ [pn]) _ _ (Stp.push hp) (r3.pushLst hp hcut) (is_pushed r3) q
  | true =>
    rw [hk] at hq q
    have hq' : SqT X.K H3 ad ys := hq
    refine .inr ⟨ad, ys, ev, hq', fun hwh => ?_, fun _ pn hp => ?_⟩
    · have ey : cutV ys lo' hi' = ys := cut_whole hwh
      rw [ey] at hcut
      exact k3.at r3 (d := .tup (cutD xs lo' hi')) ⟨ad, ys, rfl, hq', hcut⟩ q
    · exact k3 (.ref pn) (.tup (cutD xs lo' hi')) ι3 μ3 _ (Stp.new hp) (r3.new hp) ⟨pn, _, rfl, SqT.of upd_same, IsAll.stp (Stp.new hp) _ _ hcut⟩ q

/-! ### built-in functions -/
abbrev WB := List D → Sto → (D → Sto → Prop) → Prop
def RB (K : PySem.W.Frag) (r : List V → Hp → VK → Prop) (w : WB) : Prop := ∀ ι μ H vs ds P Q, Rel K ι μ H → IsAll K ι H ds vs → w ds μ P → Kt K ι H P Q → r vs H Q
def QB (X : Cx) (f : Value) (w : WB) : Prop := ∃ r, CallR X f r ∧ RB X.K r w
def wCB (w : WB) (wa : WA) : WE := fun R δ μ P => wa R δ μ fun ds μ1 => w ds μ1 P
theorem re_cb {K : PySem.W.Frag} {ta : TA} {r : List V → Hp → VK → Prop} {w : WB} {wa : WA} (h1 : RA K W ta wa) (h2 : RB K r w) : RE K W (tCB r ta) (wCB w wa) := fun R ι μ δ σ H P Q c h k =>
  h1 R ι μ δ σ H _ _ c h fun vs ds ι1 μ1 H1 s1 r1 i1 q1 => h2 ι1 μ1 H1 vs ds P Q r1 i1 q1 (k.stp s1)
variable {x : Str} {id T : String} {w : WB} {wA : WA}
theorem q_callB (hc : QB X (.builtin id) w) (hg : Gl X x) (hm : X.mg x = none) (hv : bootBuiltins x = some (.builtin id)) (ha : QA X W (e :: es) wA) (hn : x ≠ "__name__" := by decide) (hdb : (x == ("__debug__" : Str)) = false := by decide)
    (he : starEach (e :: es) X.env = (false, eval e X.env) :: starEach es X.env := by rfl) (hpl : (backTo pos (starEach es X.env)).any (·.1) = false := by rfl) : QE X W (.Call (.Name x p) (e :: es) [] pos) (wCB w wA) := by
  obtain ⟨r, h1, h2⟩ := hc
  obtain ⟨t, h3, h4⟩ := ha
  exact ⟨_, pe_callB h1 hg hm hv h3 hn hdb he hpl, re_cb h4 h2⟩
theorem q_callTy (hc : QB X (.type T) w) (hg : Gl X x) (hm : X.mg x = none) (hv : bootBuiltins x = some (.type T)) (ha : QA X W (e :: es) wA) (hn : x ≠ "__name__" := by decide) (hdb : (x == ("__debug__" : Str)) = false := by decide)
    (he : starEach (e :: es) X.env = (false, eval e X.env) :: starEach es X.env := by rfl) (hpl : (backTo pos (starEach es X.env)).any (·.1) = false := by rfl) : QE X W (.Call (.Name x p) (e :: es) [] pos) (wCB w wA) := by
  obtain ⟨r, h1, h2⟩ := hc
  obtain ⟨t, h3, h4⟩ := ha
  exact ⟨_, pe_callTy h1 hg hm hv h3 hn hdb he hpl, re_cb h4 h2⟩
/-- a module's name for a built-in function -/
theorem q_callBf (hc : QB X (.builtin id) w) (hg : Gl X x) (hm : X.mg x = some (.builtin id)) (ha : QA X W (e :: es) wA) (hdb : (x == ("__debug__" : Str)) = false := by decide)
    (he : starEach (e :: es) X.env = (false, eval e X.env) :: starEach es X.env := by rfl) (hpl : (backTo pos (starEach es X.env)).any (·.1) = false := by rfl) : QE X W (.Call (.Name x p) (e :: es) [] pos) (wCB w wA) := by
  obtain ⟨r, h1, h2⟩ := hc
  obtain ⟨t, h3, h4⟩ := ha
  exact ⟨_, pe_callBfun h1 hg hm h3 hdb he hpl, re_cb h4 h2⟩
def wAbs : WB := fun ds μ P => ints1 (fun i => P (.int (if i < 0 then -i else i)) μ) ds
theorem qb_abs : QB X (.builtin "abs") wAbs := ⟨_, call_abs, fun ι μ H vs ds P Q r i h k => by
  obtain ⟨n, e, q⟩ := ints1_of h
  subst e
  obtain ⟨v, e1, iv⟩ := isAll1 i
  have iv' : v = .int n := iv
  subst iv'
  exact ⟨n, e1, k.at r (d := .int _) rfl q⟩⟩
def wMax : WB := fun ds μ P => ints2 (fun i j => P (.int (if j > i then j else i)) μ) ds
def wMin : WB := fun ds μ P => ints2 (fun i j => P (.int (if j < i then j else i)) μ) ds
theorem qb_max (hc : X.calm = true) : QB X (.builtin "max") wMax := ⟨_, call_max2 hc, fun ι μ H vs ds P Q r i h k => by
  obtain ⟨n, m, e, q⟩ := ints2_of h
  subst e
  obtain ⟨v, u, e1, iv, iu⟩ := isAll2 i
  have iv' : v = .int n := iv
  have iu' : u = .int m := iu
  subst iv' iu'
  exact ⟨n, m, e1, k.at r (d := .int _) rfl q⟩⟩
theorem qb_min (hc : X.calm = true) : QB X (.builtin "min") wMin := ⟨_, call_min2 hc, fun ι μ H vs ds P Q r i h k => by
  obtain ⟨n, m, e, q⟩ := ints2_of h
  subst e
  obtain ⟨v, u, e1, iv, iu⟩ := isAll2 i
  have iv' : v = .int n := iv
  have iu' : u = .int m := iu
  subst iv' iu'
  exact ⟨n, m, e1, k.at r (d := .int _) rfl q⟩⟩
def wGcd : WB := fun ds μ P => ints2 (fun i j => P (.int ((Nat.gcd i.natAbs j.natAbs : Nat) : Int)) μ) ds
theorem qb_gcd : QB X (.builtin "math.gcd") wGcd := ⟨_, cr_gcd, fun ι μ H vs ds P Q r i h k => by
  obtain ⟨n, m, e, q⟩ := ints2_of h
  subst e
  obtain ⟨v, u, e1, iv, iu⟩ := isAll2 i
  have iv' : v = .int n := iv
  have iu' : u = .int m := iu
  subst iv' iu'
  exact ⟨n, m, e1, k.at r (d := .int _) rfl q⟩⟩
/-- int of an int -/
def wInt : WB := fun ds μ P => ints1 (fun i => P (.int i) μ) ds
theorem qb_int : QB X (.type "int") wInt := ⟨_, call_int1, fun ι μ H vs ds P Q r i h k => by
  obtain ⟨n, e, q⟩ := ints1_of h
  subst e
  obtain ⟨v, e1, iv⟩ := isAll1 i
  have iv' : v = .int n := iv
  subst iv'
  exact .inl ⟨n, e1, k.at r (d := .int _) rfl q⟩⟩
def wStrI : WB := fun ds μ P => ints1 (fun i => i.natAbs.log2 < 1920 ∧ P (.str (toString i)) μ) ds
theorem qb_str : QB X (.type "str") wStrI := ⟨_, call_str_int, fun ι μ H vs ds P Q r i h k => by
  obtain ⟨n, e, q⟩ := ints1_of h
  subst e
  obtain ⟨v, e1, iv⟩ := isAll1 i
  have iv' : v = .int n := iv
  subst iv'
  exact ⟨n, e1, q.1, k.at r (d := .str _) rfl q.2⟩⟩
/-- divmod -/
def wDivmod : WB := fun ds μ P => ints2 (fun i j => (0 < j ∧ j < 1073741824) ∧ P (.tup [.int (i / j), .int (i % j)]) μ) ds
theorem qb_divmod : QB X (.builtin "divmod") wDivmod := ⟨_, call_divmod, fun ι μ H vs ds P Q r i h k => by
  obtain ⟨n, m, e, hm, q⟩ := ints2_of h
  subst e
  obtain ⟨v, u, e1, iv, iu⟩ := isAll2 i
  have iv' : v = .int n := iv
  have iu' : u = .int m := iu
  subst iv' iu'
  refine ⟨n, m, e1, hm, fun pn hp => ?_⟩
  exact k (.ref pn) (.tup [.int (n / m), .int (n % m)]) ι μ _ (Stp.new hp) (r.new hp) ⟨pn, _, rfl, SqT.of upd_same, ⟨_, _, rfl, rfl, _, _, rfl, rfl, rfl⟩⟩ q⟩
/-- len -/
def lenOf (μ : Sto) : D → Option Nat
  | .ref k => (lstAt μ k).map List.length
  | .ro xs => some xs.length
  | .tup xs => some xs.length
  | _ => none
def wLen : WB := fun ds μ P => match ds with
  | [.str z] => z.length ≤ sizeLine ∧ P (.int z.length) μ
  | [d] => ∃ n : Nat, lenOf μ d = some n ∧ P (.int n) μ
  | _ => False
theorem qb_len : QB X (.builtin "len") wLen := by
  have both : CallR X (.builtin "len") (fun xs H Q => (∃ p ys, xs = [.ref p] ∧ (SqL X.K H p ys ∨ SqT X.K H p ys) ∧ Q (.int ys.length) H) ∨ ∃ z, xs = [.str z] ∧ z.length ≤ sizeLine ∧ Q (.int z.length) H) := by
    intro pins s σ H xs us Q I r h
    rcases h with h | h
    · exact call_len_seq pins s σ H xs us Q I r h
    · exact call_len_str pins s σ H xs us Q I r h
  refine ⟨_, both, fun ι μ H vs ds P Q r i h k => ?_⟩
  unfold wLen at h
  split at h
  · obtain ⟨v, e1, iv⟩ := isAll1 i
    have iv' : v = .str _ := iv
    subst iv'
    exact .inr ⟨_, e1, h.1, k.at r (d := .int _) rfl h.2⟩
  · rename_i d hd
    obtain ⟨n, el, q⟩ := h
    obtain ⟨v, e1, iv⟩ := isAll1 i
    cases d with
    | ref kk =>
      have el' : (lstAt μ kk).map List.length = some n := el
      cases hl : lstAt μ kk with
      | none =>
        rw [hl] at el'
        cases el'
      | some xs =>
        rw [hl] at el'
        have en : xs.length = n := Option.some.inj el'
        obtain ⟨a, ys, f1, f2, t⟩ := r.lst hl
        obtain ⟨a', ea, ev⟩ := iv
        rw [f1] at ea
        cases ea
        subst ev
        exact .inl ⟨a, ys, e1, .inl (SqL.of f2), by rw [t.length, en]; exact k.at r (d := .int _) rfl q⟩
    | ro xs =>
      have en : xs.length = n := Option.some.inj el
      obtain ⟨a, ys, ev, hq, t⟩ := iv
      subst ev
      exact .inl ⟨a, ys, e1, .inl hq.seq, by rw [t.length, en]; exact k.at r (d := .int _) rfl q⟩
    | tup xs =>
      have en : xs.length = n := Option.some.inj el
      obtain ⟨a, ys, ev, hq, t⟩ := iv
      subst ev
      exact .inl ⟨a, ys, e1, .inr hq, by rw [t.length, en]; exact k.at r (d := .int _) rfl q⟩
    | _ => cases el
  · exact h.elim
/-- repr of data -/
def wRepr : WB := fun ds μ P => match ds with
  | [d] => ∃ p, Py μ d p ∧ p.showable = true ∧ p.depth ≤ 60 ∧ p.shown.length ≤ sizeLine ∧ P (.str p.shown) μ
  | _ => False
theorem hasDict_py {μ : Sto} : (∀ (p : PyData) (d : D), Py μ d p → p.hasDict = false) ∧ (∀ (ps : List PyData) (ds : List D), PyAll μ ds ps → PyData.hasDictAll ps = false) := by
  have main : ∀ (n : Nat), (∀ (p : PyData), sizeOf p ≤ n → ∀ (d : D), Py μ d p → p.hasDict = false) ∧ (∀ (ps : List PyData), sizeOf ps ≤ n → ∀ (ds : List D), PyAll μ ds ps → PyData.hasDictAll ps = false) := by
    intro n
    induction n with
    | zero =>
      refine ⟨fun p hp => ?_, fun ps hp => ?_⟩
      · cases p <;> simp at hp
      · cases ps <;> simp at hp
    | succ n ih =>
      refine ⟨fun p hp d h => ?_, fun ps hp ds h => ?_⟩
      · cases h with
        | tup ha => exact ih.2 _ (by simp at hp; omega) _ ha
        | ro ha => exact ih.2 _ (by simp at hp; omega) _ ha
        | ref _ ha => exact ih.2 _ (by simp at hp; omega) _ ha
        | _ => rfl
      · cases h with
        | nil => rfl
        | cons h1 h2 =>
          show (PyData.hasDict _ || PyData.hasDictAll _) = false
          rw [ih.1 _ (by simp at hp; omega) _ h1, ih.2 _ (by simp at hp; omega) _ h2]
          rfl
  exact ⟨fun p d h => (main _).1 p (Nat.le_refl _) d h, fun ps ds h => (main _).2 ps (Nat.le_refl _) ds h⟩
def rRepr (K : PySem.W.Frag) : List V → Hp → VK → Prop := fun vs H Q => ∃ v p, vs = [v] ∧ Dp K H v p ∧ p.hasDict = false ∧ p.showable = true ∧ p.depth ≤ 60 ∧ p.shown.length ≤ sizeLine ∧ Q (.str p.shown) H
theorem call_repr (gd : X.A.guards = some []) (hu : X.A.units + 64 < cLine) : CallR X (.builtin "repr") (rRepr X.K) := by
  intro pins s σ H xs us Q I r h
  obtain ⟨v, p, rfl, hd, hnd, hs, hdep, hsz, q⟩ := h
  cases r with
  | cons r1 r2 =>
    cases r2
    obtain ⟨as, rd⟩ := Dp.reads I p v _ hd r1
    cases hd with
    | non =>
      cases r1
      exact PySem.P.repr_of_none ⟨.str _, H, I.tok _, ⟨_, rfl⟩, q⟩
    | bl b =>
      cases r1
      exact PySem.P.repr_of_bool ⟨.str _, H, I.tok _, ⟨_, rfl⟩, q⟩
    | int i =>
      obtain ⟨t, rfl⟩ := r1
      exact PySem.P.repr_of_int (by simpa [PyData.showable] using hs) ⟨.str _, H, I.tok _, ⟨_, rfl⟩, q⟩
    | str y =>
      obtain ⟨t, rfl⟩ := r1
      exact PySem.P.repr_of_str (hsz := hsz) ⟨.str _, H, I.tok _, ⟨_, rfl⟩, q⟩
    | lst hq ha =>
      cases r1
      exact repr_of_reads' rd hs (fun z => by rw [hnd] at z; cases z) gd (by omega) (fun _ _ z => z) (fun h' u tk hk => ⟨.str _, H, I.kept (t' := tk) hk, ⟨_, rfl⟩, q⟩) hsz
    | tup hq ha =>
      cases r1
      exact repr_of_reads' rd hs (fun z => by rw [hnd] at z; cases z) gd (by omega) (fun _ _ z => z) (fun h' u tk hk => ⟨.str _, H, I.kept (t' := tk) hk, ⟨_, rfl⟩, q⟩) hsz
theorem qb_repr (gd : X.A.guards = some []) (hu : X.A.units + 64 < cLine) : QB X (.builtin "repr") wRepr := ⟨_, call_repr gd hu, fun ι μ H vs ds P Q r i h k => by
  unfold wRepr at h
  split at h
  · obtain ⟨p, h1, h2, h3, h4, h5⟩ := h
    obtain ⟨v, e1, iv⟩ := isAll1 i
    exact ⟨v, p, e1, Py.dp r p _ v h1 iv, hasDict_py.1 p _ h1, h2, h3, h4, k.at r (d := .str _) rfl h5⟩
  · exact h.elim⟩
/-- all of a list of truth values -/
def wAll : WB := fun ds μ P => match ds with
  | [.ref k] => ∃ bs : List Bool, lstAt μ k = some (bs.map D.bl) ∧ P (.bl (bs.all _root_.id)) μ
  | _ => False
theorem isAll_bls {K : PySem.W.Frag} {ι : List Addr} {H : Hp} : ∀ {bs : List Bool} {vs : List V}, IsAll K ι H (bs.map D.bl) vs → vs = bs.map V.bl
  | [], _, h => h
  | b :: bs, _, h => by
    obtain ⟨v, r, e, i, t⟩ := h
    have i' : v = .bl b := i
    rw [e, i', isAll_bls t]
    rfl
theorem qb_all (hc : X.calm = true) : QB X (.builtin "all") wAll := ⟨_, cr_all hc, fun ι μ H vs ds P Q r i h k => by
  unfold wAll at h
  split at h
  · obtain ⟨bs, el, q⟩ := h
    obtain ⟨v, e1, iv⟩ := isAll1 i
    obtain ⟨a, ys, f1, f2, t⟩ := r.lst el
    obtain ⟨a', ea, ev⟩ := iv
    rw [f1] at ea
    cases ea
    subst ev
    have ey := isAll_bls t
    subst ey
    exact ⟨a, bs, e1, SqL.of f2, k.at r (d := .bl _) rfl q⟩
  · exact h.elim⟩
/-- isinstance(x, a built-in class) -/
def tyOf (μ : Sto) : D → Option String
  | .non => some "NoneType"
  | .bl _ => some "bool"
  | .int _ => some "int"
  | .str _ => some "str"
  | .tup _ => some "tuple"
  | .ref k => (lstAt μ k).map fun _ => "list"
  | _ => none
end
end HD
/-! HD5: comprehensions, ranges with a step, isinstance, the law's end. -/
namespace HD
open PySem PySem.Spec PyProof.Rows L2

section
variable {X : Cx} {W : WX} {pos p pos' : Pos}
/-- nothing may be raised within -/
abbrev W0 : WX := fun _ _ _ _ => False
abbrev R0 : XD := fun _ _ _ _ => False
theorem xl0 {K : PySem.W.Frag} {ι : List Addr} {H : Hp} : XL K W0 ι H R0 := fun _ _ _ _ _ _ _ _ _ _ _ _ h => h
def wYes : WT := fun _ _ μ P => P true μ
def QTs (X : Cx) (W : WX) (ifs : List Expr) (w : WT) : Prop := ∃ t, PTs X ifs t ∧ RT X.K W t w
theorem qts_nil : QTs X W [] wYes := ⟨_, pts_nil, fun R ι μ δ σ H P Q c h k => k true ι μ H (Stp.refl ι H) c.rel h⟩
theorem qts_one {c : Expr} {w : WT} (h : QT X W c w) : QTs X W [c] w := by
  obtain ⟨t, h1, h2⟩ := h
  exact ⟨_, pts_one h1, h2⟩
/-- one turn of a comprehension: i its slot, the item x, k the list that is made -/
def lcTurn (i k : Nat) (wt : WT) (we : WE) (δ : En) (x : D) (acc : List D) (μ : Sto) (N : List D → Sto → Prop) : Prop :=
  wt R0 (put δ i (some x)) μ fun b μ2 => match b with
    | true => we R0 (put δ i (some x)) μ2 fun d μ3 => (cell μ3 k = some (.lst acc) ∧ acc.length ≤ 100000) ∧ N (acc ++ [d]) (μ3.set k (.lst (acc ++ [d])))
    | false => cell μ2 k = some (.lst acc) ∧ N acc μ2
def lcAll (i : Nat) (wt : WT) (we : WE) (δ : En) (n : Nat) (item : Nat → D) (ok : Sto → Prop) (μ : Sto) (P : D → Sto → Prop) : Prop :=
  ∃ Pv : Nat → List D → Sto → Prop, Pv 0 [] (μ ++ [.lst []]) ∧ (∀ (j : Nat) acc μ', j < n → cell μ' μ.length = some (.lst acc) → Pv j acc μ' → ok μ' ∧ lcTurn i μ.length wt we δ (item j) acc μ' (Pv (j + 1))) ∧
    ∀ acc μ', cell μ' μ.length = some (.lst acc) → Pv n acc μ' → ok μ' ∧ P (.ref μ.length) μ'
theorem wipe_one (σ : L2.St) (i : Nat) (x : Option V) : wipe ((wipe σ [i]).set i x) [i] = wipe σ [i] := by
  show ((σ.set i none).set i x).set i none = σ.set i none
  rw [List.set_set, List.set_set]
/-- the heart: the turn's reading -/
theorem lc_turn {K : PySem.W.Frag} {tt : TT} {te : TE} {wt : WT} {we : WE} {i k : Nat} (h2 : RT K W0 tt wt) (h3 : RE K W0 te we) {ι : List Addr} {μ : Sto} {H : Hp} {δ : En} {σ : L2.St} {x : D} {v : V} {acc : List D} {Dd : Addr} {N : List D → Sto → Prop} {Nx : Hp → Prop}
    (r : Rel K ι μ H) (ev : EnvIs K ι H δ σ) (iv : Is K ι H x v) (hk : ι[k]? = some Dd) (h : lcTurn i k wt we δ x acc μ N)
    (kn : ∀ acc' ι' μ' H', Stp ι H ι' H' → Rel K ι' μ' H' → cell μ' k = some (.lst acc') → N acc' μ' → Nx H') :
    gName i v (wipe σ [i]) H fun σ2 H2 => wipe σ2 [i] = wipe σ [i] ∧ tt σ2 H2 fun b H3 => if b = true then te σ2 H3 fun y H4 => ∃ ac, H4 Dd = some (.lst ac) ∧ ac.length < sizeLine ∧ Nx (upd H4 Dd (.lst (ac ++ [y]))) else Nx H3 := by
  refine ⟨wipe_one σ i (some v), ?_⟩
  have env : EnvIs K ι H (put δ i (some x)) ((wipe σ [i]).set i (some v)) := by
    show EnvIs K ι H (put δ i (some x)) ((σ.set i none).set i (some v))
    rw [List.set_set]
    exact ev.put iv
  refine h2 R0 ι μ _ _ H _ _ ⟨r, env, xl0⟩ h fun b ι1 μ1 H1 s1 r1 q1 => ?_
  cases b with
  | false =>
    rw [if_neg Bool.false_ne_true]
    exact kn acc ι1 μ1 H1 s1 r1 q1.1 q1.2
  | true =>
    rw [if_pos rfl]
    refine h3 R0 ι1 μ1 _ _ H1 _ _ ⟨r1, env.stp s1, xl0⟩ q1 fun y d ι2 μ2 H2 s2 r2 i2 q2 => ?_
    obtain ⟨⟨hc, hz⟩, hn⟩ := q2
    obtain ⟨a, ys, e1, e2, e3⟩ := r2.lst (lstAt_of hc)
    have ed := (s1.trans s2).ext k Dd hk
    rw [e1] at ed
    cases ed
    refine ⟨ys, e2, ?_, ?_⟩
    · rw [e3.length]
      exact Nat.lt_of_le_of_lt hz (by decide)
    · refine kn (acc ++ [d]) ι2 _ _ ((s1.trans s2).trans (Stp.wr e2)) (r2.write hc e1 e2 (e3.app (show IsAll K ι2 H2 [d] [y] from ⟨y, [], rfl, i2, rfl⟩))) (cell_set_same ?_) hn
      exact cell_lt hc
theorem env_wipe {K : PySem.W.Frag} {ι : List Addr} {H : Hp} {δ : En} {σ : L2.St} (e : EnvIs K ι H δ σ) : EnvIs K ι H δ σ := e
variable {elt iter : Expr} {ifs : List Expr} {scope : Scope} {x : Str} {i : Nat} {wt : WT} {we : WE}
/-- [elt for x in range(n) if ..] -/
def wLcR (i : Nat) (wa : WA) (wt : WT) (we : WE) : WE := fun R δ μ P => wa R δ μ fun ds μ1 => ints1 (fun j => R62 j ∧ lcAll i wt we δ j.toNat (fun m => .int (0 + m)) (fun _ => True) μ1 P) ds
theorem re_lcR {K : PySem.W.Frag} {ta : TA} {tt : TT} {te : TE} {wa : WA} (a2 : RA K W ta wa) (t2 : RT K W0 tt wt) (e2 : RE K W0 te we) : RE K W (tLc (iRng1 ta) (gName i) tt te [i]) (wLcR i wa wt we) := by
  refine fun R ι μ δ σ H P Q c h kt => a2 R ι μ δ σ H _ _ c h fun vs ds ι1 μ1 H1 s1 r1 i1 q1 => ?_
  obtain ⟨j, ed, hj, Pv, h0, hturn, hd⟩ := ints1_of q1
  subst ed
  obtain ⟨v, ev, iv⟩ := isAll1 i1
  have iv' : v = .int j := iv
  subst iv'
  refine ⟨j, ev, hj.1, hj.2, fun Dd hD => ?_⟩
  have rel0 : Rel K (ι1 ++ [Dd]) (μ1 ++ [.lst []]) (upd H1 Dd (.lst [])) := r1.pushLst (ds := []) hD rfl
  have kD : (ι1 ++ [Dd])[μ1.length]? = some Dd := by
    rw [← r1.len, List.getElem?_append_right (Nat.le_refl _), Nat.sub_self]
    rfl
  refine lc_range (lo := 0) (n := j.toNat) (fun m H' => ∃ ι' μ' acc, Stp (ι1 ++ [Dd]) (upd H1 Dd (.lst [])) ι' H' ∧ Rel K ι' μ' H' ∧ cell μ' μ1.length = some (.lst acc) ∧ Pv m acc μ')
    ⟨ι1 ++ [Dd], _, [], Stp.refl _ _, rel0, cell_new μ1 _ [], h0⟩ (fun m H' hm z => ?_) fun H' z => ?_
  · obtain ⟨ι', μ', acc, s', r', hc', hp⟩ := z
    have full := (s1.trans (Stp.push (o := .lst []) hD)).trans s'
    refine lc_turn t2 e2 r' (c.env.stp full) (x := .int (0 + m)) rfl (s'.ext _ _ kD) (hturn m acc μ' hm hc' hp).2 fun acc' ι2 μ2 H2 s2 r2 hc2 hn => ?_
    exact ⟨ι2, μ2, acc', s'.trans s2, r2, hc2, hn⟩
  · obtain ⟨ι', μ', acc, s', r', hc', hp⟩ := z
    exact kt (.ref Dd) (.ref μ1.length) ι' μ' H' ((s1.trans (Stp.push (o := .lst []) hD)).trans s') r' ⟨Dd, s'.ext _ _ kD, rfl⟩ (hd acc μ' hc' hp).2
theorem q_lcR {a : Expr} {pr px : Pos} {wa : WA} (hc : X.calm = true) (hN : X.N.Nodup) (hgl : Gl X "range") (hm : X.mg "range" = none) (ha : QA X W [a] wa) (ok : BlkOk X.N X.env.scope scope [(x, i)])
    (hg : ∀ (s : Shared) (H : Hp) (C : Addr) (cl : List (Str × Addr)) (fp : List Addr), PG (X.blk s H scope (compEnvC scope cl C X.env) fp) (.Name x px) (gName i))
    (ht : ∃ tt, RT X.K W0 tt wt ∧ ∀ (s : Shared) (H : Hp) (C : Addr) (cl : List (Str × Addr)) (fp : List Addr), PTs (X.blk s H scope (compEnvC scope cl C X.env) fp) ifs tt)
    (he : ∃ te, RE X.K W0 te we ∧ ∀ (s : Shared) (H : Hp) (C : Addr) (cl : List (Str × Addr)) (fp : List Addr), PE (X.blk s H scope (compEnvC scope cl C X.env) fp) elt te)
    (hst : starEach [a] X.env = [(false, eval a X.env)] := by rfl) (hs : ∀ z, foldedSetIterable (.Call (.Name "range" pr) [a] [] p) X.env z = pure z := by intro _; rfl) :
    QE X W (.ListComp elt [⟨.Name x px, .Call (.Name "range" pr) [a] [] p, ifs, 0⟩] scope pos) (wLcR i wa wt we) := by
  obtain ⟨ta, a1, a2⟩ := ha
  obtain ⟨tt, t2, t1⟩ := ht
  obtain ⟨te, e2, e1⟩ := he
  exact ⟨_, pe_lc (own := [(x, i)]) hc hN (pi_range1 hgl hm a1 hst) ok hg t1 e1 hs, re_lcR a2 t2 e2⟩
/-- [elt for x in xs if ..] -/
def wLcL (i : Nat) (wl : WE) (wt : WT) (we : WE) : WE := fun R δ μ P => wl R δ μ fun d μ1 => ∃ xs, itemsOf μ1 d = some xs ∧ lcAll i wt we δ xs.length (fun m => xs.getD m .non) (fun μ' => itemsOf μ' d = some xs) μ1 P
theorem re_lcL {K : PySem.W.Frag} {tl : TE} {tt : TT} {te : TE} {wl : WE} (l2 : RE K W tl wl) (t2 : RT K W0 tt wt) (e2 : RE K W0 te we) : RE K W (tLc (iAny K tl) (gName i) tt te [i]) (wLcL i wl wt we) := by
  refine fun R ι μ δ σ H P Q c h kt => l2 R ι μ δ σ H _ _ c h fun v d ι1 μ1 H1 s1 r1 i1 q1 => ?_
  obtain ⟨xs, ex, Pv, h0, hturn, hd⟩ := q1
  obtain ⟨a, ys, ev, hq, ha⟩ := items_seq r1 i1 ex
  subst ev
  refine ⟨a, isTup d, rfl, ⟨ys, hq⟩, fun Dd hD => ?_⟩
  have rel0 : Rel K (ι1 ++ [Dd]) (μ1 ++ [.lst []]) (upd H1 Dd (.lst [])) := r1.pushLst (ds := []) hD rfl
  have kD : (ι1 ++ [Dd])[μ1.length]? = some Dd := by
    rw [← r1.len, List.getElem?_append_right (Nat.le_refl _), Nat.sub_self]
    rfl
  -- by hand: the source is read anew in each turn
  refine ⟨fun m n H' => n = xs.length - m ∧ m ≤ xs.length ∧ ∃ ι' μ' acc, Stp (ι1 ++ [Dd]) (upd H1 Dd (.lst [])) ι' H' ∧ Rel K ι' μ' H' ∧ cell μ' μ1.length = some (.lst acc) ∧ Pv m acc μ',
    ⟨xs.length, rfl, Nat.zero_le _, ι1 ++ [Dd], _, [], Stp.refl _ _, rel0, cell_new μ1 _ [], h0⟩, fun m n H' z => ?_⟩
  obtain ⟨hn, hle, ι', μ', acc, s', r', hc', hp⟩ := z
  have full := (s1.trans (Stp.push (o := .lst []) hD)).trans s'
  have is' := Is.stp ((Stp.push (o := .lst []) hD).trans s') _ _ i1
  by_cases hlt : m < xs.length
  · obtain ⟨hok, hl⟩ := hturn m acc μ' hlt hc' hp
    obtain ⟨a', ys', ev, hq', ha'⟩ := items_seq r' is' hok
    cases ev
    obtain ⟨y, hy, iy⟩ := ha'.get (i := m) (d := xs[m]) (List.getElem?_eq_getElem hlt)
    refine .inr ⟨ItA.go hq' hy, fun H2 => ∃ ι2 μ2 acc, Stp (ι1 ++ [Dd]) (upd H1 Dd (.lst [])) ι2 H2 ∧ Rel K ι2 μ2 H2 ∧ cell μ2 μ1.length = some (.lst acc) ∧ Pv (m + 1) acc μ2, fun H2 z => ⟨xs.length - (m + 1), by omega, rfl, hlt, z⟩, fun w H2 hw => ?_⟩
    obtain ⟨eH, fx⟩ := ItA.yld hw
    subst eH
    have ew : w = y := Option.some.inj ((fx _ hq').symm.trans hy)
    subst ew
    have eg : xs.getD m .non = xs[m] := by
      rw [List.getD_eq_getElem?_getD, List.getElem?_eq_getElem hlt]
      rfl
    have hl' : lcTurn i μ1.length wt we δ (xs.getD m .non) acc μ' (Pv (m + 1)) := hl
    rw [eg] at hl'
    refine lc_turn t2 e2 r' (c.env.stp full) iy (s'.ext _ _ kD) hl' fun acc' ι2 μ2 H2 s2 r2 hc2 hn => ?_
    exact ⟨ι2, μ2, acc', s'.trans s2, r2, hc2, hn⟩
  · have em : m = xs.length := by omega
    subst em
    obtain ⟨hok, hP⟩ := hd acc μ' hc' hp
    obtain ⟨a', ys', ev, hq', ha'⟩ := items_seq r' is' hok
    cases ev
    refine .inl ⟨ItA.stop hq' (by rw [ha'.length]; exact Nat.le_refl _), ?_⟩
    exact kt (.ref Dd) (.ref μ1.length) ι' μ' H' full r' ⟨Dd, s'.ext _ _ kD, rfl⟩ hP
theorem q_lcL {px : Pos} {wl : WE} (hc : X.calm = true) (hN : X.N.Nodup) (hi : QE X W iter wl) (ok : BlkOk X.N X.env.scope scope [(x, i)])
    (hg : ∀ (s : Shared) (H : Hp) (C : Addr) (cl : List (Str × Addr)) (fp : List Addr), PG (X.blk s H scope (compEnvC scope cl C X.env) fp) (.Name x px) (gName i))
    (ht : ∃ tt, RT X.K W0 tt wt ∧ ∀ (s : Shared) (H : Hp) (C : Addr) (cl : List (Str × Addr)) (fp : List Addr), PTs (X.blk s H scope (compEnvC scope cl C X.env) fp) ifs tt)
    (he : ∃ te, RE X.K W0 te we ∧ ∀ (s : Shared) (H : Hp) (C : Addr) (cl : List (Str × Addr)) (fp : List Addr), PE (X.blk s H scope (compEnvC scope cl C X.env) fp) elt te)
    (hs : ∀ z, foldedSetIterable iter X.env z = pure z := by intro _; rfl) :
    QE X W (.ListComp elt [⟨.Name x px, iter, ifs, 0⟩] scope pos) (wLcL i wl wt we) := by
  obtain ⟨tl, l1, l2⟩ := hi
  obtain ⟨tt, t2, t1⟩ := ht
  obtain ⟨te, e2, e1⟩ := he
  exact ⟨_, pe_lc (own := [(x, i)]) hc hN (pi_any l1) ok hg t1 e1 hs, re_lcL l2 t2 e2⟩
/-! ranges with the step -1 -/
def wForDown (wa : WA) (wg : WG) (wb : WS) : WS := fun R E δ μ => wa R δ μ fun ds μ1 => ints3 (fun i j c => c = -1 ∧ (R62 i ∧ R62 j) ∧ ∃ Pv : Nat → En → Sto → Prop, Pv 0 δ μ1 ∧
  (∀ (m : Nat) δ' μ', m < (i - j).toNat → Pv m δ' μ' → wg R (.int (i + (m : Int) * -1)) δ' μ' fun δ2 μ2 => wb R { E with nx := Pv (m + 1), ct := Pv (m + 1), bk := E.nx } δ2 μ2) ∧ ∀ δ' μ', Pv (i - j).toNat δ' μ' → E.nx δ' μ') ds
theorem qs_forDown {tg a b c : Expr} {pr p' : Pos} {body : List Stmt} {wa : WA} {wg : WG} {wb : WS} (hp : PassesOwn (model X.prog X.w) X.A X.env X.xe) (hcm : X.calm = true) (hgl : Gl X "range") (hm : X.mg "range" = none) (ha : QA X W [a, b, c] wa) (hg : QG X W tg wg) (hb : QSs X W body wb)
    (hst : starEach [a, b, c] X.env = (false, eval a X.env) :: starEach [b, c] X.env := by rfl) (hpl : (backTo p' (starEach [b, c] X.env)).any (·.1) = false := by rfl)
    (hs : ∀ x, foldedSetIterable (.Call (.Name "range" pr) [a, b, c] [] p') X.env x = pure x := by intro _; rfl) : QS X W (.For tg (.Call (.Name "range" pr) [a, b, c] [] p') body [] pos) (wForDown wa wg wb) := by
  obtain ⟨ta, a1, a2⟩ := ha
  obtain ⟨g, g1, g2⟩ := hg
  obtain ⟨tb, b1, b2⟩ := hb
  refine ⟨_, ps_for hp hcm (pi_range3 hgl hm a1 hst hpl) g1 b1 hs, fun R ι μ δ σ H E D cn h l => a2 R ι μ δ σ H _ _ cn h fun vs ds ι1 μ1 H1 s1 r1 i1 q1 => ?_⟩
  obtain ⟨i, j, cc, ed, hcc, ⟨hi, hj⟩, Pv, h0, ht, hd⟩ := ints3_of q1
  subst ed hcc
  obtain ⟨v, u, w, e1, iv, iu, iw⟩ := isAll3 i1
  have iv' : v = .int i := iv
  have iu' : u = .int j := iu
  have iw' : w = .int (-1) := iw
  subst iv' iu' iw'
  refine ⟨i, j, -1, _, e1, RgC.neg hi.1 hi.2 hj.1 hj.2, ?_⟩
  have c1 := cn.stp s1 r1
  have l1 := l.stp s1
  refine for_rangeC (fun m σ' H' => ∃ ι' μ' δ', Stp ι1 H1 ι' H' ∧ Rel X.K ι' μ' H' ∧ EnvIs X.K ι' H' δ' σ' ∧ Pv m δ' μ') ⟨ι1, μ1, δ, Stp.refl _ _, r1, c1.env, h0⟩ (fun m σ' H' hm z => ?_) fun σ' H' z => ?_
  · obtain ⟨ι', μ', δ', s', r', e', w'⟩ := z
    refine g2 R ι' μ' δ' σ' H' _ (.int (i + (m : Int) * -1)) _ _ ⟨r', e', c1.xl.stp s'⟩ rfl (ht m δ' μ' hm w') fun ι2 μ2 H3 δ2 σ2 s2 r2 e2 q2 => ?_
    refine b2 R ι2 μ2 δ2 σ2 H3 _ _ ⟨r2, e2, c1.xl.stp (s'.trans s2)⟩ q2 ?_
    exact ⟨fun ι3 μ3 H4 δ3 σ3 s3 r3 e3 q3 => ⟨ι3, μ3, δ3, (s'.trans s2).trans s3, r3, e3, q3⟩, (l1.stp (s'.trans s2)).rt, (l1.stp (s'.trans s2)).nx,
      fun ι3 μ3 H4 δ3 σ3 s3 r3 e3 q3 => ⟨ι3, μ3, δ3, (s'.trans s2).trans s3, r3, e3, q3⟩⟩
  · obtain ⟨ι', μ', δ', s', r', e', w'⟩ := z
    exact l1.nx ι' μ' H' δ' σ' s' r' e' (hd δ' μ' w')

/-! isinstance(x, a built-in class) -/
def wIsi (T : String) : WB := fun ds μ P => match ds with
  | [d, .ty n] => n = T ∧ ∃ t b, tyOf μ d = some t ∧ kitB t T = some b ∧ P (.bl b) μ
  | _ => False
theorem tyx_of {K : PySem.W.Frag} {ι : List Addr} {μ : Sto} {H : Hp} {d : D} {v : V} {t : String} (r : Rel K ι μ H) (i : Is K ι H d v) (h : tyOf μ d = some t) : TyX K H v (.type t) := by
  cases d with
  | non =>
    have e : v = .non := i
    cases h
    rw [e]
    exact .base .non
  | bl b =>
    have e : v = .bl b := i
    cases h
    rw [e]
    exact .base (.bl b)
  | int n =>
    have e : v = .int n := i
    cases h
    rw [e]
    exact .base (.int n)
  | str x =>
    have e : v = .str x := i
    cases h
    rw [e]
    exact .base (.str x)
  | tup ds =>
    cases h
    obtain ⟨a, xs, e, q, _⟩ := i
    rw [e]
    rcases q with (q | ⟨o, q⟩) | ⟨o, its, n, q1, q2, _⟩
    · exact .base (.tup q)
    · exact .fTuple q
    · exact .kTuple q1 q2
  | ref k =>
    have h' : (lstAt μ k).map (fun _ => "list") = some t := h
    cases hl : lstAt μ k with
    | none =>
      rw [hl] at h'
      cases h'
    | some xs =>
      rw [hl] at h'
      cases h'
      obtain ⟨a, ys, e1, e2, _⟩ := r.lst hl
      obtain ⟨a', ea, e⟩ := i
      rw [e1] at ea
      cases ea
      rw [e]
      exact .base (.lst e2)
  | _ => cases h
theorem qb_isi (T : String) : QB X (.builtin "isinstance") (wIsi T) := ⟨_, call_isi, fun ι μ H vs ds P Q r i h k => by
  unfold wIsi at h
  split at h
  · rename_i d n
    obtain ⟨en, t, b, ht, hb, q⟩ := h
    subst en
    obtain ⟨v, u, e1, iv, iu⟩ := isAll2 i
    have iu' : u = .ty n := iu
    subst iu'
    exact ⟨v, .ty n, .type t, .type n, b, e1, .ty n, tyx_of r iv ht, kit_ty hb, k.at r (d := .bl b) rfl q⟩
  · exact h.elim⟩
/-- a built-in class as a value -/
theorem q_bltTy {y : Str} {n : String} (hg : Gl X y) (hm : X.mg y = none) (hv : bootBuiltins y = some (.type n)) (hn : y ≠ "__name__" := by decide) (hd : (y == ("__debug__" : Str)) = false := by decide) : QE X W (.Name y pos) (wC (.ty n)) :=
  ⟨_, pe_bltn (v := .ty n) hg hm hv rfl hn hd, fun _ _ _ _ _ _ _ _ c h k => k.at c.rel (d := .ty n) rfl h⟩
end

/-! ### the law's end -/
/-- the law: whatever the script, True -/
def spLawD (n : Nat) : SpD := fun ds μ P _ => ∃ ns : List Int, ds = [.ro (ns.map .int)] ∧ ns.length ≤ n ∧ μ = [] ∧ ∀ μ', P (.bl true) μ'
theorem ro_script {K : PySem.W.Frag} {H : Hp} {a : Addr} {ns : List Int} (hO : Only H) (hS : SqL K H a (ns.map V.int)) : IsAll K [] H [.ro (ns.map .int)] [.ref a] := by
  refine ⟨.ref a, [], rfl, ⟨a, ns.map V.int, rfl, ?_, isAll_ints ns⟩, rfl⟩
  rcases hS with (h | h) | h
  · rcases hO a with z | ⟨o, xs, z⟩
    · rw [z] at h
      cases h
    · rw [z] at h
      cases h
  · exact .inl h
  · exact .inr h
theorem rel_nil {K : PySem.W.Frag} {H : Hp} : Rel K [] [] H := ⟨rfl, fun i j a h => by simp at h, fun k o h => by cases h⟩
theorem walkD {l : PySem.W.OpenLaw} {n k : Nat} {q : Program} {loose : List Str} {XP : (Str → Option Value) → Heap → Prop} {YP : World → Heap → Prop} {d : DefRec} {K : Params → PySem.W.Frag} {x : Str}
    (hn : l.most = some n) (hn2 : n ≤ sizeLine) (hdf : d.params.defaults = []) (hr : Room k callerA)
    (hY : ∀ (w : World) (h : Heap), YP w h → (K w.params).In h)
    (F : ∀ (w : World) (mg : Str → Option Value) (fa : Addr) (h : Heap), (K w.params).In h → h.Ns mainGlobals mg → mg d.name = some (.ref fa) →
      ∃ fd : FuncData, (∀ (s : Shared) (u : Value), BindsTo s fd ⟨[u], []⟩ [(x, u)]) ∧
        ∀ base : Heap, (K w.params).In base → base.Ns mainGlobals mg → FnG l.prog w (K w.params) mg base k fa fd [x] (spOf (K w.params) (spLawD n))) :
    PySem.W.WalkO q loose XP YP l.row.toRowW d [] (fun f vs => PySem.call f vs) := by
  refine Att.attach_call hn hdf fun w s₀ s₁ mg mb fa o pm cd doc a vs ns G Y ho hd hcd hmg hobj hints hlen hg => ?_
  have KX := hY w _ Y
  obtain ⟨fd, hb, hF⟩ := F w mg fa _ KX G.T.g hmg
  -- from here on over FnG
  have lenV := hints.length
  have hl : ns.length ≤ sizeLine := Nat.le_trans hlen hn2
  have rv := vals_ints hints
  have goal : ∀ H : Hp, Only H → SqL (K w.params) H a (ns.map V.int) → HOk l.prog w H s₁.heap → (∀ b, H b ≠ none → b = a) → (H a ≠ none → (K w.params).lookup a = none) →
      codeAny (model l.prog w) callerA (.call (.ref fa) ⟨[.ref a], []⟩) (fun r s' => r = .ok (.ret (.bool true)) ∧ OldK s₁.heap s'.heap ∧ s'.os = s₁.os ∧ AllBare s'.gens) s₁ := by
    intro H only scr hok onlyA notK
    have free_of : ∀ {b : Addr} {ob : Obj}, s₁.heap.get? b = some ob → (∀ vs' n', ob.data ≠ .seq vs' n') → H b = none := by
      intro b ob hget hdat
      match hHb : H b with
      | none => rfl
      | some u =>
        have hba : b = a := onlyA b (by rw [hHb]; exact Option.some_ne_none u)
        rw [hba, hobj] at hget
        have hob := Option.some.inj hget
        exact absurd rfl (by rw [← hob] at hdat; exact hdat _ _)
    have ns_hid : ∀ {b : Addr} {m : Str → Option Value}, s₁.heap.Ns b m → (hidT s₁.heap H).Ns b m := by
      intro b m hns
      obtain ⟨ob, es, ep, hget, hdat, rest⟩ := hns
      refine ⟨ob, es, ep, hidT_get hget (free_of hget ?_), hdat, rest⟩
      intro vs' n' z
      rw [hdat] at z
      cases z
    have kin_hid : (K w.params).In (hidT s₁.heap H) := by
      intro b ob hlook
      refine hidT_get (KX b ob hlook) ?_
      match hHb : H b with
      | none => rfl
      | some u =>
        have hba : b = a := onlyA b (by rw [hHb]; exact Option.some_ne_none u)
        subst hba
        have := notK (by rw [hHb]; exact Option.some_ne_none u)
        rw [this] at hlook
        cases hlook
    obtain ⟨mc, lim1, lim2⟩ := G.T.nolimit
    have modu : Mod (K w.params) mg (hidT s₁.heap H) := ⟨kin_hid, ns_hid G.T.g, ⟨mb, ns_hid G.T.b, G.T.builtins⟩, ⟨mc, ns_hid lim1, lim2⟩⟩
    have en0 : Env0 l.prog w (K w.params) mg (hidT s₁.heap H) callerA [] s₁ H :=
      ⟨rfl, modu, fun b ob z => of_hidT z, Nat.le_of_eq (hidT_size _ _), trivial, fun b z => absurd (show b ∈ ([] : List Addr) from z) (by simp), hok, .of_eq hg⟩
    have promise : spOf (K w.params) (spLawD n) [.ref a] H (fun v _ => v = .bl true) (fun _ _ _ => False) :=
      ⟨[], [], _, fun d _ => d = .bl true, fun _ _ _ => False, rel_nil, ro_script only scr, ⟨ns, rfl, hlen, rfl, fun _ => rfl⟩,
        fun v dd ι' μ' H' _ _ i z => by
          subst z
          exact i, fun _ _ _ _ _ _ _ _ _ z => z⟩
    have run := (hF _ kin_hid (ns_hid G.T.g)).run callerA [] s₁ H ⟨[.ref a], []⟩ [.ref a] [.ref a] _ _ rfl hr en0 (hb s₁ (.ref a)) (.cons rfl .nil) promise
    refine codeAny_mono run fun r s' hres => ?_
    match r, hres with
    | .error e, hres =>
      obtain ⟨_, _, _, _, _, _, _, _, _, _, _, _, z⟩ := (show L2.CX l.prog w [] H s₁ (fun _ _ _ => False) e s' from hres)
      exact z.elim
    | .ok .next, hres => exact False.elim hres
    | .ok .brk, hres => exact False.elim hres
    | .ok .cont, hres => exact False.elim hres
    | .ok (.ret u), hres =>
      obtain ⟨v, H', os, bare, un, hok', rel', ev⟩ := hres
      have ev' : v = .bl true := ev
      subst ev'
      have eu : u = Value.bool true := rel'
      subst eu
      refine ⟨rfl, OldK.of_keep (fun b ob hget => ?_), os, bare⟩
      match hHb : H b with
      | none => exact un.keep b ob hget hHb (fun z => absurd (show b ∈ ([] : List Addr) from z) (by simp)) (by simp)
      | some u' =>
        rcases only b with z | ⟨of, xs, z⟩
        · rw [hHb] at z
          cases z
        · have later := un.frzs b of _ z
          have h1 := (hok b _ z).1
          have h2 := (hok' b _ later).1
          rw [hget] at h1
          cases h1
          exact h2
  match hlk : (K w.params).lookup a with
  | some ob =>
    have hsame := KX a ob hlk
    rw [hobj] at hsame
    have hob := Option.some.inj hsame
    subst hob
    refine goal (fun _ => none) (fun _ => Or.inl rfl) (Or.inr ⟨_, vs.toArray, _, hlk, rfl, rfl, rfl, ?_, ?_⟩) (fun b u z => nomatch z) (fun b z => absurd rfl z) (fun z => absurd rfl z)
    · rw [List.size_toArray, lenV]
      exact hl
    · simpa using rv
  | none =>
    let Hs : Hp := fun b => if b = a then some (.frz { cls := .type "list", data := .seq vs.toArray } (.lst (ns.map V.int))) else none
    have at_a : Hs a = some (.frz { cls := .type "list", data := .seq vs.toArray } (.lst (ns.map V.int))) := if_pos rfl
    have at_b : ∀ b, b ≠ a → Hs b = none := fun b hb => if_neg hb
    refine goal Hs (fun b => ?_) (Or.inl (Or.inr ⟨_, at_a⟩)) (fun b u z => ?_) (fun b z => ?_) (fun _ => hlk)
    · exact if hb : b = a then Or.inr ⟨_, _, by rw [hb]; exact at_a⟩ else Or.inl (at_b b hb)
    · by_cases hb : b = a
      · subst hb
        rw [at_a] at z
        have z' := Option.some.inj z
        subst z'
        exact ⟨hobj, by rw [List.length_map]; exact hl, vs, _, rv, hobj⟩
      · rw [at_b b hb] at z
        cases z
    · by_cases hb : b = a
      · exact hb
      · exact absurd (at_b b hb) z
end HD
/-! HD6: a def by its derivation and its condition; truth; words. -/
namespace HD
open PySem PySem.Spec PyProof.Rows L2

def startD : Nat → List D → En
  | n, [] => List.replicate n none
  | 0, d :: r => some d :: startD 0 r
  | n + 1, d :: r => some d :: startD n r
theorem env_start {K : PySem.W.Frag} {ι : List Addr} {H : Hp} : ∀ (ds : List D) (vs : List V) (N : List Str), ds.length ≤ N.length → IsAll K ι H ds vs → EnvIs K ι H (startD N.length ds) (start N vs)
  | [], vs, N, _, h => by
    have e : vs = [] := h
    subst e
    have es : start N [] = List.replicate N.length none := by
      unfold L2.start
      simp
    rw [es]
    refine ⟨by simp [startD], fun i d hd => ?_⟩
    have gen : ∀ (n i : Nat) (d : D), slot (List.replicate n none) i = some d → False := by
      intro n
      induction n with
      | zero => intro i d h; cases i <;> cases h
      | succ n ih =>
        intro i d h
        cases i with
        | zero => cases h
        | succ i => exact ih i d h
    exact (gen _ i d hd).elim
  | d :: r, vs, [], hl, h => absurd hl (Nat.not_succ_le_zero _)
  | d :: r, vs, x :: N, hl, h => by
    obtain ⟨v, vr, e, iv, t⟩ := h
    subst e
    have ih := env_start r vr N (Nat.le_of_succ_le_succ hl) t
    have es : start (x :: N) (v :: vr) = some v :: start N vr := by
      unfold L2.start
      simp
    rw [es]
    refine ⟨by show (startD N.length r).length + 1 = (start N vr).length + 1; rw [ih.len], fun i f hf => ?_⟩
    cases i with
    | zero =>
      have e : d = f := Option.some.inj hf
      subst e
      exact ⟨v, rfl, iv⟩
    | succ i => exact ih.at_ i f hf
/-- THE RULE for a def -/
theorem defD {P : Program} {w : World} {K : PySem.W.Frag} {mg : Str → Option Value} {base : Heap} {x qual : Str} {st : Stmt} {f : Addr} {fd : FuncData} {N ps : List Str} {k : Nat} {sp : SpD} {ws : WS}
    (F : Fun K x qual st f fd) (S : FnScope N ps (defScope st)) (hl : ∀ ds μ Pd R, sp ds μ Pd R → ds.length = ps.length)
    (der : ∀ (cdv : Value) (A : Around) (outer : List Env) (s : Shared) (H : Hp) (E : XK), A.guards = some [] → Room k (A.deeper (envOfC qual (defScope st) s.heap.objs.size f cdv)) →
      QSs (cxOf (L2.CX P w) P w K mg base N qual (defScope st) f cdv A outer s H E) (fun cls d _ H => E cls d H) (defBody st) ws)
    (vc : ∀ ds μ Pd R, sp ds μ Pd R → ws (fun _ C fs μ' => R C fs μ') { nx := fun _ μ' => Pd .non μ', rt := Pd } (startD N.length ds) μ) : FnG P w K mg base (k + 1) f fd ps (spOf K sp) := by
  have hpl : ps.length ≤ N.length := by
    have := congrArg List.length S.pre
    rw [List.length_take] at this
    omega
  refine fnG_of F S (fun vs H Q E h => ?_) (fun cdv A outer s H vs Q E gd hr h => ?_)
  · obtain ⟨ι, μ, ds, Pd, R, r, i, q, _, _⟩ := h
    rw [i.length]
    exact hl _ _ _ _ q
  · obtain ⟨ι, μ, ds, Pd, R, r, i, q, kt, kx⟩ := h
    obtain ⟨t, h1, h2⟩ := der cdv A outer s H E gd hr
    refine ⟨t, h1, ?_⟩
    have env := env_start ds vs N (by rw [hl _ _ _ _ q]; exact hpl) i
    refine h2 (fun _ C fs μ' => R C fs μ') ι μ _ _ H _ _ ⟨r, env, ?_⟩ (vc ds μ Pd R q) ?_
    · exact fun ι' μ' δ' σ' H' C fs d s' r' e' hf z => kx C fs d ι' μ' H' s' r' hf z
    · exact ⟨fun ι' μ' H' δ' σ' s' r' e' z => kt .non .non ι' μ' H' s' r' rfl z, fun v d ι' μ' H' s' r' i' z => kt v d ι' μ' H' s' r' i' z, fun _ _ _ _ _ _ _ _ z => z.elim, fun _ _ _ _ _ _ _ _ z => z.elim⟩

section
variable {X : Cx} {W : WX} {e a : Expr} {we : WE} {pos : Pos}
theorem qv (i : Nat) {x : Str} (hN : X.N[i]? = some x := by rfl) (hv : Vis X.env.scope x := by first | exact Or.inl rfl | exact Or.inr (Or.inl rfl) | exact Or.inr (Or.inr rfl)) (hd : (x == ("__debug__" : Str)) = false := by decide)
    (hcd : (x == ("__classdict__" : Str)) = false := by decide) : QE X W (.Name x pos) (wVar i) := q_var i hN hv hd hcd
/-- a value's truth -/
def wTruth (we : WE) : WT := fun R δ μ P => we R δ μ fun d μ1 => match d with
  | .bl b => P b μ1
  | .non => P false μ1
  | .int i => P (i != 0) μ1
  | .str z => z.length ≤ sizeLine ∧ P ((z.length : Int) != 0) μ1
  | .tup xs => P (!xs.isEmpty) μ1
  | .ref k => match lstAt μ1 k with
    | some xs => P (!xs.isEmpty) μ1
    | none => False
  | _ => False
theorem empty_is {K : PySem.W.Frag} {ι : List Addr} {H : Hp} {ds : List D} {xs : List V} (h : IsAll K ι H ds xs) : xs.isEmpty = ds.isEmpty := by
  cases ds with
  | nil =>
    have e : xs = [] := h
    rw [e]
    rfl
  | cons d r =>
    obtain ⟨v, vr, e, _, _⟩ := h
    rw [e]
    rfl
theorem qt_truth (h : QE X W a we) (he : ∀ whole, isTrue a X.env whole = (do let v ← whole; standAt a.pos; holding [v] (truthy v)) := by intro _; rfl) : QT X W a (wTruth we) := by
  obtain ⟨t, h1, h2⟩ := h
  refine ⟨_, pt_truth h1 he, fun R ι μ δ σ H P Q c hw k => h2 R ι μ δ σ H _ _ c hw fun v d ι1 μ1 H1 s1 r1 i1 q1 => ?_⟩
  cases d with
  | bl b =>
    have ev : v = .bl b := i1
    subst ev
    exact ⟨b, rfl, k b ι1 μ1 H1 s1 r1 q1⟩
  | non =>
    have ev : v = .non := i1
    subst ev
    exact ⟨false, rfl, k false ι1 μ1 H1 s1 r1 q1⟩
  | int i =>
    have ev : v = .int i := i1
    subst ev
    exact ⟨_, rfl, k _ ι1 μ1 H1 s1 r1 q1⟩
  | str z =>
    have ev : v = .str z := i1
    subst ev
    exact ⟨_, ⟨q1.1, rfl⟩, k _ ι1 μ1 H1 s1 r1 q1.2⟩
  | tup ds =>
    obtain ⟨ad, xs, ev, q, t⟩ := i1
    subst ev
    exact ⟨_, .inr (.inl ⟨xs, q, rfl⟩), by rw [empty_is t]; exact k _ ι1 μ1 H1 s1 r1 q1⟩
  | ref kk =>
    have q2 : match lstAt μ1 kk with
      | some xs => P (!xs.isEmpty) μ1
      | none => False := q1
    split at q2
    · rename_i ds el
      obtain ⟨ad, xs, f1, f2, f3⟩ := r1.lst el
      obtain ⟨a', ea, ev⟩ := i1
      rw [f1] at ea
      cases ea
      subst ev
      exact ⟨_, .inl ⟨xs, SqL.of f2, rfl⟩, by rw [empty_is f3]; exact k _ ι1 μ1 H1 s1 r1 q2⟩
    · exact q2.elim
  | _ => exact q1.elim
/-- .bit_length() -/
def wBits (we : WE) : WE := fun R δ μ P => we R δ μ fun d μ1 => match d with
  | .int i => P (.int (Builtin.Int.intBits i : Nat)) μ1
  | _ => False
theorem q_bits {apos : Pos} (h : QE X W a we) (hbase : attributeBase a "bit_length" X.env (eval a X.env) = eval a X.env := by rfl) (hline : (apos.endLine == pos.line) = true := by rfl) : QE X W (.Call (.Attribute a "bit_length" apos) [] [] pos) (wBits we) := by
  obtain ⟨t, h1, h2⟩ := h
  refine ⟨_, pe_bits h1 hbase hline, fun R ι μ δ σ H P Q c hw k => h2 R ι μ δ σ H _ _ c hw fun v d ι1 μ1 H1 s1 r1 i1 q1 => ?_⟩
  cases d with
  | int i => exact ⟨i, i1, (k.stp s1).at r1 (d := .int _) rfl q1⟩
  | _ => exact q1.elim
end
/-! one reading for all contexts -/
def rdE (K : PySem.W.Frag) (W : WX) (we : WE) : TE := fun σ H Q => ∃ R ι μ δ P, Cn K W ι μ H δ σ R ∧ we R δ μ P ∧ Kt K ι H P Q
def rdT (K : PySem.W.Frag) (W : WX) (wt : WT) : TT := fun σ H Q => ∃ R ι μ δ P, Cn K W ι μ H δ σ R ∧ wt R δ μ P ∧ KtB K ι H P Q
theorem re_rd {K : PySem.W.Frag} {W : WX} {we : WE} : RE K W (rdE K W we) we := fun R ι μ δ σ H P Q c h k => ⟨R, ι, μ, δ, P, c, h, k⟩
theorem rt_rd {K : PySem.W.Frag} {W : WX} {wt : WT} : RT K W (rdT K W wt) wt := fun R ι μ δ σ H P Q c h k => ⟨R, ι, μ, δ, P, c, h, k⟩
theorem QE.canon {X : Cx} {W : WX} {e : Expr} {we : WE} (h : QE X W e we) : PE X e (rdE X.K W we) := by
  obtain ⟨t, h1, h2⟩ := h
  refine ⟨fun pins s σ H Q I z => ?_⟩
  obtain ⟨R, ι, μ, δ, P, c, q, k⟩ := z
  exact h1.run pins s σ H Q I (h2 R ι μ δ σ H P Q c q k)
theorem QTs.canon {X : Cx} {W : WX} {es : List Expr} {wt : WT} (h : QTs X W es wt) : PTs X es (rdT X.K W wt) := by
  obtain ⟨t, h1, h2⟩ := h
  refine ⟨fun pins s σ H Q I z => ?_⟩
  obtain ⟨R, ι, μ, δ, P, c, q, k⟩ := z
  exact h1.run pins s σ H Q I (h2 R ι μ δ σ H P Q c q k)
section
variable {X : Cx} {W : WX} {pos p : Pos} {elt iter : Expr} {ifs : List Expr} {scope : Scope} {x : Str} {i : Nat} {wt : WT} {we : WE}
theorem qe_lcR {a : Expr} {pr px : Pos} {wa : WA} (hc : X.calm = true) (hN : X.N.Nodup) (hgl : Gl X "range") (hm : X.mg "range" = none) (ha : QA X W [a] wa) (ok : BlkOk X.N X.env.scope scope [(x, i)])
    (hg : ∀ (s : Shared) (H : Hp) (C : Addr) (cl : List (Str × Addr)) (fp : List Addr), PG (X.blk s H scope (compEnvC scope cl C X.env) fp) (.Name x px) (gName i))
    (ht : ∀ (s : Shared) (H : Hp) (C : Addr) (cl : List (Str × Addr)) (fp : List Addr), QTs (X.blk s H scope (compEnvC scope cl C X.env) fp) W0 ifs wt)
    (he : ∀ (s : Shared) (H : Hp) (C : Addr) (cl : List (Str × Addr)) (fp : List Addr), QE (X.blk s H scope (compEnvC scope cl C X.env) fp) W0 elt we)
    (hst : starEach [a] X.env = [(false, eval a X.env)] := by rfl) (hs : ∀ z, foldedSetIterable (.Call (.Name "range" pr) [a] [] p) X.env z = pure z := by intro _; rfl) :
    QE X W (.ListComp elt [⟨.Name x px, .Call (.Name "range" pr) [a] [] p, ifs, 0⟩] scope pos) (wLcR i wa wt we) :=
  q_lcR hc hN hgl hm ha ok hg ⟨rdT X.K W0 wt, rt_rd, fun s H C cl fp => QTs.canon (ht s H C cl fp)⟩ ⟨rdE X.K W0 we, re_rd, fun s H C cl fp => QE.canon (he s H C cl fp)⟩ hst hs
theorem qe_lcL {px : Pos} {wl : WE} (hc : X.calm = true) (hN : X.N.Nodup) (hi : QE X W iter wl) (ok : BlkOk X.N X.env.scope scope [(x, i)])
    (hg : ∀ (s : Shared) (H : Hp) (C : Addr) (cl : List (Str × Addr)) (fp : List Addr), PG (X.blk s H scope (compEnvC scope cl C X.env) fp) (.Name x px) (gName i))
    (ht : ∀ (s : Shared) (H : Hp) (C : Addr) (cl : List (Str × Addr)) (fp : List Addr), QTs (X.blk s H scope (compEnvC scope cl C X.env) fp) W0 ifs wt)
    (he : ∀ (s : Shared) (H : Hp) (C : Addr) (cl : List (Str × Addr)) (fp : List Addr), QE (X.blk s H scope (compEnvC scope cl C X.env) fp) W0 elt we)
    (hs : ∀ z, foldedSetIterable iter X.env z = pure z := by intro _; rfl) :
    QE X W (.ListComp elt [⟨.Name x px, iter, ifs, 0⟩] scope pos) (wLcL i wl wt we) :=
  q_lcL hc hN hi ok hg ⟨rdT X.K W0 wt, rt_rd, fun s H C cl fp => QTs.canon (ht s H C cl fp)⟩ ⟨rdE X.K W0 we, re_rd, fun s H C cl fp => QE.canon (he s H C cl fp)⟩ hs
end
/-- a def of the top, as the head leaves it -/
structure FnT (K : PySem.W.Frag) (mg : Str → Option Value) (x : Str) (st : Stmt) (ps : List Str) where
  a : Addr
  fd : FuncData
  fn : Fun K x x st a fd
  gl : mg x = some (.ref a)
  bd : Binds K fd ps []
/-- keywords alone, one; two, turned round -/
theorem gall_one : GAll 0 1 (fun us ws => us ++ ws) := fun K ι H ds es vs zs l1 l2 h1 h2 => h1.app h2
theorem kbd_of {K : PySem.W.Frag} {x qual : Str} {st : Stmt} {f : Addr} {fd : FuncData} {ps ks : List Str} {n : Nat} {g : {α : Type} → List α → List α → List α} (F : Fun K x qual st f fd)
    (h : ∀ (kV doc pm : Value) (an : Option Addr) (cdv ct : Value) (us ws : List Value), us.length = n → ws.length = ks.length →
      bindArgs (PySem.W.fnOf x qual (defArgs st) (defBody st) (defScope st) .none kV doc pm an cdv ct) ⟨us, ks.zip ws⟩ = pure (ps.zip (g us ws)))
    (hr : ∀ {vs : List V} {us : List Value} {zs : List V} {ws : List Value}, vs.length = n → zs.length = ks.length → Vals vs us → Vals zs ws → Vals (g vs zs) (g us ws)) : KBd K fd ps ks n g := by
  obtain ⟨oc, od, kV, doc, pm, an, cdv, ct, osl, rfl, lk, hcd⟩ := F.ex
  exact ⟨fun s us ws l1 l2 => .of_eq (h kV doc pm an cdv ct us ws l1 l2), hr⟩
end HD
namespace HD
open PySem PySem.Spec PyProof.Rows L2
section
variable {X : Cx} {W : WX} {e : Expr} {we : WE} {pos : Pos}
theorem qset (i : Nat) {x : Str} {pos' : Pos} (he : QE X W e we) (hN : X.N.Nodup) (hi : X.N[i]? = some x := by rfl) (hx : Loc X.env.scope x := by first | exact Or.inl rfl | exact Or.inr rfl) (hs : swapsWith e (some (.Name x pos')) pos.line X.env = pure false := by rfl)
    (hf : X.fn x = true ∨ X.env.scope.names.lookup x = some .local := by first | exact .inl rfl | exact .inr rfl) : QS X W (.Assign [.Name x pos'] e pos) (wAsg we (wgName i)) := qs_set hN hi hx he hs hf
theorem qgn (i : Nat) {x : Str} (hN : X.N.Nodup) (hi : X.N[i]? = some x := by rfl) (hx : Loc X.env.scope x := by first | exact Or.inl rfl | exact Or.inr rfl) (hf : X.fn x = true ∨ X.env.scope.names.lookup x = some .local := by first | exact .inl rfl | exact .inr rfl) : QG X W (.Name x pos) (wgName i) := qg_name hN hi hx hf
end
end HD
namespace HD
open PySem PySem.Spec PyProof.Rows L2
theorem room65 {k : Nat} {A : Around} (hr : Room k A) : A.units + 65 < cLine := by
  have := hr.un
  omega
end HD
/-! HD7: own error classes of one field (over ValueError, LookupError, ArithmeticError): made, raised, caught, read. -/
namespace HD
open PySem PySem.Spec PyProof.Rows L2

/-! ### what stands behind the own classes in an error's order of bases -/
def dropRefs : List Value → List Value
  | .ref _ :: r => dropRefs r
  | l => l
theorem dropRefs_pass (self : Value) : ∀ l : List Value, refuseLoop self "__setattr__" l = refuseLoop self "__setattr__" (dropRefs l)
  | [] => rfl
  | .ref c :: r => by
    rw [refuseLoop_ref]
    exact dropRefs_pass self r
  | .none :: _ => rfl
  | .ellipsis :: _ => rfl
  | .notImplemented :: _ => rfl
  | .bool _ :: _ => rfl
  | .int _ _ :: _ => rfl
  | .float _ _ :: _ => rfl
  | .str _ _ :: _ => rfl
  | .bytes _ _ :: _ => rfl
  | .type _ :: _ => rfl
  | .builtin _ :: _ => rfl
theorem dropRefs_has (T : String) : ∀ l : List Value, l.contains (.type T) = (dropRefs l).contains (.type T)
  | [] => rfl
  | .ref c :: r => by
    rw [List.contains_cons, dropRefs_has T r]
    rfl
  | .none :: _ => rfl
  | .ellipsis :: _ => rfl
  | .notImplemented :: _ => rfl
  | .bool _ :: _ => rfl
  | .int _ _ :: _ => rfl
  | .float _ _ :: _ => rfl
  | .str _ _ :: _ => rfl
  | .bytes _ _ :: _ => rfl
  | .type _ :: _ => rfl
  | .builtin _ :: _ => rfl
/-- what is wanted of the tail bm of an own error class that is made by newId -/
structure Under (newId : String) (bm : List Value) : Prop where
  facts : ∃ (B initId : String) (bmB : List Value), ExcBaseFacts B newId initId bmB ∧ ∀ X : String, bm.contains (.type X) = bmB.contains (.type X)
  pass : ∀ self, refuseLoop self "__setattr__" bm = pure ()
  obj : bm.contains (.type "object") = true
def lkTail : List Value := [.type "LookupError", .type "Exception", .type "BaseException", .type "object"]
def arTail : List Value := [.type "ArithmeticError", .type "Exception", .type "BaseException", .type "object"]
def veTail : List Value := [.type "ValueError", .type "Exception", .type "BaseException", .type "object"]
theorem passVE (self : Value) : refuseLoop self "__setattr__" veTail = pure () := by kernel_rfl
theorem passLk (self : Value) : refuseLoop self "__setattr__" lkTail = pure () := by kernel_rfl
theorem passAr (self : Value) : refuseLoop self "__setattr__" arTail = pure () := by kernel_rfl
theorem under_ve {bm : List Value} (h : dropRefs bm = veTail) : Under "ValueError.__new__" bm :=
  ⟨⟨_, _, _, F.excBase_ValueError, fun X => by rw [dropRefs_has, h] <;> rfl⟩, fun self => by rw [dropRefs_pass, h]; exact passVE self, by rw [dropRefs_has, h]; decide +kernel⟩
theorem under_lk {bm : List Value} (h : dropRefs bm = lkTail) : Under "LookupError.__new__" bm :=
  ⟨⟨_, _, _, F.excBase_LookupError, fun X => by rw [dropRefs_has, h] <;> rfl⟩, fun self => by rw [dropRefs_pass, h]; exact passLk self, by rw [dropRefs_has, h]; decide +kernel⟩
theorem under_ar {bm : List Value} (h : dropRefs bm = arTail) : Under "ArithmeticError.__new__" bm :=
  ⟨⟨_, _, _, F.excBase_ArithmeticError, fun X => by rw [dropRefs_has, h] <;> rfl⟩, fun self => by rw [dropRefs_pass, h]; exact passAr self, by rw [dropRefs_has, h]; decide +kernel⟩

/-! ### self.f = v in the __init__ of such an error, nothing stored as yet -/
section
variable {prog : Program} {w : World} {A : Around} {R : Result → Shared → Prop} {hp : Heap} {g : Array GenState} {dr : Drawn} {t : Nat} {os : OsState}
open PySem.HandSPX PySem.Builtin PySem.Builtin.ObjectAttr in
theorem first_field {K : PySem.W.Frag} {f : Str} {tk : Tok} {v : Value} {x C : Addr} {fv : Array Value} {nm q : Str} {bs bm : List Value} {N : Addr} {sn : List Str} {sb : List Value} {ab : Bool} {col : Option Bool} {del : Bool} {newId : String} (X : K.In hp)
    (hx : hp.get? x = some { cls := .ref C, data := .fields fv }) (hcd : PySem.W.clsIn K C = some { name := nm, bases := bs, mro := .ref C :: bm, ns := N, qualname := q, hasDict := true, slotNames := sn, subclasses := sb, abstract := ab, collection := col, hasDel := del })
    (U : Under newId bm) (ha : PySem.W.findIn K (.ref C) f = some none)
    (hq : ∀ h' tk' dx, (∀ b o, b ≠ x → hp.get? b = some o → h'.get? b = some o) → hp.objs.size ≤ dx → dx ≠ x → h'.get? x = some { cls := .ref C, dict := some dx, data := .fields fv } → h'.Ns1 dx (fun y => if y = f then some v else none) → R (.ok (.ret .none)) ⟨h', g, dr, tk', os⟩) :
    codeAny (model prog w) A (.call (.builtin "object.__setattr__") ⟨[.ref x, .str f tk, v], []⟩) R ⟨hp, g, dr, t, os⟩ := by
  have inst : PySem.W.InstAt hp x { cls := .ref C, data := .fields fv } C none := ⟨hx, rfl, rfl, trivial⟩
  have neNew : x ≠ hp.objs.size := Nat.ne_of_lt (Heap.lt_size hx)
  have ofC : PySem.W.Looks (model prog w) hp (classData C) _ := PySem.W.looks_clsIn X hcd
  have order : PySem.W.Looks (model prog w) hp (mroOf (.ref C)) (.ref C :: bm) := (PySem.W.looks_clsIn X hcd).andThen .now
  have inObj : PySem.W.Looks (model prog w) hp (isInstance (.ref x) (.type "object")) true := by
    refine inst.type.andThen (PySem.W.looks_mroIn X ?_)
    unfold PySem.W.mroIn
    rw [hcd, Option.bind_some]
    have hc : (Value.ref C :: bm).contains (.type "object") = true := by rw [List.contains_cons, U.obj, Bool.or_true]
    show (if (Value.ref C :: bm).isEmpty = true then _ else _) = _
    rw [if_neg (by show ¬ (false = true); decide), hc]
  have noTaker : PySem.W.Looks (model prog w) hp (storeTaker? none) none := .now
  refine codeAny_call_builtin F.store_object.slot.plain F.store_object.entry (@PySem.W.check_slot (model prog w) _ _ ⟨hp, g, dr, t, os⟩ "object.__setattr__" "object" "__setattr__" (.ref x) [.str f tk, v] [] _
    F.store_object.kind F.store_object.split inObj (F.store_object.args (.ref x) (.str f tk) v) ?_)
  rw [PySem.W.osa_eq, refuse_eq]
  refine wpAny_bind (wpAny_bind (inst.type.at (wpAny_bind (order.at ?_))))
  rw [refuseLoop_ref, U.pass]
  refine wpAny_pure (wpAny_bind (inst.type.at (wpAny_bind ((PySem.W.looks_findIn X ha).at (wpAny_bind (noTaker.at ?_))))))
  show wpAny _ _ (storeInOwnDict (.ref x) (.ref C) (.str f tk) f v false) _ _ _
  unfold storeInOwnDict ownDictForStores
  repeat (first | with_reducible refine store_in_new ?_ ?_ | with_reducible refine wpAny_loadPart_at hx ?_ | with_reducible refine ofC.at ?_ | wp_step)
  · exact ⟨_, #[], _, (Heap.get?_update_ne _ _ _ _ neNew.symm).trans (Heap.get?_push_at rfl rfl), rfl, fun e he => absurd he (by simp), fun _ => rfl⟩
  · intro h' tk' hn' same
    have hx' : (hp.push { cls := .type "dict", data := .dict #[] }).get? x = some { cls := .ref C, data := .fields fv } := Heap.get?_push_of_some _ hx
    refine hq h' tk' hp.objs.size (fun b o hb ho => ?_) (Nat.le_refl _) neNew.symm ?_ hn'
    · exact (same.2 b (Nat.ne_of_lt (Heap.lt_size ho))).trans ((Heap.get?_update_ne _ _ _ _ hb).trans (Heap.get?_push_of_some _ ho))
    · exact (same.2 x neNew).trans (Heap.get?_update_self _ hx' rfl)
end

/-! ### the class's text -/
def errArgs (f : Str) (p1 p2 : Pos) : Arguments := { posonlyargs := [], args := [{ arg := "self", annotation := none, pos := p1 }, { arg := f, annotation := none, pos := p2 }], vararg := none, kwonlyargs := [], kw_defaults := [], kwarg := none, defaults := [] }
def errBody (f : Str) (q1 q2 q3 q4 : Pos) : List Stmt := [.Assign [.Attribute (.Name "self" q1) f q2] (.Name f q3) q4]
def errScope (f : Str) : Scope := { kind := .function, names := [(PySem.Str.ofString "self", .local), (f, .local)], isGenerator := false, isCoroutine := false, more := [] }
/-- what the written part says of the class x, at C, whose __init__, at fI, stores its one argument as f -/
structure ErrTxt (K : PySem.W.Frag) (mg : Str → Option Value) (x f : Str) (newId : String) (C fI : Addr) : Prop where
  gC : mg x = some (.ref C)
  cls : ∃ nm q N bs bm sn sub ab col dd k0 k1 k2 k3 k5, K.lookup C = some (PySem.excClassObj nm q C N bs bm true sn sub ab col dd k0 k1 k2 k3 k5 newId) ∧ Under newId bm
  sa : PySem.W.findIn K (.ref C) "__setattr__" = some (some (.builtin "object.__setattr__"))
  ga : PySem.W.findIn K (.ref C) "__getattribute__" = some (some (.builtin "BaseException.__getattribute__"))
  gg : PySem.W.findIn K (.ref C) "__getattr__" = some none
  noF : PySem.W.findIn K (.ref C) f = some none
  iC : PySem.W.findIn K (.ref C) "__init__" = some (some (.ref fI))
  tC : PySem.W.typeIn K (.ref fI) = some (.type "function")
  kC : PySem.W.keepIn K (.ref C) = true
  exC : PySem.W.subIn K (.ref C) (.type "BaseException") = some true
  tyC : PySem.W.typeIn K (.ref C) = some (.type "type")
  hdC : PySem.W.hasDictIn K C = true
  is : f = "given" ∨ f = "index"
  fn : ∃ (oc : Value) (od : Option Addr) (q : Str) (doc pm : Value) (an : Option Addr) (cdv ct : Value) (osl : Array (Option Value)) (p1 p2 q1 q2 q3 q4 : Pos),
    K.lookup fI = some ⟨oc, od, .func (PySem.W.fnOf "__init__" q (errArgs f p1 p2) (errBody f q1 q2 q3 q4) (errScope f) .none .none doc pm an cdv ct), osl⟩ ∧ PySem.W.codeIn K cdv q = true
/-- what __init__ leaves of a fresh error at x -/
structure Inited (f : Str) (h h' : Heap) (x C dx t1 : Addr) (v : Value) : Prop where
  keep : ∀ b o, b ≠ x → h.get? b = some o → h'.get? b = some o
  obj : h'.get? x = some { cls := .ref C, dict := some dx, data := .fields #[.ref t1, .none, .none, .none, .bool false, .none] }
  dbig : h.objs.size ≤ dx
  dne : dx ≠ x
  ns : h'.Ns1 dx (fun y => if y = f then some v else none)
/-- a made error -/
structure ErrMade (f : Str) (h h' : Heap) (e C d : Addr) (v : Value) : Prop where
  keep : ∀ b o, h.get? b = some o → h'.get? b = some o
  new : h.objs.size ≤ e
  obj : ∃ oe vs, h'.get? e = some oe ∧ oe.cls = .ref C ∧ oe.dict = some d ∧ oe.data = .fields vs ∧ vs[1]? = some .none
  dbig : h.objs.size ≤ d
  dne : d ≠ e
  ns : h'.Ns1 d (fun y => if y = f then some v else none)
theorem one_fits (v : Value) : [v].length ≤ sizeLine := by
  rw [sizeLine_eq]
  exact (by decide : 1 ≤ 16777216)
theorem ldLocal {M : Model} {s : Shared} {name : Str} {scope : Scope} {L a : Addr} {cd : Value} {m : Str → Option Value} {x : Str} {pos : Pos} {v : Value} {Q : Value → Shared → Prop} {A : Around} {E : Value → Shared → Prop} (hn : s.heap.Ns L m) (hv : m x = some v) (h : Q v s)
    (hk : scope.kind = .function) (hl : (envOfC name scope L a cd).kindOf x = some .local) (hd : (x == ("__debug__" : Str)) = false) :
    wpAny M A (eval (.Name x pos) (envOfC name scope L a cd)) Q E s := wpAny_Name (wpAny_loadName_local hk hl hn hv h) hd
section
variable {prog : Program} {w : World} {A : Around} {R : Result → Shared → Prop} {s : Shared} {K : PySem.W.Frag} {mg : Str → Option Value} {xn f : Str} {newId : String} {C fI : Addr}
open PySem.HandSPX in
theorem err_init (T : ErrTxt K mg xn f newId C fI) {x t0 : Addr} {v : Value} (X : K.In s.heap) (hlim : s.heap.NoLimit) (hx : s.heap.get? x = some (excO C t0)) (hroom : A.depth < recursionLimit)
    (hq : ∀ h' tk dx, Inited f s.heap h' x C dx t0 v → R (.ok (.ret .none)) { s with heap := h', toks := tk }) :
    codeAny (model prog w) A (.call (.ref fI) ⟨[.ref x, v], []⟩) R s := by
  obtain ⟨oc, od, qn, doc, pm, an, cdv, ct, osl, p1, p2, q1, q2, q3, q4, ho, hcd⟩ := T.fn
  obtain ⟨nm, q, N, bs, bm, sn, sub, ab, col, dd, k0, k1, k2, k3, k5, hC, hbm⟩ := T.cls
  have hcl : PySem.W.clsIn K C = some { name := nm, bases := bs, mro := .ref C :: bm, ns := N, qualname := q, hasDict := true, slotNames := sn, subclasses := sub, abstract := ab, collection := col, hasDel := false } := by unfold PySem.W.clsIn; rw [hC] <;> rfl
  have hsf : (("self" : Str) == f) = false := by rcases T.is with e | e <;> rw [e] <;> decide
  have hfs : (f == ("self" : Str)) = false := by rcases T.is with e | e <;> rw [e] <;> decide
  have hfd : (f == ("__debug__" : Str)) = false := by rcases T.is with e | e <;> rw [e] <;> decide
  have hbind : bindArgs (PySem.W.fnOf "__init__" qn (errArgs f p1 p2) (errBody f q1 q2 q3 q4) (errScope f) .none .none doc pm an cdv ct) ⟨[.ref x, v], []⟩ = pure [(("self" : Str), Value.ref x), (f, v)] := by
    rcases T.is with e | e <;> subst e <;> first | rfl | with_unfolding_all rfl
  have lf : bindL (envOfC qn (errScope f) s.heap.objs.size fI cdv).kindOf [(("self" : Str), Value.ref x), (f, v)] (fun _ => none) f = some v := by
    rcases T.is with e | e <;> subst e <;> first | rfl | with_unfolding_all rfl | kernel_rfl
  have ls : bindL (envOfC qn (errScope f) s.heap.objs.size fI cdv).kindOf [(("self" : Str), Value.ref x), (f, v)] (fun _ => none) ("self" : Str) = some (.ref x) := by
    rcases T.is with e | e <;> subst e <;> first | rfl | with_unfolding_all rfl | kernel_rfl
  have kf : ([(PySem.Str.ofString "self", NameKind.local), (f, NameKind.local)] : List (Str × NameKind)).lookup f = some .local := by
    have z : (f == PySem.Str.ofString "self") = false := hfs
    simp [List.lookup, z]
  refine Att.call_fn (binds := [(("self" : Str), Value.ref x), (f, v)]) X hlim ho hcd hroom (BindsTo.of_eq hbind) ?_ (fun s₁ IC => ?_) rfl rfl rfl
  · rcases T.is with e | e <;> subst e <;> first | rfl | decide | with_unfolding_all rfl
  obtain ⟨h₁, tk₁, rfl⟩ := IC.toInCall.same
  have k : ∀ b o, s.heap.get? b = some o → h₁.get? b = some o := IC.toInCall.keep
  have hn := IC.toInCall.ns
  have X₁ : K.In h₁ := X.keeps k
  have hx₁ := k _ _ hx
  show wpAny _ _ (execs _ _) _ _ _
  refine wpAny_execs_cons (plainObj_wpAny_Assign_Attribute ?_)
  refine ldLocal (v := v) hn lf (ldLocal (v := .ref x) hn ls ?_ rfl rfl (by decide)) rfl kf hfd
  refine PySem.W.set_plain X₁ (ox := excO C t0) (od := none) ⟨hx₁, rfl, rfl, trivial⟩ T.sa ?_
  refine first_field X₁ hx₁ hcl hbm T.noF (fun h₃ tk₃ dx k₃ dn dne hx₃ hn₃ => ?_)
  show wpAny _ _ (execs _ _) _ _ _
  have z : s.heap.objs.size < h₁.objs.size := hn.lt
  exact wpAny_execs_nil (hq h₃ tk₃ dx ⟨fun b o hb e => k₃ b o hb (k b o e), hx₃, Nat.le_of_lt (Nat.lt_of_lt_of_le z dn), dne, hn₃⟩)
open PySem.HandSPX in
theorem err_made (T : ErrTxt K mg xn f newId C fI) {v : Value} (X : K.In s.heap) (hlim : s.heap.NoLimit) (hroom : A.depth + 1 < recursionLimit)
    (hq : ∀ h' tk e d, ErrMade f s.heap h' e C d v → R (.ok (.ret (.ref e))) { s with heap := h', toks := tk }) :
    codeAny (model prog w) A (.call (.ref C) ⟨[v], []⟩) R s := by
  obtain ⟨nm, q, N, bs, bm, sn, sub, ab, col, dd, k0, k1, k2, k3, k5, hC, U⟩ := T.cls
  obtain ⟨B, initId, bmB, FB, hT⟩ := U.facts
  obtain ⟨hp, g, dr, tk, os⟩ := s
  have grow : ∀ b o, hp.get? b = some o → ((hp.push (PySem.W.kdv_tup [v])).push (excO C hp.objs.size)).get? b = some o := fun b o e => Heap.get?_push_of_some _ (Heap.get?_push_of_some _ e)
  have made : ((hp.push (PySem.W.kdv_tup [v])).push (excO C hp.objs.size)).get? (hp.objs.size + 1) = some (excO C hp.objs.size) := by heap_get
  refine call_own FB hT (X _ _ hC) (PySem.W.looks_findIn X T.iC) (fun self => PySem.W.bind_fn X self T.tC) (one_fits v) ?_
  refine err_init (s := ⟨(hp.push (PySem.W.kdv_tup [v])).push (excO C hp.objs.size), g, dr, tk, os⟩) T (X.keeps grow) (hlim.keeps grow) made ?_ fun h' tk' dx I => ?_
  · show A.depth + 1 < recursionLimit
    exact hroom
  · have old : ∀ b o, hp.get? b = some o → h'.get? b = some o := fun b o e => I.keep b o (Nat.ne_of_lt (Nat.lt_succ_of_lt (Heap.lt_size e))) (grow b o e)
    have big : hp.objs.size + 1 + 1 ≤ dx := by
      first
        | exact I.dbig
        | (have q := I.dbig; rw [Heap.size_push, Heap.size_push] at q; exact q)
    exact ⟨rfl, hq h' tk' (hp.objs.size + 1) dx ⟨old, Nat.le_succ _, ⟨_, _, I.obj, rfl, rfl, rfl, rfl⟩, Nat.le_trans (Nat.le_trans (Nat.le_succ _) (Nat.le_succ _)) big, I.dne, I.ns⟩⟩
end
theorem relO_one {v : V} {v' : Value} (r : RelV v v') (f g : Str) : RelO (List.lookup g [(f, v)]) (if g = f then some v' else none) := by
  by_cases h : g = f
  · subst h
    have q : List.lookup g [(g, v)] = some v := by simp [List.lookup]
    rw [if_pos rfl, q]
    exact r
  · have h' : (g == f) = false := by simpa using h
    have q : List.lookup g [(f, v)] = none := by simp [List.lookup, h']
    rw [if_neg h, q]
    trivial
section
variable {X : Cx} {W : WX} {x f : Str} {newId : String} {C fI : Addr} {a : Expr} {wa : WA} {p pos pos2 : Pos} {k : Nat}
/-- x(a), made -/
def tMkErr (f : Str) (C : Addr) (ta : TA) : L2.St → Hp → XK → Prop := fun σ H Q => ta σ H fun vs H1 => ∃ v, vs = [v] ∧ ∀ d, H1 d = none → Q (.ref C) (some d) (upd H1 d (.xd [(f, v)]))
theorem pmk_err {ta : TA} (T : ErrTxt X.K X.mg x f newId C fI) (hr : Room k X.A) (ha : PA X [a] ta) (hg : Gl X x) (hdb : (x == ("__debug__" : Str)) = false := by decide)
    (he : starEach (a :: []) X.env = (false, eval a X.env) :: starEach [] X.env := by rfl) (hpl : (backTo pos (starEach [] X.env)).any (·.1) = false := by rfl) :
    PMk X (.Call (.Name x p) [a] [] pos) (tMkErr f C ta) := by
  intro pins s σ H Q I h
  refine wpAny_Call_Name_kw (ld_glob I hg T.gC ?_ hdb)
  refine PySem.W.callWith_K (h₀ := X.base) I.ok.mod.kin T.kC (thn (ha.run pos pins s σ H _ I h) fun us s1 hh => ?_) he hpl
  obtain ⟨vs, H1, I1, r1, v, ev, q1⟩ := hh
  subst ev
  refine ⟨I1.kIn, ?_⟩
  cases r1 with
  | cons rv rn =>
    rename_i v' us'
    cases rn
    show wpAny _ _ (call (.ref C) [v']) _ _ _
    have lim := I1.nolimit
    have dp := hr.dp
    obtain ⟨hp, g, dr, tk, os⟩ := s1
    refine wpAny_call (err_made T I1.kIn lim (by omega) fun h' tk' e d M => ?_)
    show MkP X pins σ Q (.ref e) ⟨h', g, dr, tk', os⟩
    obtain ⟨oe, fv, hoe, hc, hd, hdat, h1⟩ := M.obj
    have fieldsAt := M.ns
    obtain ⟨G, g1, g2⟩ := restrict h' fun b => decide (b ≠ e)
    have same : ∀ b, b ≠ e → G.get? b = h'.get? b := fun b hb => g1 b (decide_eq_true hb)
    have gone : G.get? e = none := g2 e (by simp)
    have old : ∀ b o, hp.get? b = some o → G.get? b = some o := fun b o q => (same b (Nat.ne_of_lt (Nat.lt_of_lt_of_le (Heap.lt_size q) M.new))).trans (M.keep b o q)
    have dictOk : ObjOk X.prog X.w (upd H1 d (.xd [(f, v)])) G d (.xd [(f, v)]) := ⟨_, fieldsAt.at (fun o q => (same d M.dne).trans q), fun y => relO_one rv f y⟩
    have J : Inv X pins σ (upd H1 d (.xd [(f, v)])) ⟨G, g, dr, tk', os⟩ := I1.laid (t' := tk') old M.dbig dictOk
    refine ⟨e, oe, fv, ⟨G, g, dr, tk', os⟩, _, .ref C, some d, rfl, J, fun b o q => ?_, gone, hoe, ⟨hc, hd⟩, hdat, h1, ?_, rfl, I1.bare, raises_own T.exC T.tyC, q1 d (I1.hok.fresh M.dbig)⟩
    · have ne : b ≠ e := fun z => by
        rw [z] at q
        have q' : G.get? e = some o := q
        rw [gone] at q'
        cases q'
      exact (same b ne).symm.trans q
    · rw [upd_ne (Ne.symm M.dne)]
      exact I1.hok.fresh M.new
/-- raise x(a) -/
def wRaise (C : Addr) (f : Str) (wa : WA) : WS := fun R _ δ μ => wa R δ μ fun ds μ1 => match ds with
  | [d] => R δ C [(f, d)] μ1
  | _ => False
theorem qs_raise (hc : X.calm = true) (T : ErrTxt X.K X.mg x f newId C fI) (hr : Room k X.A) (tk : Takes X W) (ha : QA X W [a] wa) (hg : Gl X x) (hdb : (x == ("__debug__" : Str)) = false := by decide)
    (he : starEach (a :: []) X.env = (false, eval a X.env) :: starEach [] X.env := by rfl) (hpl : (backTo pos (starEach [] X.env)).any (·.1) = false := by rfl) :
    QS X W (.Raise (some (.Call (.Name x p) [a] [] pos)) none pos2) (wRaise C f wa) := by
  obtain ⟨t, h1, h2⟩ := ha
  refine ⟨_, ps_raise hc tk (pmk_err T hr h1 hg hdb he hpl), fun R ι μ δ σ H E D c h l => h2 R ι μ δ σ H _ _ c h fun vs ds ι1 μ1 H1 s1 r1 i1 q1 => ?_⟩
  match ds, i1, q1 with
  | [d], i1, q1 =>
    obtain ⟨v, r, ev, iv, er⟩ := i1
    have er' : r = [] := er
    subst er'
    refine ⟨v, ev, fun dx hdx => ?_⟩
    have sn : Stp ι1 H1 ι1 (upd H1 dx (.xd [(f, v)])) := Stp.new hdx
    exact c.xl ι1 μ1 δ σ _ C [(f, d)] (some dx) (s1.trans sn) (r1.new hdx) (c.env.stp (s1.trans sn)) ⟨[(f, v)], upd_same, rfl, ⟨v, [], rfl, Is.stp sn _ _ iv, rfl⟩⟩ q1
  | [], _, q1 => exact q1.elim
  | _ :: _ :: _, _, q1 => exact q1.elim
end

/-! ### try: body, except x as n: suite; except x: suite -/
/-- a caught error as a datum: at a, of the class at C, its dict d -/
def excD (a C : Addr) (d : Option Addr) (fs : List (Str × D)) : D := match d with
  | some dx => .exc a C dx (fs.map (·.1)) (fs.map (·.2))
  | none => .adr a
theorem zip_fst_snd {α β : Type} : ∀ l : List (α × β), (l.map (·.1)).zip (l.map (·.2)) = l
  | [] => rfl
  | (a, b) :: r => by
    show (a, b) :: (r.map (·.1)).zip (r.map (·.2)) = _
    rw [zip_fst_snd r]
theorem is_excD {K : PySem.W.Frag} {ι : List Addr} {H : Hp} {fs : List (Str × D)} {d : Option Addr} (a C : Addr) (h : DxIs K ι H fs d) : Is K ι H (excD a C d fs) (.ref a) := by
  cases d with
  | none => exact (rfl : V.ref a = V.ref a)
  | some dx =>
    obtain ⟨gs, e, q, r⟩ := h
    refine ⟨rfl, gs.map (·.2), ?_, ?_, r⟩
    · show H dx = some (.xd ((fs.map (·.1)).zip (gs.map (·.2))))
      rw [← q, zip_fst_snd]
      exact e
    · show (gs.map (·.2)).length = (fs.map (·.1)).length
      rw [← q, List.length_map, List.length_map]
def WN : WX := fun _ _ _ _ => False
def RN : XD := fun _ _ _ _ => False
theorem xlN {K : PySem.W.Frag} {ι : List Addr} {H : Hp} : XL K WN ι H RN := fun _ _ _ _ _ _ _ _ _ _ _ _ h => h
def wTryAs (K : PySem.W.Frag) (c : Value) (i : Nat) (wb : WS) (wsu : Addr → Value → Option Addr → WS) : WS := fun R E δ μ =>
  wb (fun δ' C fs μ' => ∃ b, PySem.W.exmOne K (.ref C) c = some b ∧ (b = true → ∀ a d, (d = none → fs = []) → wsu a (.ref C) d RN { nx := fun δ2 μ2 => E.nx (put δ2 i none) μ2, rt := E.rt, bk := fun δ2 μ2 => E.bk (put δ2 i none) μ2, ct := fun δ2 μ2 => E.ct (put δ2 i none) μ2 } (put δ' i (some (excD a C d fs))) μ') ∧ (b = false → R δ' C fs μ')) E δ μ
def wTryOnly (K : PySem.W.Frag) (c : Value) (wb : WS) (wsu : Addr → Value → Option Addr → WS) : WS := fun R E δ μ =>
  wb (fun δ' C fs μ' => ∃ b, PySem.W.exmOne K (.ref C) c = some b ∧ (b = true → ∀ a d, (d = none → fs = []) → wsu a (.ref C) d RN E δ' μ') ∧ (b = false → R δ' C fs μ')) E δ μ
section
variable {X : Cx} {W : WX} {x n : Str} {c : Value} {i : Nat} {body suite : List Stmt} {b₀ : Stmt} {np pos pos' : Pos} {wb : WS} {wsu : Addr → Value → Option Addr → WS}
theorem dxNone {K : PySem.W.Frag} {ι : List Addr} {H : Hp} {fs : List (Str × D)} {d : Option Addr} (h : DxIs K ι H fs d) : d = none → fs = [] := fun e => by
  subst e
  exact h
theorem qs_tryAs (hs : X.stack = X.env :: X.outer) (hf : X.env.frame = some X.env.locals) (hN : X.N.Nodup) (hi : X.N[i]? = some n) (hln : X.env.kindOf n = some .local) (hc : Names X x c) (tk : Takes X W)
    (hb : ∀ (W' : WX) (pn : List (Addr × Obj)) (xe : Value → Shared → Prop), Takes (X.tr pn xe) W' → PassesOwn (model X.prog X.w) X.A X.env xe → QSs (X.tr pn xe) W' body wb)
    (hsu : ∀ (a : Addr) (oe : Obj) (cls : Value) (d : Option Addr) (pn : List (Addr × Obj)), Zc cls d oe → (∃ vs, oe.data = .fields vs) → QSs (X.suite a ((a, oe) :: pn)) WN (b₀ :: suite) (wsu a cls d)) :
    QS X W (.Try body [.ExceptHandler (some (.Name x np)) (some n) (b₀ :: suite) pos'] [] [] pos) (wTryAs X.K c i wb wsu) := by
  refine ⟨_, ps_try_as (i := i)
    (tb := fun W' D σ H => ∀ (pn : List (Addr × Obj)) (xe : Value → Shared → Prop), Takes (X.tr pn xe) W' → PassesOwn (model X.prog X.w) X.A X.env xe → ∃ t, PSs (X.tr pn xe) body t ∧ t D σ H)
    (ts := fun a cls d D σ H => ∀ (oe : Obj) (pn : List (Addr × Obj)), Zc cls d oe → (∃ vs, oe.data = .fields vs) → ∃ t, PSs (X.suite a ((a, oe) :: pn)) (b₀ :: suite) t ∧ t D σ H)
    hs hf hN hi hln hc tk (fun W' pn xe tk' po => ⟨fun pins s σ H D I h => ?_⟩) (fun a oe cls d pn hz hd => ⟨fun pins s σ H D I h => ?_⟩), fun R ι μ δ σ H E D c1 h l => ?_⟩
  · obtain ⟨t, h1, h2⟩ := h pn xe tk' po
    exact h1.run pins s σ H D I h2
  · obtain ⟨t, h1, h2⟩ := h oe pn hz hd
    exact h1.run pins s σ H D I h2
  · intro pn xe tk' po
    obtain ⟨t, h1, h2⟩ := hb _ pn xe tk' po
    refine ⟨t, h1, h2 _ ι μ δ σ H E D ⟨c1.rel, c1.env, ?_⟩ h l⟩
    intro ι' μ' δ' σ' H' C fs d s' r' e' hd' q'
    obtain ⟨b, hb1, hyes, hno⟩ := q'
    refine ⟨b, hb1, fun hb2 a _ oe pn' hz hdat => ?_, fun hb2 => c1.xl ι' μ' δ' σ' H' C fs d s' r' e' hd' (hno hb2)⟩
    obtain ⟨t', g1, g2⟩ := hsu a oe (.ref C) d pn' hz hdat
    refine ⟨t', g1, g2 RN ι' μ' _ _ H' _ _ ⟨r', e'.put (is_excD a C hd'), xlN⟩ (hyes hb2 a d (dxNone hd')) ?_⟩
    exact ⟨fun ι2 μ2 H2 δ2 σ2 s2 r2 e2 z => l.nx ι2 μ2 H2 _ _ (s'.trans s2) r2 (e2.drop none) z, fun v y ι2 μ2 H2 s2 r2 i2 z => l.rt v y ι2 μ2 H2 (s'.trans s2) r2 i2 z,
      fun ι2 μ2 H2 δ2 σ2 s2 r2 e2 z => l.bk ι2 μ2 H2 _ _ (s'.trans s2) r2 (e2.drop none) z, fun ι2 μ2 H2 δ2 σ2 s2 r2 e2 z => l.ct ι2 μ2 H2 _ _ (s'.trans s2) r2 (e2.drop none) z⟩
theorem qs_tryOnly (hs : X.stack = X.env :: X.outer) (hf : X.env.frame = some X.env.locals) (hc : Names X x c) (tk : Takes X W)
    (hb : ∀ (W' : WX) (pn : List (Addr × Obj)) (xe : Value → Shared → Prop), Takes (X.tr pn xe) W' → PassesOwn (model X.prog X.w) X.A X.env xe → QSs (X.tr pn xe) W' body wb)
    (hsu : ∀ (a : Addr) (oe : Obj) (cls : Value) (d : Option Addr) (pn : List (Addr × Obj)), Zc cls d oe → (∃ vs, oe.data = .fields vs) → QSs (X.suite a ((a, oe) :: pn)) WN (b₀ :: suite) (wsu a cls d)) :
    QS X W (.Try body [.ExceptHandler (some (.Name x np)) none (b₀ :: suite) pos'] [] [] pos) (wTryOnly X.K c wb wsu) := by
  refine ⟨_, ps_try_only
    (tb := fun W' D σ H => ∀ (pn : List (Addr × Obj)) (xe : Value → Shared → Prop), Takes (X.tr pn xe) W' → PassesOwn (model X.prog X.w) X.A X.env xe → ∃ t, PSs (X.tr pn xe) body t ∧ t D σ H)
    (ts := fun a cls d D σ H => ∀ (oe : Obj) (pn : List (Addr × Obj)), Zc cls d oe → (∃ vs, oe.data = .fields vs) → ∃ t, PSs (X.suite a ((a, oe) :: pn)) (b₀ :: suite) t ∧ t D σ H)
    hs hf hc tk (fun W' pn xe tk' po => ⟨fun pins s σ H D I h => ?_⟩) (fun a oe cls d pn hz hd => ⟨fun pins s σ H D I h => ?_⟩), fun R ι μ δ σ H E D c1 h l => ?_⟩
  · obtain ⟨t, h1, h2⟩ := h pn xe tk' po
    exact h1.run pins s σ H D I h2
  · obtain ⟨t, h1, h2⟩ := h oe pn hz hd
    exact h1.run pins s σ H D I h2
  · intro pn xe tk' po
    obtain ⟨t, h1, h2⟩ := hb _ pn xe tk' po
    refine ⟨t, h1, h2 _ ι μ δ σ H E D ⟨c1.rel, c1.env, ?_⟩ h l⟩
    intro ι' μ' δ' σ' H' C fs d s' r' e' hd' q'
    obtain ⟨b, hb1, hyes, hno⟩ := q'
    refine ⟨b, hb1, fun hb2 a _ oe pn' hz hdat => ?_, fun hb2 => c1.xl ι' μ' δ' σ' H' C fs d s' r' e' hd' (hno hb2)⟩
    obtain ⟨t', g1, g2⟩ := hsu a oe (.ref C) d pn' hz hdat
    exact ⟨t', g1, g2 RN ι' μ' _ _ H' _ _ ⟨r', e', xlN⟩ (hyes hb2 a d (dxNone hd')) (l.stp s')⟩
/-- err.f in an except suite -/
def tExcF (f : Str) (C a : Addr) (cls : Value) (d : Option Addr) (te : TE) : TE := fun σ H Q => te σ H fun y H1 => y = .ref a ∧ cls = .ref C ∧ ∃ (dx : Addr) (v : V), d = some dx ∧ H1 dx = some (.xd [(f, v)]) ∧ Q v H1
theorem pe_excF {f newId : Str} {nid : String} {C fI a : Addr} {oe : Obj} {cls : Value} {d : Option Addr} {pn : List (Addr × Obj)} {e : Expr} {te : TE} {ep : Pos} (T : ErrTxt X.K X.mg x f nid C fI) (hz : Zc cls d oe) (hf : ∃ vs, oe.data = .fields vs) (he : PE (X.suite a ((a, oe) :: pn)) e te)
    (hb : attributeBase e f X.env (eval e X.env) = eval e X.env) : PE (X.suite a ((a, oe) :: pn)) (.Attribute e f ep) (tExcF f C a cls d te) := by
  refine ⟨fun pins s σ H Q I h => ?_⟩
  refine attr_of hb (thn (he.run pins s σ H _ I h) fun u s1 hh => ?_)
  obtain ⟨y, H1, I1, ry, ey, ec, dx, v, ed, ea, q⟩ := hh
  subst ey ec ed
  obtain rfl : u = Value.ref a := ry
  obtain ⟨ha, _⟩ := I1.pin (a, oe) (List.mem_append_left _ List.mem_cons_self)
  obtain ⟨vs, hdat⟩ := hf
  have kept : ObjOk X.prog X.w H1 s1.heap dx (.xd [(f, v)]) := I1.hok dx _ ea
  obtain ⟨mA, hns, hrel⟩ := kept
  obtain ⟨od, ho, hl⟩ := lookIn_ns hns
  have lk : List.lookup f [(f, v)] = some v := by simp [List.lookup]
  obtain ⟨u', hu, ru⟩ := RelO.some_of (v := v) (o := mA f) (by rw [← lk]; exact hrel f)
  have J : PySem.W.InstAt s1.heap a oe C (some od) := ⟨ha, hz.1, by unfold PySem.W.notCls; rw [hdat] <;> rfl, by rw [hz.2]; exact ho⟩
  exact HandSPX.exc_get I1.kIn J T.ga T.gg T.exC (PySem.W.findObj_own T.hdC T.noF rfl (by rw [hl, hu])) (handed_of ru) ⟨v, H1, I1.tok _, ru, q⟩
def wExcF (f : Str) (C a : Addr) (cls : Value) (d : Option Addr) (we : WE) : WE := fun R δ μ P => we R δ μ fun y μ1 => match y with
  | .exc a' C' dx ns ds => a' = a ∧ C' = C ∧ cls = .ref C ∧ d = some dx ∧ ns = [f] ∧ (match ds with
    | [z] => P z μ1
    | _ => False)
  | _ => False
theorem q_excF {f : Str} {nid : String} {C fI a : Addr} {oe : Obj} {cls : Value} {d : Option Addr} {pn : List (Addr × Obj)} {e : Expr} {we : WE} {ep : Pos} {W' : WX} (T : ErrTxt X.K X.mg x f nid C fI) (hz : Zc cls d oe) (hf : ∃ vs, oe.data = .fields vs) (he : QE (X.suite a ((a, oe) :: pn)) W' e we)
    (hb : attributeBase e f X.env (eval e X.env) = eval e X.env := by rfl) : QE (X.suite a ((a, oe) :: pn)) W' (.Attribute e f ep) (wExcF f C a cls d we) := by
  obtain ⟨t, h1, h2⟩ := he
  refine ⟨_, pe_excF (newId := f) T hz hf h1 hb, fun R ι μ δ σ H P Q c h k => h2 R ι μ δ σ H _ _ c h fun v y ι1 μ1 H1 s1 r1 i1 q1 => ?_⟩
  cases y with
  | exc a' C' dx ns ds =>
    obtain ⟨e1, e2, e3, e4, e5, q⟩ := q1
    obtain ⟨ev, vs, hx, hl, hall⟩ := i1
    subst e1 e2 e3 e4 e5 ev
    match ds, hall, q with
    | [z], hall, q =>
      obtain ⟨v, r, ev, iv, er⟩ := hall
      have er' : r = [] := er
      subst er' ev
      exact ⟨rfl, rfl, dx, v, rfl, hx, k v z ι1 μ1 H1 s1 r1 iv q⟩
    | [], _, q => exact q.elim
    | _ :: _ :: _, _, q => exact q.elim
  | _ => exact q1.elim
end
end HD
/-! HD8: a lambda handed to a def that calls it. -/
namespace HD
open PySem PySem.Spec PyProof.Rows L2

/-! ### the maker's slots, kept in the datum -/
def ksOf (δ : En) : List Bool := δ.map Option.isSome
def dsOf (δ : En) : List D := δ.map fun o => o.getD .non
def slotsOf : List Bool → List D → En
  | true :: ks, d :: ds => some d :: slotsOf ks ds
  | false :: ks, _ :: ds => none :: slotsOf ks ds
  | _, _ => []
theorem slotsOf_of : ∀ δ : En, slotsOf (ksOf δ) (dsOf δ) = δ
  | [] => rfl
  | some d :: r => by
    show some d :: slotsOf (ksOf r) (dsOf r) = _
    rw [slotsOf_of r]
  | none :: r => by
    show none :: slotsOf (ksOf r) (dsOf r) = _
    rw [slotsOf_of r]
section
variable {K : PySem.W.Frag} {ι : List Addr} {H : Hp}
theorem kept_slots : ∀ (δ : En) (σ : L2.St), δ.length = σ.length → (∀ (i : Nat) (d : D), slot δ i = some d → ∃ v, σ[i]? = some (some v) ∧ Is K ι H d v) → ∃ vs, IsAll K ι H (dsOf δ) vs ∧ ∀ (i : Nat) (u : V), (ksOf δ)[i]? = some true → vs[i]? = some u → σ[i]? = some (some u)
  | [], _, _, _ => ⟨[], rfl, fun i u h _ => by simp [ksOf] at h⟩
  | o :: r, [], l, _ => by simp at l
  | o :: r, w :: σ, l, h => by
    obtain ⟨vs, a, b⟩ := kept_slots r σ (by simpa using l) (fun i d e => by simpa using h (i + 1) d e)
    cases o with
    | none =>
      refine ⟨.non :: vs, ⟨.non, vs, rfl, rfl, a⟩, fun i u hk hv => ?_⟩
      cases i with
      | zero => simp [ksOf] at hk
      | succ i => simpa using b i u (by simpa [ksOf] using hk) (by simpa using hv)
    | some d =>
      obtain ⟨v, e, q⟩ := h 0 d rfl
      refine ⟨v :: vs, ⟨v, vs, rfl, q, a⟩, fun i u hk hv => ?_⟩
      cases i with
      | zero =>
        have e2 : v = u := by simpa using hv
        rw [← e2]
        exact e
      | succ i => simpa using b i u (by simpa [ksOf] using hk) (by simpa using hv)
theorem is_lam {f c : Addr} {q : Str} {δ : En} {σ : L2.St} (e : EnvIs K ι H δ σ) (hc : H c = some (LamX.CodeO c q)) : Is K ι H (.lam f c q σ (ksOf δ) (dsOf δ)) (.ref f) := by
  obtain ⟨vs, a, b⟩ := kept_slots δ σ e.len e.at_
  exact ⟨rfl, hc, by rw [ksOf, List.length_map]; exact e.len, by rw [dsOf, List.length_map]; exact e.len, vs, a, b⟩
theorem slots_back : ∀ (ks : List Bool) (ds : List D) (vs : List V) (σ : L2.St), ks.length = σ.length → ds.length = σ.length → IsAll K ι H ds vs → (∀ (i : Nat) (u : V), ks[i]? = some true → vs[i]? = some u → σ[i]? = some (some u)) →
    (slotsOf ks ds).length = σ.length ∧ ∀ (i : Nat) (d : D), slot (slotsOf ks ds) i = some d → ∃ v, σ[i]? = some (some v) ∧ Is K ι H d v
  | [], [], _, [], _, _, _, _ => ⟨rfl, fun i d h => by cases h⟩
  | [], _ :: _, _, [], _, l, _, _ => by simp at l
  | [], _, _, _ :: _, l, _, _, _ => by simp at l
  | _ :: _, _, _, [], l, _, _, _ => by simp at l
  | _ :: _, [], _, _ :: _, _, l, _, _ => by simp at l
  | k :: ks, d :: ds, vs, w :: σ, l1, l2, h, g => by
    obtain ⟨v, r, e, iv, ir⟩ := h
    subst e
    obtain ⟨a, b⟩ := slots_back ks ds r σ (by simpa using l1) (by simpa using l2) ir (fun i u hk hv => by simpa using g (i + 1) u (by simpa using hk) (by simpa using hv))
    cases k with
    | true =>
      refine ⟨by show (slotsOf ks ds).length + 1 = σ.length + 1; rw [a], fun i z hz => ?_⟩
      cases i with
      | zero =>
        have e : d = z := Option.some.inj hz
        subst e
        exact ⟨v, by simpa using g 0 v rfl rfl, iv⟩
      | succ i => simpa using b i z hz
    | false =>
      refine ⟨by show (slotsOf ks ds).length + 1 = σ.length + 1; rw [a], fun i z hz => ?_⟩
      cases i with
      | zero => cases hz
      | succ i => simpa using b i z hz
theorem env_back {f c : Addr} {q : Str} {σ : L2.St} {ks : List Bool} {ds : List D} {v : V} (h : Is K ι H (.lam f c q σ ks ds) v) : EnvIs K ι H (slotsOf ks ds) σ := by
  obtain ⟨_, _, l1, l2, vs, a, b⟩ := h
  obtain ⟨x, y⟩ := slots_back ks ds vs σ l1 l2 a b
  exact ⟨x, y⟩
/-! ### the step that makes a lambda -/
def tabsOf (μ : Sto) : List (Addr × Str) := μ.filterMap fun o => match o with
  | .tab p q => some (p, q)
  | _ => none
theorem cell_mem : ∀ {μ : Sto} {k : Nat} {o : O}, cell μ k = some o → o ∈ μ
  | [], _, _, h => by cases h
  | _ :: _, 0, _, h => by
    rw [Option.some.inj h]
    exact List.mem_cons_self
  | _ :: r, k + 1, _, h => List.mem_cons_of_mem _ (cell_mem (μ := r) h)
theorem mem_cell : ∀ {μ : Sto} {o : O}, o ∈ μ → ∃ k, cell μ k = some o
  | [], _, h => by cases h
  | a :: r, o, h => by
    rcases List.mem_cons.mp h with e | e
    · exact ⟨0, by rw [e] <;> rfl⟩
    · obtain ⟨k, q⟩ := mem_cell e
      exact ⟨k + 1, q⟩
theorem mem_tabs {μ : Sto} {p : Addr × Str} : p ∈ tabsOf μ ↔ ∃ k, cell μ k = some (.tab p.1 p.2) := by
  unfold tabsOf
  rw [List.mem_filterMap]
  constructor
  · rintro ⟨o, hm, he⟩
    cases o with
    | lst xs => cases he
    | ins C fs => cases he
    | dct kvs => cases he
    | tab a q =>
      have e : (a, q) = p := Option.some.inj he
      subst e
      exact mem_cell hm
  · rintro ⟨k, hk⟩
    exact ⟨_, cell_mem hk, rfl⟩
theorem tabs_at {μ : Sto} (r : Rel K ι μ H) : LamX.Tabs (tabsOf μ) H := fun p hp => by
  obtain ⟨k, hk⟩ := mem_tabs.mp hp
  obtain ⟨a, _, e, t⟩ := r.at_ k _ hk
  exact t
theorem tabs_one {μ : Sto} (r : Rel K ι μ H) {P : Addr} {q : Str} (h : (P, q) ∈ tabsOf μ) : ∀ p ∈ tabsOf μ, p.1 = P → p.2 = q := fun p hp e => by
  obtain ⟨k, hk⟩ := mem_tabs.mp hp
  obtain ⟨j, hj⟩ := mem_tabs.mp h
  obtain ⟨a, ha, ea, _⟩ := r.at_ k _ hk
  obtain ⟨b, hb, eb, _⟩ := r.at_ j _ hj
  have ek : k = j := r.inj k j P (by rw [ha, ea, e]) (by rw [hb, eb])
  subst ek
  rw [hk] at hj
  have z := Option.some.inj hj
  injection z
theorem stp_ext {H1 : Hp} (e : LamX.ExtN H H1) : Stp ι H ι H1 :=
  ⟨fun _ _ h => h, fun b xs h => e b _ h (fun ps z => by cases z), fun b o u h => e b _ h (fun ps z => by cases z), fun b gs h => e b _ h (fun ps z => by cases z), fun b z h => e b _ h (fun ps z => by cases z)⟩
theorem rel_ext {μ : Sto} {H1 : Hp} (r : Rel K ι μ H) (e : LamX.ExtN H H1) (t : LamX.Tabs (tabsOf μ) H1) : Rel K ι μ H1 :=
  ⟨r.len, r.inj, fun k o h => by
    obtain ⟨a, ha, q⟩ := r.at_ k o h
    refine ⟨a, ha, ?_⟩
    cases o with
    | lst ds =>
      obtain ⟨xs, e1, i⟩ := q
      exact ⟨xs, e a _ e1 (fun ps z => by cases z), IsAll.stp (stp_ext e) _ _ i⟩
    | tab p q' =>
      obtain ⟨e1, _⟩ := q
      exact ⟨e1, t (p, q') (mem_tabs.mpr ⟨k, h⟩)⟩
    | ins C fs =>
      obtain ⟨dx, vs, e1, i⟩ := q
      exact ⟨dx, vs, e a _ e1 (fun ps z => by cases z), IsAll.stp (stp_ext e) _ _ i⟩
    | dct kvs =>
      obtain ⟨vs, e1, i⟩ := q
      exact ⟨vs, e a _ e1 (fun ps z => by cases z), IsAll.stp (stp_ext e) _ _ i⟩⟩
end

/-! ### the lambda, called -/
section
variable {X : Cx} {pins : List (Addr × Obj)} {σ : L2.St} {H : Hp} {s : Shared}
/-- a(), in the def that got the lambda: that def's context, entered at s -/
theorem pe_actG {Eg : XK} {Ng : List Str} {qg : Str} {sg : Scope} {g f c' : Addr} {cdg pm ctv : Value} {params : Arguments} {body : Expr} {scope : Scope} {k : Nat} {a : Str} {pn : List (Addr × Obj)} {xe : Value → Shared → Prop} {W : WX} {p1 p2 : Pos}
    (I : Inv X pins σ H s) (L : LamX.LamS X.env.scope scope) (hf : s.heap.get? f = some (PySem.W.kla_obj "<lambda>" (X.env.qual ++ "<lambda>") params body scope (cloFrom X.env.cells scope.names []) pm c' ctv)) (hfn : H f = none) (hfr : f ∉ frs X.stack)
    (hbind : bindArgs (PySem.W.kla_fn "<lambda>" (X.env.qual ++ "<lambda>") params body scope (cloFrom X.env.cells scope.names []) pm (.ref c') ctv) ⟨[], []⟩ = pure [])
    (tk : Takes ((cxOf (L2.CX X.prog X.w) X.prog X.w X.K X.mg X.base Ng qg sg g cdg X.A X.stack s H Eg).tr pn xe) W) (hr : Room (k + 1) (X.A.deeper (envOfC qg sg s.heap.objs.size g cdg)))
    (hN : Ng[0]? = some a) (hv : Vis sg a) (hd : (a == ("__debug__" : Str)) = false) (hcd : (a == ("__classdict__" : Str)) = false) :
    PE ((cxOf (L2.CX X.prog X.w) X.prog X.w X.K X.mg X.base Ng qg sg g cdg X.A X.stack s H Eg).tr pn xe) (.Call (.Name a p1) [] [] p2)
      (fun σZ HZ Q => σZ[0]? = some (some (.ref f)) ∧ HZ c' = some (LamX.CodeO c' (X.env.qual ++ "<lambda>")) ∧
        ∀ s1 : Shared, Room k ((X.A.deeper (envOfC qg sg s.heap.objs.size g cdg)).deeper (LamX.lamEnv X scope s1.heap.objs.size f c')) →
          ∃ t, PE (LamX.lamCx X (X.A.deeper (envOfC qg sg s.heap.objs.size g cdg)) (envOfC qg sg s.heap.objs.size g cdg :: X.stack) s1 HZ (L2.WE W σZ) scope f c') body t ∧ t σ HZ Q) := by
  refine ⟨fun pinsZ sZ σZ HZ Q IZ h => ?_⟩
  obtain ⟨atSlot, atCode, inside⟩ := h
  refine wpAny_Call_Name_kw (thn ((pe_var (pos := p1) (i := 0) hN hv hd hcd).run pinsZ sZ σZ HZ (fun v H1 => v = .ref f ∧ H1 = HZ) IZ ⟨.ref f, atSlot, rfl, rfl⟩) fun u s1 ⟨v, H1, I1, r1, q1⟩ => ?_)
  obtain ⟨ev, eH⟩ := q1
  subst ev
  rw [eH] at I1
  obtain rfl : u = Value.ref f := r1
  have stays := I1.base.keep f _ hf hfn hfr (fun z => nomatch (show f ∈ ([] : List Addr) from z))
  refine PySem.W.callWith_F0 ⟨_, _, _, _, stays⟩ ?_
  have un : Un (frs X.stack) [] H HZ s.heap s1.heap := I1.base
  obtain ⟨⟨oc, us, t, hoc, hdc, hvc⟩, _, _⟩ := I1.hok c' _ atCode
  have go : codeAny (model X.prog X.w) (X.A.deeper (envOfC qg sg s.heap.objs.size g cdg)) (.call (.ref f) ⟨[], []⟩)
      (CR (L2.CX X.prog X.w) (envOfC qg sg s.heap.objs.size g cdg :: X.stack) X.prog X.w HZ s1 Q (L2.WE W σZ)) s1 := by
    refine PySem.W.kla_callFunE hr.depth stays rfl L.co L.gen rfl ⟨c', oc, us, t, rfl, hoc, hdc, hvc⟩ ?_
    rw [hbind]
    refine wpAny_pure (wpAny_newFunctionEnv (fun y hy => (L.own y hy).2) (fun y hy => absurd hy (by simp)) (fun h₁ hns hsb => ⟨I1.nolimit.fresh _ hsb, ?_⟩) L.kind)
    have kp : ∀ b o, s1.heap.get? b = some o → h₁.get? b = some o := fun b o e => hsb.extBut b o (Nat.ne_of_lt (Heap.lt_size e)) (Heap.get?_push_of_some _ e)
    have J := LamX.lam_start2 (E := L2.WE W σZ) (f := f) (c' := c') (tk := s1.toks + ([] : List (Str × Value)).length) I L I1.env0 hr.hd un hns kp
    obtain ⟨t', ht', hq'⟩ := inside s1 (hr.deeper _)
    show codeAny _ _ (.expr body (LamX.lamEnv X scope s1.heap.objs.size f c')) _ _
    refine PySem.W.kla_codeExpr (wpAny_mono (ht'.run [] _ _ HZ Q J hq') (fun v s' hq => ?_) fun e s' hq => hq)
    obtain ⟨w', H', J', rv, q⟩ := hq
    exact ⟨w', H', J'.os, J'.bare, J'.base, J'.hok, rv, q⟩
  refine wpAny_call (codeAny_mono go fun r s' hq => ?_)
  match r, hq with
  | .error e, hq => exact (passAt tk σZ) pinsZ HZ s1 e s' I1 hq
  | .ok (.ret u), hq => exact I1.after hq
  | .ok .next, hq => exact False.elim hq
  | .ok .brk, hq => exact False.elim hq
  | .ok .cont, hq => exact False.elim hq
end
def wAct (f c : Addr) (q : Str) (σ : L2.St) (we : WE) : WE := fun R δ μ P => match slot δ 0 with
  | some (.lam f' c' q' σ' ks ds) => f' = f ∧ c' = c ∧ q' = q ∧ σ' = σ ∧ we (fun _ C fs μ' => R δ C fs μ') (slotsOf ks ds) μ P
  | _ => False
def wLam (p : Addr) (q : Str) (n : Nat) (wg : WE → WS) (we : WE) : WE := fun R δ μ P => (∃ j, cell μ j = some (.tab p q)) ∧ ∀ f c σ, wg (wAct f c q σ we) (fun _ C fs μ' => R δ C fs μ') { nx := fun _ μ' => P .non μ', rt := P } (startD n [.lam f c q σ (ksOf δ) (dsOf δ)]) μ
section
variable {X : Cx} {W : WX}
/-- x(lambda: body) -/
theorem q_lam {x a : Str} {st : Stmt} {g c P : Addr} {fd : FuncData} {k : Nat} {Ng : List Str} {params : Arguments} {body : Expr} {scope : Scope} {wg : WE → WS} {we : WE} {p lpos pos : Pos}
    (F : Fun X.K x x st g fd) (Sg : FnScope Ng [a] (defScope st)) (gd : X.A.guards = some []) (hr : Room (k + 2) X.A) (hg : Gl X x) (hm : X.mg x = some (.ref g)) (hb : Binds X.K fd [a] []) (tk : Takes X W) (hNg : Ng[0]? = some a) (hva : Vis (defScope st) a)
    (TB : LamX.TabB X.base X.mg c P) (hcode : X.env.code = .ref c) (L : LamX.LamS X.env.scope scope) (hdef : defaultsOf params X.env = ([], []))
    (hbind : ∀ (q : Str) (cl : List (Str × Addr)) (pm cv ctv : Value), bindArgs (PySem.W.kla_fn "<lambda>" q params body scope cl pm cv ctv) ⟨[], []⟩ = pure [])
    (hG : ∀ (cdg : Value) (s : Shared) (H : Hp) (E : XK) (wact : WE), Room (k + 1) (X.A.deeper (envOfC x (defScope st) s.heap.objs.size g cdg)) →
      (∀ (W' : WX) (pn : List (Addr × Obj)) (xe : Value → Shared → Prop) (p1 p2 : Pos), Takes ((cxOf (L2.CX X.prog X.w) X.prog X.w X.K X.mg X.base Ng x (defScope st) g cdg X.A X.stack s H E).tr pn xe) W' →
        QE ((cxOf (L2.CX X.prog X.w) X.prog X.w X.K X.mg X.base Ng x (defScope st) g cdg X.A X.stack s H E).tr pn xe) W' (.Call (.Name a p1) [] [] p2) wact) →
      QSs (cxOf (L2.CX X.prog X.w) X.prog X.w X.K X.mg X.base Ng x (defScope st) g cdg X.A X.stack s H E) (fun cls d _ H => E cls d H) (defBody st) (wg wact))
    (hbody : ∀ (A : Around) (outer : List Env) (s : Shared) (H : Hp) (E : XK) (f c' : Addr), A.guards = some [] → Room k (A.deeper (LamX.lamEnv X scope s.heap.objs.size f c')) → QE (LamX.lamCx X A outer s H E scope f c') (fun cls d _ H => E cls d H) body we)
    (hdb : (x == ("__debug__" : Str)) = false := by decide) (hd : (a == ("__debug__" : Str)) = false := by decide) (hcd : (a == ("__classdict__" : Str)) = false := by decide) :
    QE X W (.Call (.Name x p) [.Lambda params body scope lpos] [] pos) (wLam P (X.env.qual ++ "<lambda>") Ng.length wg we) := by
  obtain ⟨oc, od, kV, doc, pm, an, cdv, ct, osl, rfl, lk, hcg⟩ := F.ex
  refine ⟨fun σ H Q => ∃ T : List (Addr × Str), (P, X.env.qual ++ "<lambda>") ∈ T ∧ (∀ p ∈ T, p.1 = P → p.2 = X.env.qual ++ "<lambda>") ∧ LamX.Tabs T H ∧ ∀ (f c' : Addr) (H1 : Hp), LamX.ExtN H H1 → LamX.Tabs T H1 → H1 c' = some (LamX.CodeO c' (X.env.qual ++ "<lambda>")) →
    ∀ s1 : Shared, ∃ wact : WE, (∀ (W' : WX) (pn : List (Addr × Obj)) (xe : Value → Shared → Prop) (p1 p2 : Pos),
        (PE ((cxOf (L2.CX X.prog X.w) X.prog X.w X.K X.mg X.base Ng x (defScope st) g cdv X.A X.stack s1 H1 (L2.WE W σ)).tr pn xe) (.Call (.Name a p1) [] [] p2)
          (fun σZ HZ Q => σZ[0]? = some (some (.ref f)) ∧ HZ c' = some (LamX.CodeO c' (X.env.qual ++ "<lambda>")) ∧
            ∀ s2 : Shared, Room k ((X.A.deeper (envOfC x (defScope st) s1.heap.objs.size g cdv)).deeper (LamX.lamEnv X scope s2.heap.objs.size f c')) →
              ∃ t, PE (LamX.lamCx X (X.A.deeper (envOfC x (defScope st) s1.heap.objs.size g cdv)) (envOfC x (defScope st) s1.heap.objs.size g cdv :: X.stack) s2 HZ (L2.WE W' σZ) scope f c') body t ∧ t σ HZ Q)) →
        Takes ((cxOf (L2.CX X.prog X.w) X.prog X.w X.K X.mg X.base Ng x (defScope st) g cdv X.A X.stack s1 H1 (L2.WE W σ)).tr pn xe) W' →
        QE ((cxOf (L2.CX X.prog X.w) X.prog X.w X.K X.mg X.base Ng x (defScope st) g cdv X.A X.stack s1 H1 (L2.WE W σ)).tr pn xe) W' (.Call (.Name a p1) [] [] p2) wact) ∧
      ∀ t, RS X.K (fun cls d _ H => L2.WE W σ cls d H) t (wg wact) → t { nx := fun _ H' => Q .non H', rt := Q } (L2.start Ng [.ref f]) H1, ⟨fun pins s σ H Q I h => ?_⟩, fun R ι μ δ σ H Pd Q c1 h kt => ?_⟩
  · obtain ⟨T, hmT, hu, hT, h⟩ := h
    refine wpAny_Call_Name_kw (ld_glob I hg hm ?_ hdb)
    refine PySem.W.callWith_K (h₀ := X.base) I.ok.mod.kin F.kp ?_ (by rfl) (by rfl)
    show wpAny _ _ (spliced ((false, eval (.Lambda params body scope lpos) X.env) :: backTo pos (starEach [] X.env))) _ _ s
    refine Calls.spliced_cons (LamX.lam_make2 I TB hcode hmT hu hT hdef (L.has I.ok) fun f c' pm' ctv H1 s' I1 eN T1 hf hfn hfr hco => ?_)
    refine Calls.spliced_nil ⟨I1.kIn, ?_⟩
    obtain ⟨wact, hact, hrun⟩ := h f c' H1 eN T1 hco s'
    have go : codeAny (model X.prog X.w) X.A (.call (.ref g) ⟨[.ref f], []⟩) (CR (L2.CX X.prog X.w) X.stack X.prog X.w H1 s' Q (L2.WE W σ)) s' := by
      refine LamX.run_ofS (N := Ng) (ps := [a]) (us := [.ref f]) (vs := [.ref f]) lk hcg Sg hr I1.env0 (by have b := hb s' [.ref f] I1.kIn rfl; rwa [List.append_nil] at b) (.cons rfl .nil) rfl fun hr' => ?_
      obtain ⟨t', ht', hq'⟩ := hG cdv s' H1 (L2.WE W σ) wact hr' (fun W' pn xe p1 p2 tk' => hact W' pn xe p1 p2 (pe_actG I1 L hf hfn hfr (hbind _ _ _ _ _) tk' hr' hNg hva hd hcd) tk')
      exact ⟨t', ht', hrun t' hq'⟩
    refine wpAny_call (codeAny_mono go fun r s2 hq => ?_)
    match r, hq with
    | .error e, hq => exact (passAt tk σ) pins H1 s' e s2 I1 hq
    | .ok (.ret u), hq => exact I1.after hq
    | .ok .next, hq => exact False.elim hq
    | .ok .brk, hq => exact False.elim hq
    | .ok .cont, hq => exact False.elim hq
  · obtain ⟨⟨j, hj⟩, hw⟩ := h
    have hm' : (P, X.env.qual ++ "<lambda>") ∈ tabsOf μ := mem_tabs.mpr ⟨j, hj⟩
    refine ⟨tabsOf μ, hm', tabs_one c1.rel hm', tabs_at c1.rel, fun f c' H1 eN T1 hco s1 => ?_⟩
    have st1 : Stp ι H ι H1 := stp_ext eN
    have rel1 : Rel X.K ι μ H1 := rel_ext c1.rel eN T1
    have lamIs : Is X.K ι H1 (.lam f c' (X.env.qual ++ "<lambda>") σ (ksOf δ) (dsOf δ)) (.ref f) := is_lam (c1.env.stp st1) hco
    refine ⟨wAct f c' (X.env.qual ++ "<lambda>") σ we, fun W' pn xe p1 p2 hp tk' => ⟨_, hp, fun R' ι' μ' δ' σ' H' P' Q' c2 h' k' => ?_⟩, fun t ht => ?_⟩
    · unfold wAct at h'
      split at h'
      · rename_i f2 c2' q2 σ2 ks ds e
        obtain ⟨e1, e2, e3, e4, h'⟩ := h'
        subst e1 e2 e3 e4
        obtain ⟨v, ev, iv⟩ := c2.env.at_ 0 _ e
        have back := env_back iv
        obtain ⟨ev2, hc2, _⟩ := iv
        subst ev2
        refine ⟨ev, hc2, fun s2 hr2 => ?_⟩
        obtain ⟨tb, hb1, hb2⟩ := hbody _ (envOfC x (defScope st) s1.heap.objs.size g cdv :: X.stack) s2 H' (L2.WE W' σ') f2 c2' (by exact gd) hr2
        refine ⟨tb, hb1, hb2 _ ι' μ' (slotsOf ks ds) σ2 H' P' Q' ⟨c2.rel, back, ?_⟩ h' k'⟩
        exact fun ι3 μ3 δ3 σ3 H3 C fs d s3 r3 e3 d3 q3 => c2.xl ι3 μ3 δ' σ' H3 C fs d s3 r3 (c2.env.stp s3) d3 q3
      · exact h'.elim
    · refine ht (fun _ C fs μ' => R δ C fs μ') ι μ _ _ H1 _ _ ⟨rel1, env_start [.lam f c' (X.env.qual ++ "<lambda>") σ (ksOf δ) (dsOf δ)] [.ref f] Ng ?_ ⟨.ref f, [], rfl, lamIs, rfl⟩, ?_⟩ (hw f c' σ) ?_
      · show 1 ≤ Ng.length
        cases Ng with
        | nil => cases hNg
        | cons y r => exact Nat.succ_le_succ (Nat.zero_le _)
      · exact fun ι3 μ3 δ3 σ3 H3 C fs d s3 r3 e3 d3 q3 => c1.xl ι3 μ3 δ σ H3 C fs d (st1.trans s3) r3 (c1.env.stp (st1.trans s3)) d3 q3
      · exact ⟨fun ι' μ' H' δ' σ' s' r' e' z => kt .non .non ι' μ' H' (st1.trans s') r' rfl z, fun v y ι' μ' H' s' r' i' z => kt v y ι' μ' H' (st1.trans s') r' i' z, fun _ _ _ _ _ _ _ _ z => z.elim, fun _ _ _ _ _ _ _ _ z => z.elim⟩
end
end HD
/-! HD9: defs that make lambdas; the law's end with tables; list.append. -/
namespace HD
open PySem PySem.Spec PyProof.Rows L2

/-- a def whose code object stands at c -/
structure FunC (K : PySem.W.Frag) (x qual : Str) (st : Stmt) (f : Addr) (fd : FuncData) (c : Addr) : Prop where
  ex : ∃ (oc : Value) (od : Option Addr) (kV doc pm : Value) (an : Option Addr) (ct : Value) (osl : Array (Option Value)),
    fd = PySem.W.fnOf x qual (defArgs st) (defBody st) (defScope st) .none kV doc pm an (.ref c) ct ∧ K.lookup f = some ⟨oc, od, .func fd, osl⟩ ∧ PySem.W.codeIn K (.ref c) qual = true
  kp : PySem.W.keepIn K (.ref f) = true
theorem FunC.fn {K : PySem.W.Frag} {x qual : Str} {st : Stmt} {f c : Addr} {fd : FuncData} (F : FunC K x qual st f fd c) : Fun K x qual st f fd := by
  obtain ⟨oc, od, kV, doc, pm, an, ct, osl, h⟩ := F.ex
  exact ⟨⟨oc, od, kV, doc, pm, an, _, ct, osl, h⟩, F.kp⟩
theorem fnG_ofc {P : Program} {w : World} {K : PySem.W.Frag} {mg : Str → Option Value} {base : Heap} {x qual : Str} {st : Stmt} {f : Addr} {fd : FuncData} {N ps : List Str} {k : Nat} {sp : Sp}
    {c : Addr} (F : FunC K x qual st f fd c) (S : FnScope N ps (defScope st)) (hn : ∀ vs H Q E, sp vs H Q E → vs.length = ps.length)
    (body : ∀ (A : Around) (outer : List Env) (s : Shared) (H : Hp) (vs : List V) (Q : VK) (E : XK), A.guards = some [] → Room k (A.deeper (envOfC qual (defScope st) s.heap.objs.size f (.ref c))) → sp vs H Q E →
      ∃ t, PSs (cxOf (L2.CX P w) P w K mg base N qual (defScope st) f (.ref c) A outer s H E) (defBody st) t ∧ t { nx := fun _ H' => Q .non H', rt := Q } (start N vs) H) :
    FnG P w K mg base (k + 1) f fd ps sp := by
  obtain ⟨oc, od, kV, doc, pm, an, ct, osl, rfl, lk, hcd⟩ := F.ex
  refine ⟨hn, fun A outer s H args us vs Q E hgd hrm e0 hbind hvals hspec => ?_⟩
  have hlen : vs.length = ps.length := hn vs H Q E hspec
  have kin : K.In s.heap := fnG_of.Frag_keeps e0
  have nolim : s.heap.NoLimit := fnG_of.nolim_keeps e0
  have kinds : ∀ y ∈ ps.zip us, (defScope st).names.lookup y.1 = some .local ∨ ((defScope st).names.lookup y.1 = some .cell ∧
      ((cellsFrom (s.heap.objs.size + 1) (defScope st).names []).lookup y.1).isSome = true) := by
    intro y hy
    cases S.par y.1 (List.of_mem_zip (a := y.1) (b := y.2) hy).1 with
    | inl q => exact Or.inl q
    | inr q => exact Or.inr ⟨q, PySem.W.cellsFrom_some _ _ _ (Or.inl q)⟩
  have enter := hbind
  refine codeAny_call_function hrm.depth
    (kin _ _ lk) rfl S.co S.gen rfl
    (PySem.W.codeRec_of kin hcd) (enter _ _ _ _ ?_)
  refine wpAny_newFunctionEnv_cells S.kind kinds
    fun env' henv s' inC => ?_
  subst henv
  refine ⟨nolim.keeps inC.toInCall.keep, codeAny_func ?_⟩
  obtain ⟨t, hps, hstart⟩ := body A outer s H vs Q E hgd (hrm.deeper _) hspec
  have inv0 := inv_start (CX := L2.CX P w) (P := P) (w := w) (K := K) (mg := mg) (base := base) (qual := qual) (f := f) (cd := .ref c) (E := E) S hrm.hd e0 hlen hvals inC
  refine wpAny_mono (hps.run [] s' (start N vs) H _ inv0 hstart) (fun fl s2 hend => ?_) (fun _ _ z => z)
  match fl, hend with
  | .ret u, hend =>
    obtain ⟨v, σ2, H2, J, rv, q⟩ := hend
    exact ⟨v, H2, J.os, J.bare, J.base, J.hok, rv, q⟩
  | .next, hend =>
    obtain ⟨σ2, H2, J, q⟩ := hend
    exact ⟨.non, H2, J.os, J.bare, J.base, J.hok, (show RelV V.non Value.none from rfl), q⟩
  | .brk, hend =>
    obtain ⟨_, _, _, q⟩ := hend
    exact q.elim
  | .cont, hend =>
    obtain ⟨_, _, _, q⟩ := hend
    exact q.elim

theorem defDc {P : Program} {w : World} {K : PySem.W.Frag} {mg : Str → Option Value} {base : Heap} {x qual : Str} {st : Stmt} {f : Addr} {fd : FuncData} {N ps : List Str} {k : Nat} {sp : SpD} {ws : WS}
    {c : Addr} (F : FunC K x qual st f fd c) (S : FnScope N ps (defScope st)) (hl : ∀ ds μ Pd R, sp ds μ Pd R → ds.length = ps.length)
    (der : ∀ (A : Around) (outer : List Env) (s : Shared) (H : Hp) (E : XK), A.guards = some [] → Room k (A.deeper (envOfC qual (defScope st) s.heap.objs.size f (.ref c))) →
      QSs (cxOf (L2.CX P w) P w K mg base N qual (defScope st) f (.ref c) A outer s H E) (fun cls d _ H => E cls d H) (defBody st) ws)
    (vc : ∀ ds μ Pd R, sp ds μ Pd R → ws (fun _ C fs μ' => R C fs μ') { nx := fun _ μ' => Pd .non μ', rt := Pd } (startD N.length ds) μ) : FnG P w K mg base (k + 1) f fd ps (spOf K sp) := by
  have hpl : ps.length ≤ N.length := by
    have := congrArg List.length S.pre
    rw [List.length_take] at this
    omega
  refine fnG_ofc F S (fun vs H Q E h => ?_) (fun A outer s H vs Q E gd hr h => ?_)
  · obtain ⟨ι, μ, ds, Pd, R, r, i, q, _, _⟩ := h
    rw [i.length]
    exact hl _ _ _ _ q
  · obtain ⟨ι, μ, ds, Pd, R, r, i, q, kt, kx⟩ := h
    obtain ⟨t, h1, h2⟩ := der A outer s H E gd hr
    refine ⟨t, h1, ?_⟩
    have env := env_start ds vs N (by rw [hl _ _ _ _ q]; exact hpl) i
    refine h2 (fun _ C fs μ' => R C fs μ') ι μ _ _ H _ _ ⟨r, env, ?_⟩ (vc ds μ Pd R q) ?_
    · exact fun ι' μ' δ' σ' H' C fs d s' r' e' hf z => kx C fs d ι' μ' H' s' r' hf z
    · exact ⟨fun ι' μ' H' δ' σ' s' r' e' z => kt .non .non ι' μ' H' s' r' rfl z, fun v d ι' μ' H' s' r' i' z => kt v d ι' μ' H' s' r' i' z, fun _ _ _ _ _ _ _ _ z => z.elim, fun _ _ _ _ _ _ _ _ z => z.elim⟩


/-! ### xs.append(e) -/
section
variable {X : Cx} {W : WX} {o e : Expr} {wo we : WE} {apos cpos : Pos}
def wApp (wo we : WE) : WE := fun R δ μ P => wo R δ μ fun x μ1 => match x with
  | .ref k => (∃ ys, lstAt μ1 k = some ys) ∧ we R δ μ1 fun d μ2 => match lstAt μ2 k with
    | some xs => xs.length ≤ 1000 ∧ P .non (μ2.set k (.lst (xs ++ [d])))
    | none => False
  | _ => False
theorem q_app (ho : QE X W o wo) (he : QE X W e we)
    (hbase : attributeBase o "append" X.env (eval o X.env) = eval o X.env := by rfl)
    (hfew : ((backTo cpos (starEach (e :: []) X.env)).all (fun x => !x.1) && (backToKw cpos (keywordEach [] X.env)).all (fun x => x.1.isSome)
      && decide ((e :: ([] : List Expr)).length + ([] : List Keyword).length + (if ([] : List Keyword).isEmpty then 0 else 1) < 30)) = true := by rfl)
    (hline : (apos.endLine == cpos.line) = true := by rfl) (hs : starEach (e :: []) X.env = (false, eval e X.env) :: starEach [] X.env := by rfl) (hplain : (backTo cpos (starEach [] X.env)).any (·.1) = false := by rfl) :
    QE X W (.Call (.Attribute o "append" apos) [e] [] cpos) (wApp wo we) := by
  obtain ⟨to, o1, o2⟩ := ho
  obtain ⟨te, e1, e2⟩ := he
  refine ⟨_, pe_bm PySem.F.plainAttrs_list PySem.F.slot_list_append PySem.F.type_list_append mt_append o1 (pa_cons e1 pa_nil hs) hbase hfew hline hs hplain, fun R ι μ δ σ H P Q c h k => o2 R ι μ δ σ H _ _ c h fun v x ι1 μ1 H1 s1 r1 i1 q1 => ?_⟩
  cases x with
  | ref n =>
    obtain ⟨⟨ys, hys⟩, q1⟩ := q1
    obtain ⟨a, ea, ev⟩ := i1
    subst ev
    obtain ⟨a', zs, ea', hz, _⟩ := r1.lst hys
    rw [ea] at ea'
    obtain rfl : a = a' := Option.some.inj ea'
    refine ⟨.inl ⟨rfl, zs, SqL.of hz⟩, e2 R ι1 μ1 δ σ H1 _ _ (c.stp s1 r1) q1 fun u d ι2 μ2 H2 s2 r2 i2 q2 => ?_⟩
    split at q2
    · rename_i xs hxs
      obtain ⟨b, us, eb, hb, hall⟩ := r2.lst hxs
      have ea2 := s2.ext n a ea
      rw [ea2] at eb
      obtain rfl : a = b := Option.some.inj eb
      refine ⟨a, us, u, rfl, rfl, hb, ?_, k .non .non ι2 _ _ ((s1.trans s2).trans (Stp.wr hb)) (r2.write (lstAt_cell hxs) ea2 hb (hall.app (es := [d]) (ys := [u]) ⟨u, [], rfl, i2, rfl⟩)) rfl q2.2⟩
      rw [hall.length]
      exact small1000 q2.1
    · exact q2.elim
  | _ => exact q1.elim
end
/-! ### the law's end, with tables -/
/-- the law, where some defs make lambdas: cs, their tables and the lambdas' names -/
def spLawT (n : Nat) (cs : List (Addr × Str)) : SpD := fun ds μ P _ => ∃ ns : List Int, ds = [.ro (ns.map .int)] ∧ ns.length ≤ n ∧ μ = cs.map (fun p => O.tab p.1 p.2) ∧ ∀ μ', P (.bl true) μ'
theorem tabS_nil {H : Hp} {p : Addr} (q : Str) (h : H p = some (.tbl #[])) : LamX.TabS H p q := LamX.TabS.nil h
theorem cell_map {cs : List (Addr × Str)} : ∀ {k : Nat} {o : O}, cell (cs.map fun p => O.tab p.1 p.2) k = some o → ∃ p, cs[k]? = some p ∧ o = .tab p.1 p.2 := by
  induction cs with
  | nil => intro k o h; cases h
  | cons a r ih =>
    intro k o h
    cases k with
    | zero => exact ⟨a, rfl, (Option.some.inj h).symm⟩
    | succ k =>
      obtain ⟨p, h1, h2⟩ := ih (k := k) h
      exact ⟨p, by simpa using h1, h2⟩
theorem rel_tabs {K : PySem.W.Frag} {H : Hp} {cs : List (Addr × Str)} (nd : (cs.map (·.1)).Nodup) (h : ∀ p ∈ cs, H p.1 = some (.tbl #[])) : Rel K (cs.map (·.1)) (cs.map fun p => O.tab p.1 p.2) H := by
  refine ⟨by rw [List.length_map, List.length_map], fun i j a h1 h2 => ?_, fun k o hk => ?_⟩
  · exact (List.getElem?_inj (List.getElem?_eq_some_iff.mp h1).1 nd).mp (h1.trans h2.symm)
  · obtain ⟨p, h1, h2⟩ := cell_map hk
    subst h2
    have hm : p ∈ cs := List.mem_of_getElem? h1
    exact ⟨p.1, by rw [List.getElem?_map, h1] <;> rfl, rfl, tabS_nil _ (h p hm)⟩

/-- of a def that makes lambdas: its code object, its table, the lambdas' name -/
structure Maker where
  c : Addr
  p : Addr
  q : Str
structure TabsOk (K : PySem.W.Frag) (h : Heap) (cs : List Maker) : Prop where
  nd : (cs.map Maker.p).Nodup
  empty : ∀ m ∈ cs, h.get? m.p = some { cls := .none, data := .fields #[] }
  out : ∀ m ∈ cs, K.lookup m.p = none
  code : ∀ m ∈ cs, PySem.W.CodeHd h m.c m.p
def tabCells (cs : List Maker) : List (Addr × Str) := cs.map fun m => (m.p, m.q)
theorem walkTD {l : PySem.W.OpenLaw} {n k : Nat} {q : Program} {loose : List Str} {XP : (Str → Option Value) → Heap → Prop} {YP : World → Heap → Prop} {d : DefRec} {K : Params → PySem.W.Frag} {x : Str}
    (hn : l.most = some n) (hn2 : n ≤ sizeLine) (hdf : d.params.defaults = []) (hr : Room k callerA)
    (hY : ∀ (w : World) (h : Heap), YP w h → (K w.params).In h)
    (F : ∀ (w : World) (mg : Str → Option Value) (fa : Addr) (h : Heap), (K w.params).In h → h.Ns mainGlobals mg → mg d.name = some (.ref fa) →
      (∀ (nm : Str) (f : Addr), ((recsOf q).any fun e => e.name == nm) = true → mg nm = some (.ref f) → LamX.OwnTab (K w.params) f h) →
      ∃ (fd : FuncData) (cs : List Maker), TabsOk (K w.params) h cs ∧ (∀ (s : Shared) (u : Value), BindsTo s fd ⟨[u], []⟩ [(x, u)]) ∧
        ∀ base : Heap, (K w.params).In base → base.Ns mainGlobals mg → (∀ m ∈ cs, LamX.TabB base mg m.c m.p) → FnG l.prog w (K w.params) mg base k fa fd [x] (spOf (K w.params) (spLawT n (tabCells cs)))) :
    PySem.W.WalkO q loose XP YP l.row.toRowW d [] (fun f vs => PySem.call f vs) := by
  refine Att.attach_call hn hdf fun w s₀ s₁ mg mb fa o pm cd doc a vs ns G Y ho hd hcd hmg hobj hints hlen hg => ?_
  have KX := hY w _ Y
  have own : ∀ (nm : Str) (f : Addr), ((recsOf q).any fun e => e.name == nm) = true → mg nm = some (.ref f) → LamX.OwnTab (K w.params) f s₁.heap := fun nm f hrec hnm c P o1 fd1 e dd vs1 sl k1 k2 k3 k4 k5 => by
    obtain ⟨r, hm, hname⟩ := List.any_eq_true.mp hrec
    have hname : r.name = nm := beq_iff_eq.mp hname
    obtain ⟨a', o', fd', c', P', h1, h2, h3, h4, h5, h6⟩ := G.T.tab r hm
    rw [hname, hnm] at h1
    cases h1
    rw [KX _ _ k1] at h2
    cases h2
    rw [k2] at h3
    cases h3
    rw [k3] at h4
    cases h4
    obtain ⟨⟨oc, vc, e1, _, e3, e4⟩, hP⟩ := h6
    rw [KX _ _ k4] at e1
    cases e1
    cases e3
    rw [k5] at e4
    cases e4
    exact hP
  obtain ⟨fd, cs, tabs, hb, hF⟩ := F w mg fa _ KX G.T.g hmg own
  have lenV := hints.length
  have hl : ns.length ≤ sizeLine := Nat.le_trans hlen hn2
  have rv := vals_ints hints
  obtain ⟨isT, hT⟩ : ∃ isT : Addr → Bool, ∀ b, isT b = true ↔ ∃ m ∈ cs, m.p = b := ⟨fun b => cs.any fun m => decide (m.p = b), fun b => by simp⟩
  have emptyAt : ∀ b, isT b = true → s₁.heap.get? b = some { cls := .none, data := .fields #[] } := fun b hb => by
    obtain ⟨m, hm, e⟩ := (hT b).mp hb
    rw [← e]
    exact tabs.empty m hm
  have aT : isT a = false := by
    cases z : isT a with
    | false => rfl
    | true =>
      have e := emptyAt a z
      rw [hobj] at e
      have e2 : Data.seq vs.toArray _ = Data.fields #[] := congrArg Obj.data (Option.some.inj e)
      cases e2
  have goal : ∀ H : Hp, (∀ m ∈ cs, H m.p = some (.tbl #[])) → (∀ b, H b = none ∨ isT b = true ∨ ∃ o xs, H b = some (.frz o (.lst xs))) → IsAll (K w.params) [] H [.ro (ns.map .int)] [.ref a] → HOk l.prog w H s₁.heap →
      (∀ b, H b ≠ none → b = a ∨ isT b = true) → (H a ≠ none → (K w.params).lookup a = none) →
      codeAny (model l.prog w) callerA (.call (.ref fa) ⟨[.ref a], []⟩) (fun r s' => r = .ok (.ret (.bool true)) ∧ OldK s₁.heap s'.heap ∧ s'.os = s₁.os ∧ AllBare s'.gens) s₁ := by
    intro H atT kinds scr hok onlyA notK
    have free_of : ∀ {b : Addr} {ob : Obj}, s₁.heap.get? b = some ob → (∀ vs' n', ob.data ≠ .seq vs' n') → ob.data ≠ .fields #[] → H b = none := by
      intro b ob hget hdat hdat2
      match hHb : H b with
      | none => rfl
      | some u =>
        rcases onlyA b (by rw [hHb]; exact Option.some_ne_none u) with hba | hbt
        · rw [hba, hobj] at hget
          have hob := Option.some.inj hget
          exact absurd rfl (by rw [← hob] at hdat; exact hdat _ _)
        · rw [emptyAt b hbt] at hget
          have hob := Option.some.inj hget
          exact absurd rfl (by rw [← hob] at hdat2; exact hdat2)
    have ns_hid : ∀ {b : Addr} {m : Str → Option Value}, s₁.heap.Ns b m → (hidT s₁.heap H).Ns b m := by
      intro b m hns
      obtain ⟨ob, es, ep, hget, hdat, rest⟩ := hns
      refine ⟨ob, es, ep, hidT_get hget (free_of hget ?_ ?_), hdat, rest⟩
      · intro vs' n' z
        rw [hdat] at z
        cases z
      · intro z
        rw [hdat] at z
        cases z
    have kin_hid : (K w.params).In (hidT s₁.heap H) := by
      intro b ob hlook
      refine hidT_get (KX b ob hlook) ?_
      match hHb : H b with
      | none => rfl
      | some u =>
        rcases onlyA b (by rw [hHb]; exact Option.some_ne_none u) with hba | hbt
        · subst hba
          have := notK (by rw [hHb]; exact Option.some_ne_none u)
          rw [this] at hlook
          cases hlook
        · obtain ⟨m, hm, e⟩ := (hT b).mp hbt
          rw [← e, tabs.out m hm] at hlook
          cases hlook
    have TB : ∀ m ∈ cs, LamX.TabB (hidT s₁.heap H) mg m.c m.p := fun m hm => by
      have hTp := tabs.empty m hm
      refine ⟨?_, ?_, fun z => ?_⟩
      · obtain ⟨o, us, file, tf, flags, tg, inF, text, tt, e1, r1, r2, r3, r4, r5, r6, r7, r8, hne⟩ := tabs.code m hm
        refine ⟨o, us, file, tf, flags, tg, inF, text, tt, hidT_get e1 (free_of e1 (fun vs n z => ?_) fun z => ?_), r1, r2, r3, r4, r5, r6, r7, r8, hne⟩
        · rw [r2] at z
          cases z
        · rw [r2] at z
          cases z
          simp at r3
      · obtain ⟨bm, ob, b1, b2, b3, b4, b5, b6⟩ := G.T.bmain
        have nG : bm ≠ mainGlobals := fun q => by
          obtain ⟨o, es, ep, e, hd, _⟩ := G.T.g
          rw [q, e] at b3
          cases b3
          rw [hd] at b6
          cases b6
        have nP : bm ≠ m.p := fun q => by
          rw [q, hTp] at b3
          cases b3
          cases b6
        refine ⟨bm, ob, b1, b2, nG, nP, hidT_get b3 (free_of b3 (fun vs n z => ?_) fun z => ?_), b4, b5, b6⟩
        · rw [b6] at z
          cases z
        · rw [b6] at z
          cases z
      · obtain ⟨o, es, ep, e, hd, _⟩ := G.T.g
        rw [z, hTp] at e
        cases e
        cases hd
    obtain ⟨mc, lim1, lim2⟩ := G.T.nolimit
    have modu : Mod (K w.params) mg (hidT s₁.heap H) := ⟨kin_hid, ns_hid G.T.g, ⟨mb, ns_hid G.T.b, G.T.builtins⟩, ⟨mc, ns_hid lim1, lim2⟩⟩
    have en0 : Env0 l.prog w (K w.params) mg (hidT s₁.heap H) callerA [] s₁ H :=
      ⟨rfl, modu, fun b ob z => of_hidT z, Nat.le_of_eq (hidT_size _ _), trivial, fun b z => absurd (show b ∈ ([] : List Addr) from z) (by simp), hok, .of_eq hg⟩
    have relT : Rel (K w.params) ((tabCells cs).map (·.1)) ((tabCells cs).map fun p => O.tab p.1 p.2) H := by
      refine rel_tabs ?_ fun p hp => ?_
      · unfold tabCells
        rw [List.map_map]
        exact tabs.nd
      · obtain ⟨m, hm, e⟩ := List.mem_map.mp hp
        rw [← e]
        exact atT m hm
    have scr' : IsAll (K w.params) ((tabCells cs).map (·.1)) H [.ro (ns.map .int)] [.ref a] := IsAll.stp ⟨fun _ _ z => by simp at z, HX.refl H⟩ _ _ scr
    have promise : spOf (K w.params) (spLawT n (tabCells cs)) [.ref a] H (fun v _ => v = .bl true) (fun _ _ _ => False) :=
      ⟨_, _, _, fun d _ => d = .bl true, fun _ _ _ => False, relT, scr', ⟨ns, rfl, hlen, rfl, fun _ => rfl⟩,
        fun v dd ι' μ' H' _ _ i z => by
          subst z
          exact i, fun _ _ _ _ _ _ _ _ _ z => z⟩
    have run := (hF _ kin_hid (ns_hid G.T.g) TB).run callerA [] s₁ H ⟨[.ref a], []⟩ [.ref a] [.ref a] _ _ rfl hr en0 (hb s₁ (.ref a)) (.cons rfl .nil) promise
    refine codeAny_mono run fun r s' hres => ?_
    match r, hres with
    | .error e, hres =>
      obtain ⟨_, _, _, _, _, _, _, _, _, _, _, _, z⟩ := (show L2.CX l.prog w [] H s₁ (fun _ _ _ => False) e s' from hres)
      exact z.elim
    | .ok .next, hres => exact False.elim hres
    | .ok .brk, hres => exact False.elim hres
    | .ok .cont, hres => exact False.elim hres
    | .ok (.ret u), hres =>
      obtain ⟨v, H', os, bare, un, hok', rel', ev⟩ := hres
      have ev' : v = .bl true := ev
      subst ev'
      have eu : u = Value.bool true := rel'
      subst eu
      have key : ∀ b o, isT b = false → s₁.heap.get? b = some o → s'.heap.get? b = some o := fun b o nb hget => by
        match hHb : H b with
        | none => exact un.keep b o hget hHb (fun z => absurd (show b ∈ ([] : List Addr) from z) (by simp)) (by simp)
        | some u' =>
          rcases kinds b with z | z | ⟨of, xs, z⟩
          · rw [hHb] at z
            cases z
          · rw [z] at nb
            cases nb
          · have later := un.frzs b of _ z
            have h1 := (hok b _ z).1
            have h2 := (hok' b _ later).1
            rw [hget] at h1
            cases h1
            exact h2
      have grown : ∀ m ∈ cs, ∃ more : Array Value, s'.heap.get? m.p = some { cls := .none, data := .fields more } := fun m hm => by
        obtain ⟨more, z⟩ := un.tbls m.p #[] (atT m hm)
        exact ⟨_, hok' m.p _ z⟩
      refine ⟨rfl, ⟨fun b o e => ?_, fun b o e => ?_⟩, os, bare⟩
      · cases hb : isT b with
        | true =>
          obtain ⟨m, hm, ep⟩ := (hT b).mp hb
          obtain ⟨more, hmore⟩ := grown m hm
          rw [← ep] at e ⊢
          rw [tabs.empty m hm] at e
          cases e
          exact .inr (.inl ⟨((tabs.code m hm).tab (tabs.empty m hm)).isCodeTable, rfl, #[], more, rfl, by rw [Array.empty_append]; exact hmore⟩)
        | false => exact .inl (key b o hb e)
      · cases hb : isT b with
        | true =>
          obtain ⟨m, hm, ep⟩ := (hT b).mp hb
          obtain ⟨more, hmore⟩ := grown m hm
          rw [← ep]
          exact ⟨_, hmore⟩
        | false => exact ⟨o, key b o hb e⟩
  have tblIs : ∀ m ∈ cs, isT m.p = true := fun m hm => (hT m.p).mpr ⟨m, hm, rfl⟩
  match hlk : (K w.params).lookup a with
  | some ob =>
    have hsame := KX a ob hlk
    rw [hobj] at hsame
    have hob := Option.some.inj hsame
    subst hob
    refine goal (fun b => if isT b = true then some (.tbl #[]) else none) (fun m hm => if_pos (tblIs m hm)) (fun b => ?_) ⟨.ref a, [], rfl, ⟨a, ns.map V.int, rfl, .inr ⟨_, vs.toArray, _, hlk, rfl, rfl, rfl, ?_, ?_⟩, isAll_ints ns⟩, rfl⟩ (fun b u z => ?_) (fun b z => ?_) (fun z => absurd (show (if isT a = true then some (HO.tbl #[]) else none) = none by rw [aT]; rfl) z)
    · cases hb : isT b with
      | true => exact .inr (.inl rfl)
      | false => exact .inl (if_neg Bool.false_ne_true)
    · rw [List.size_toArray, lenV]
      exact hl
    · simpa using rv
    · cases hb : isT b with
      | true =>
        have z2 : (if isT b = true then some (HO.tbl #[]) else none) = some u := z
        rw [hb, if_pos rfl] at z2
        have z' := Option.some.inj z2
        subst z'
        exact emptyAt b hb
      | false =>
        have z2 : (if isT b = true then some (HO.tbl #[]) else none) = some u := z
        rw [hb, if_neg Bool.false_ne_true] at z2
        cases z2
    · cases hb : isT b with
      | true => exact .inr rfl
      | false => exact absurd (show (if isT b = true then some (HO.tbl #[]) else none) = none by rw [hb]; exact if_neg Bool.false_ne_true) z
  | none =>
    refine goal (fun b => if b = a then some (.frz { cls := .type "list", data := .seq vs.toArray } (.lst (ns.map V.int))) else if isT b = true then some (.tbl #[]) else none) (fun m hm => ?_) (fun b => ?_) ⟨.ref a, [], rfl, ⟨a, ns.map V.int, rfl, .inl ⟨_, if_pos rfl⟩, isAll_ints ns⟩, rfl⟩ (fun b u z => ?_) (fun b z => ?_) (fun _ => hlk)
    · have ne : m.p ≠ a := fun z => by
        have := tblIs m hm
        rw [z, aT] at this
        cases this
      exact (if_neg ne).trans (if_pos (tblIs m hm))
    · by_cases hb : b = a
      · exact .inr (.inr ⟨_, _, if_pos hb⟩)
      · cases ht : isT b with
        | true => exact .inr (.inl rfl)
        | false => exact .inl ((if_neg hb).trans (if_neg Bool.false_ne_true))
    · by_cases hb : b = a
      · have z' := (if_pos hb).symm.trans z
        cases z'
        rw [hb]
        exact ⟨hobj, by rw [List.length_map]; exact hl, vs, _, rv, hobj⟩
      · have z1 := (if_neg hb).symm.trans z
        cases ht : isT b with
        | true =>
          rw [ht, if_pos rfl] at z1
          have z' := Option.some.inj z1
          subst z'
          exact emptyAt b ht
        | false =>
          rw [ht, if_neg Bool.false_ne_true] at z1
          cases z1
    · by_cases hb : b = a
      · exact .inl hb
      · cases ht : isT b with
        | true => exact .inr rfl
        | false => exact absurd ((if_neg hb).trans (by rw [ht]; exact if_neg Bool.false_ne_true)) z

/-! ### what the text gives -/
theorem exm_refl {K : PySem.W.Frag} {C : Addr} (hb : PySem.W.subIn K (.ref C) (.type "BaseException") = some true) (hc : PySem.W.isClsIn K C = true) (ht : PySem.W.typeIn K (.ref C) = some (.type "type")) (hs : PySem.W.subIn K (.ref C) (.ref C) = some true) :
    PySem.W.exmOne K (.ref C) (.ref C) = some true := by
  have isC : (PySem.W.clsIn K C).isSome = true := hc
  have a : (PySem.W.subIn K (.ref C) (.type "BaseException") == some true) = true := by rw [hb] <;> rfl
  have b : ((PySem.W.clsIn K C).isSome && PySem.W.typeIn K (.ref C) == some (.type "type")) = true := by rw [isC, ht] <;> rfl
  show (if (PySem.W.subIn K (.ref C) (.type "BaseException") == some true) = true then (if ((PySem.W.clsIn K C).isSome && PySem.W.typeIn K (.ref C) == some (.type "type")) = true then PySem.W.subIn K (.ref C) (.ref C) else none) else none) = some true
  rw [if_pos a, if_pos b, hs]
/-- an own error class of the text -/
structure ErrT (K : PySem.W.Frag) (mg : Str → Option Value) (x f : Str) (newId : String) where
  C : Addr
  fI : Addr
  t : ErrTxt K mg x f newId C fI
  x : PySem.W.exmOne K (.ref C) (.ref C) = some true
/-- a def of the text that makes lambdas -/
structure MkT (K : PySem.W.Frag) (x : Str) (st : Stmt) (f : Addr) (fd : FuncData) where
  of ::
  c : Addr
  p : Addr
  fc : FunC K x x st f fd c
  lc : ∃ e dd vs sl, K.lookup c = some ⟨e, dd, .fields vs, sl⟩ ∧ vs[11]? = some (.ref p)
  hd : PySem.W.codeHdIn K c p = true
  out : K.lookup p = none
def MkT.mk {K : PySem.W.Frag} {x : Str} {st : Stmt} {f : Addr} {fd : FuncData} (m : MkT K x st f fd) (q : Str) : HD.Maker := ⟨m.c, m.p, q⟩
theorem codeHd_by {K : PySem.W.Frag} {c P : Addr} {dd : Option Addr} {vs : Array Value} {sl : Array (Option Value)} (h : K.lookup c = some ⟨.type "code", dd, .fields vs, sl⟩)
    (hv : ((match (vs[11]? : Option Value) with | some (.ref P') => P' == P | _ => false) && (match vs.getD 18 .none with | .str _ _ => true | _ => false) && (match vs.getD 7 .none with | .int _ _ => true | _ => false) &&
      (match vs.getD 9 .none with | .bool _ => true | _ => false) && (match vs.getD 10 .none with | .int _ _ => true | _ => false) && c != P) = true) : PySem.W.codeHdIn K c P = true := by
  unfold PySem.W.codeHdIn
  rw [h]
  exact hv
theorem tabsOk_one {K : PySem.W.Frag} {h : Heap} {x : Str} {st : Stmt} {f : Addr} {fd : FuncData} (X : K.In h) (m : MkT K x st f fd) (own : LamX.OwnTab K f h) (q : Str) : TabsOk K h [m.mk q] := by
  obtain ⟨oc, od, kV, doc, pm, an, ct, osl, e, lk, _⟩ := m.fc.ex
  obtain ⟨e', dd, vs, sl, l2, hv⟩ := m.lc
  have emp : h.get? m.p = some { cls := .none, data := .fields #[] } := own m.c m.p _ fd e' dd vs sl lk rfl ((congrArg FuncData.code e).trans rfl) l2 hv
  refine ⟨by simp, fun z hz => ?_, fun z hz => ?_, fun z hz => ?_⟩
  · rw [List.mem_singleton.mp hz]
    exact emp
  · rw [List.mem_singleton.mp hz]
    exact m.out
  · rw [List.mem_singleton.mp hz]
    exact PySem.W.codeHd_of_K X m.hd
end HD
/-! HD10: constants of the top that are tuples; in over flat items; isqrt. -/
namespace HD
open PySem PySem.Spec PyProof.Rows L2

mutual
/-- the written part holds this datum at v -/
def kD (K : PySem.W.Frag) : D → Value → Bool
  | .non, v => match v with
    | .none => true
    | _ => false
  | .bl b, v => match v with
    | .bool c => b == c
    | _ => false
  | .int i, v => match v with
    | .int j _ => i == j
    | _ => false
  | .str x, v => match v with
    | .str y _ => x == y
    | _ => false
  | .tup ds, v => match v with
    | .ref a => match K.lookup a with
      | some o => (match o.cls with
        | .type n => n == "tuple"
        | _ => false) && match o.data with
        | .seq its _ => decide (its.size ≤ 1000) && kDs K ds its.toList
        | _ => false
      | none => false
    | _ => false
  | _, _ => false
def kDs (K : PySem.W.Frag) : List D → List Value → Bool
  | [], vs => vs.isEmpty
  | d :: ds, vs => match vs with
    | v :: r => kD K d v && kDs K ds r
    | [] => false
end
mutual
theorem kD_is {K : PySem.W.Frag} : ∀ (d : D) (v : Value), kD K d v = true → ∃ u, RelV u v ∧ ∀ ι H, Is K ι H d u
  | .non, v, h => by
    unfold kD at h
    split at h
    · exact ⟨.non, rfl, fun _ _ => rfl⟩
    · cases h
  | .bl b, v, h => by
    unfold kD at h
    split at h
    · rename_i c
      have e : b = c := by simpa using h
      subst e
      exact ⟨.bl b, rfl, fun _ _ => rfl⟩
    · cases h
  | .int i, v, h => by
    unfold kD at h
    split at h
    · rename_i c t
      have e : i = c := by simpa using h
      subst e
      exact ⟨.int i, ⟨t, rfl⟩, fun _ _ => rfl⟩
    · cases h
  | .str i, v, h => by
    unfold kD at h
    split at h
    · rename_i c t
      have e : i = c := by simpa using h
      subst e
      exact ⟨.str i, ⟨t, rfl⟩, fun _ _ => rfl⟩
    · cases h
  | .tup ds, v, h => by
    unfold kD at h
    split at h
    · rename_i a
      split at h
      · rename_i o eo
        rw [Bool.and_eq_true] at h
        obtain ⟨h1, h2⟩ := h
        split at h1
        · rename_i n ec
          have en : n = "tuple" := by simpa using h1
          subst en
          split at h2
          · rename_i its nn ed
            rw [Bool.and_eq_true] at h2
            obtain ⟨xs, r, g⟩ := kDs_is ds its.toList h2.2
            exact ⟨.ref a, rfl, fun ι H => ⟨a, xs, rfl, .inr ⟨o, its, nn, eo, ec, ed, le_line (of_decide_eq_true h2.1), r⟩, g ι H⟩⟩
          · cases h2
        · cases h1
      · cases h
    · cases h
  | .ty _, _, h => by unfold kD at h; cases h
  | .adr _, _, h => by unfold kD at h; cases h
  | .ref _, _, h => by unfold kD at h; cases h
  | .ro _, _, h => by unfold kD at h; cases h
  | .exc _ _ _ _ _, _, h => by unfold kD at h; cases h
  | .lam _ _ _ _ _ _, _, h => by unfold kD at h; cases h
theorem kDs_is {K : PySem.W.Frag} : ∀ (ds : List D) (vs : List Value), kDs K ds vs = true → ∃ xs, Vals xs vs ∧ ∀ ι H, IsAll K ι H ds xs
  | [], vs, h => by
    unfold kDs at h
    have e : vs = [] := by simpa using h
    subst e
    exact ⟨[], .nil, fun _ _ => rfl⟩
  | d :: ds, vs, h => by
    unfold kDs at h
    split at h
    · rename_i v r
      rw [Bool.and_eq_true] at h
      obtain ⟨u, hu, gu⟩ := kD_is d v h.1
      obtain ⟨xs, hx, gx⟩ := kDs_is ds r h.2
      exact ⟨u :: xs, .cons hu hx, fun ι H => ⟨u, xs, rfl, gu ι H, gx ι H⟩⟩
    · cases h
end
section
variable {X : Cx} {W : WX} {pos : Pos}
/-- a constant of the module: a datum -/
theorem q_globD {x : Str} {d : D} {v : Value} (hg : Gl X x) (hm : X.mg x = some v) (hk : kD X.K d v = true) (hd : (x == ("__debug__" : Str)) = false := by decide) : QE X W (.Name x pos) (wC d) := by
  obtain ⟨u, hu, gu⟩ := kD_is d v hk
  exact ⟨_, pe_glob (v := u) hg hm hu hd, fun _ _ _ _ _ _ _ _ c h k => k.at c.rel (gu _ _) h⟩
/-- an int in a list or tuple of ints -/
def wInI : WO := fun d e μ P => match d with
  | .int i => ∃ ns : List Int, itemsOf μ e = some (ns.map D.int) ∧ P (.bl (ns.contains i)) μ
  | _ => False
theorem vals_ints {K : PySem.W.Frag} {ι : List Addr} {H : Hp} : ∀ {ns : List Int} {ys : List V}, IsAll K ι H (ns.map D.int) ys → ys = ns.map V.int
  | [], _, h => h
  | n :: ns, _, h => by
    obtain ⟨v, r, e, i, t⟩ := h
    have i' : v = .int n := i
    rw [e, i', vals_ints t]
    rfl
theorem inV_ints (i : Int) : ∀ ns : List Int, inV (.int i) (ns.map V.int) = ns.contains i
  | [] => rfl
  | n :: ns => by
    have ih := inV_ints i ns
    unfold inV at ih ⊢
    rw [List.map_cons, List.any_cons, ih, List.contains_cons]
    show ((n == i) || ns.contains i) = ((i == n) || ns.contains i)
    rw [show (n == i) = (i == n) from Bool.eq_iff_iff.mpr ⟨fun h => by simpa using (beq_iff_eq.mp h).symm, fun h => by simpa using (beq_iff_eq.mp h).symm⟩]
theorem flat_ints : ∀ ns : List Int, (ns.map V.int).all flatV = true
  | [] => rfl
  | n :: ns => by
    rw [List.map_cons, List.all_cons, flat_ints ns]
    rfl
theorem qo_inI : QO X (compareOp .In) wInI := ⟨_, op_in_seq, fun ι μ H x y d e P Q r i1 i2 h k => by
  unfold wInI at h
  split at h
  · rename_i i
    obtain ⟨ns, en, q⟩ := h
    obtain ⟨a, ys, ev, hq, ht⟩ := items_seq r i2 en
    have ey := vals_ints ht
    subst ey
    have ex : x = .int i := i1
    subst ex
    refine ⟨a, _, ev, ?_, rfl, flat_ints ns, ?_⟩
    · cases hk : isTup e with
      | true =>
        rw [hk] at hq
        exact .inr hq
      | false =>
        rw [hk] at hq
        exact .inl hq
    · rw [if_neg Bool.false_ne_true, inV_ints]
      exact k.at r (d := .bl _) rfl q
  · exact h.elim⟩
def wNotInI : WO := fun d e μ P => match d with
  | .int i => ∃ ns : List Int, itemsOf μ e = some (ns.map D.int) ∧ P (.bl (!ns.contains i)) μ
  | _ => False
theorem qo_notInI : QO X (compareOp .NotIn) wNotInI := ⟨_, op_notIn_seq, fun ι μ H x y d e P Q r i1 i2 h k => by
  unfold wNotInI at h
  split at h
  · rename_i i
    obtain ⟨ns, en, q⟩ := h
    obtain ⟨a, ys, ev, hq, ht⟩ := items_seq r i2 en
    have ey := vals_ints ht
    subst ey
    have ex : x = .int i := i1
    subst ex
    refine ⟨a, _, ev, ?_, rfl, flat_ints ns, ?_⟩
    · cases hk : isTup e with
      | true =>
        rw [hk] at hq
        exact .inr hq
      | false =>
        rw [hk] at hq
        exact .inl hq
    · rw [if_pos rfl, inV_ints]
      exact k.at r (d := .bl _) rfl q
  · exact h.elim⟩
/-- isqrt of an int that is not huge -/
def rIsqrt : List V → Hp → VK → Prop := fun vs H Q => ∃ a : Int, vs = [.int a] ∧ 0 ≤ a ∧ a.toNat.log2 < 9000 ∧ Q (.int ((Float64.isqrt a.toNat : Nat) : Int)) H
theorem cr_isqrt : CallR X (.builtin "math.isqrt") rIsqrt := by
  intro pins s σ H vs us Q I r h
  obtain ⟨a, rfl, h0, h1, q⟩ := h
  cases r with
  | cons r1 r2 =>
    cases r2
    obtain ⟨t, rfl⟩ := r1
    exact call_function_meets PySem.W.MGF.kind_isqrt PySem.W.MGF.plain_isqrt PySem.W.MGF.entry_isqrt (PySem.W.MGF.args_isqrt _) (PySem.W.mg_run_isqrt a t (by omega) (by omega) (by omega)).meets ⟨.int _, H, I.tok _, ⟨_, rfl⟩, q⟩
def wIsqrt : WB := fun ds μ P => ints1 (fun i => (0 ≤ i ∧ i < 2 ^ 8000) ∧ ∀ r : Int, 0 ≤ r → r * r ≤ i → i < (r + 1) * (r + 1) → P (.int r) μ) ds
theorem qb_isqrt : QB X (.builtin "math.isqrt") wIsqrt := ⟨_, cr_isqrt, fun ι μ H vs ds P Q r i h k => by
  obtain ⟨n, e, ⟨h0, h1⟩, q⟩ := ints1_of h
  subst e
  obtain ⟨v, e1, iv⟩ := isAll1 i
  have iv' : v = .int n := iv
  subst iv'
  have hlog : n.toNat.log2 < 9000 := by
    by_cases hz : n = 0
    · subst hz
      decide
    · have := (divOk (j := n) (by omega) h1).2
      rw [show n.natAbs = n.toNat by omega] at this
      exact this
  have sp := Float64.isqrt_spec n.toNat
  refine ⟨n, e1, h0, hlog, k.at r (d := .int _) rfl (q _ (Int.natCast_nonneg _) ?_ ?_)⟩
  · have := Int.ofNat_le.mpr sp.1
    rw [Int.natCast_mul] at this
    omega
  · have := Int.ofNat_lt.mpr sp.2
    rw [Int.natCast_mul, Int.natCast_add] at this
    have e : ((n.toNat : Nat) : Int) = n := by omega
    rw [e] at this
    exact this⟩
end

/-! ### defs with defaults -/
structure FunDf (K : PySem.W.Frag) (x qual : Str) (st : Stmt) (dds : List D) (f : Addr) (fd : FuncData) : Prop where
  ex : ∃ (oc : Value) (od : Option Addr) (dV kV doc pm : Value) (an : Option Addr) (cdv ct : Value) (osl : Array (Option Value)),
    fd = PySem.W.fnOf x qual (defArgs st) (defBody st) (defScope st) dV kV doc pm an cdv ct ∧ K.lookup f = some ⟨oc, od, .func fd, osl⟩ ∧ PySem.W.codeIn K cdv qual = true ∧ kD K (.tup dds) dV = true
  kp : PySem.W.keepIn K (.ref f) = true
theorem fnG_df {P : Program} {w : World} {K : PySem.W.Frag} {mg : Str → Option Value} {base : Heap} {x qual : Str} {st : Stmt} {dds : List D} {f : Addr} {fd : FuncData} {N ps : List Str} {k : Nat} {sp : Sp}
    (F : FunDf K x qual st dds f fd) (S : FnScope N ps (defScope st)) (hn : ∀ vs H Q E, sp vs H Q E → vs.length = ps.length)
    (body : ∀ (cdv : Value) (A : Around) (outer : List Env) (s : Shared) (H : Hp) (vs : List V) (Q : VK) (E : XK), A.guards = some [] → Room k (A.deeper (envOfC qual (defScope st) s.heap.objs.size f cdv)) → sp vs H Q E →
      ∃ t, PSs (cxOf (L2.CX P w) P w K mg base N qual (defScope st) f cdv A outer s H E) (defBody st) t ∧ t { nx := fun _ H' => Q .non H', rt := Q } (start N vs) H) :
    FnG P w K mg base (k + 1) f fd ps sp := by
  obtain ⟨oc, od, dV, kV, doc, pm, an, cdv, ct, osl, rfl, lk, hcd, _⟩ := F.ex
  refine ⟨hn, fun A outer s H args us vs Q E hgd hrm e0 hbind hvals hspec => ?_⟩
  have hlen : vs.length = ps.length := hn vs H Q E hspec
  have kin : K.In s.heap := fnG_of.Frag_keeps e0
  have nolim : s.heap.NoLimit := fnG_of.nolim_keeps e0
  have kinds : ∀ y ∈ ps.zip us, (defScope st).names.lookup y.1 = some .local ∨ ((defScope st).names.lookup y.1 = some .cell ∧
      ((cellsFrom (s.heap.objs.size + 1) (defScope st).names []).lookup y.1).isSome = true) := by
    intro y hy
    cases S.par y.1 (List.of_mem_zip (a := y.1) (b := y.2) hy).1 with
    | inl q => exact Or.inl q
    | inr q => exact Or.inr ⟨q, PySem.W.cellsFrom_some _ _ _ (Or.inl q)⟩
  have enter := hbind
  refine codeAny_call_function hrm.depth
    (kin _ _ lk) rfl S.co S.gen rfl
    (PySem.W.codeRec_of kin hcd) (enter _ _ _ _ ?_)
  refine wpAny_newFunctionEnv_cells S.kind kinds
    fun env' henv s' inC => ?_
  subst henv
  refine ⟨nolim.keeps inC.toInCall.keep, codeAny_func ?_⟩
  obtain ⟨t, hps, hstart⟩ := body cdv A outer s H vs Q E hgd (hrm.deeper _) hspec
  have inv0 := inv_start (CX := L2.CX P w) (P := P) (w := w) (K := K) (mg := mg) (base := base) (qual := qual) (f := f) (cd := cdv) (E := E) S hrm.hd e0 hlen hvals inC
  refine wpAny_mono (hps.run [] s' (start N vs) H _ inv0 hstart) (fun fl s2 hend => ?_) (fun _ _ z => z)
  match fl, hend with
  | .ret u, hend =>
    obtain ⟨v, σ2, H2, J, rv, q⟩ := hend
    exact ⟨v, H2, J.os, J.bare, J.base, J.hok, rv, q⟩
  | .next, hend =>
    obtain ⟨σ2, H2, J, q⟩ := hend
    exact ⟨.non, H2, J.os, J.bare, J.base, J.hok, (show RelV V.non Value.none from rfl), q⟩
  | .brk, hend =>
    obtain ⟨_, _, _, q⟩ := hend
    exact q.elim
  | .cont, hend =>
    obtain ⟨_, _, _, q⟩ := hend
    exact q.elim
theorem defDf {P : Program} {w : World} {K : PySem.W.Frag} {mg : Str → Option Value} {base : Heap} {x qual : Str} {st : Stmt} {dds : List D} {f : Addr} {fd : FuncData} {N ps : List Str} {k : Nat} {sp : SpD} {ws : WS}
    (F : FunDf K x qual st dds f fd) (S : FnScope N ps (defScope st)) (hl : ∀ ds μ Pd R, sp ds μ Pd R → ds.length = ps.length)
    (der : ∀ (cdv : Value) (A : Around) (outer : List Env) (s : Shared) (H : Hp) (E : XK), A.guards = some [] → Room k (A.deeper (envOfC qual (defScope st) s.heap.objs.size f cdv)) →
      QSs (cxOf (L2.CX P w) P w K mg base N qual (defScope st) f cdv A outer s H E) (fun cls d _ H => E cls d H) (defBody st) ws)
    (vc : ∀ ds μ Pd R, sp ds μ Pd R → ws (fun _ C fs μ' => R C fs μ') { nx := fun _ μ' => Pd .non μ', rt := Pd } (startD N.length ds) μ) : FnG P w K mg base (k + 1) f fd ps (spOf K sp) := by
  have hpl : ps.length ≤ N.length := by
    have := congrArg List.length S.pre
    rw [List.length_take] at this
    omega
  refine fnG_df F S (fun vs H Q E h => ?_) (fun cdv A outer s H vs Q E gd hr h => ?_)
  · obtain ⟨ι, μ, ds, Pd, R, r, i, q, _, _⟩ := h
    rw [i.length]
    exact hl _ _ _ _ q
  · obtain ⟨ι, μ, ds, Pd, R, r, i, q, kt, kx⟩ := h
    obtain ⟨t, h1, h2⟩ := der cdv A outer s H E gd hr
    refine ⟨t, h1, ?_⟩
    have env := env_start ds vs N (by rw [hl _ _ _ _ q]; exact hpl) i
    refine h2 (fun _ C fs μ' => R C fs μ') ι μ _ _ H _ _ ⟨r, env, ?_⟩ (vc ds μ Pd R q) ?_
    · exact fun ι' μ' δ' σ' H' C fs d s' r' e' hf z => kx C fs d ι' μ' H' s' r' hf z
    · exact ⟨fun ι' μ' H' δ' σ' s' r' e' z => kt .non .non ι' μ' H' s' r' rfl z, fun v d ι' μ' H' s' r' i' z => kt v d ι' μ' H' s' r' i' z, fun _ _ _ _ _ _ _ _ z => z.elim, fun _ _ _ _ _ _ _ _ z => z.elim⟩
/-- how a call binds that leaves out the last ones: dds fill up -/
def BdD (K : PySem.W.Frag) (fd : FuncData) (ps : List Str) (dds : List D) : Prop := ∃ (dvs : List V) (ds : List Value), Vals dvs ds ∧ (∀ ι H, IsAll K ι H dds dvs) ∧ Binds K fd ps ds
theorem bdD_of {K : PySem.W.Frag} {x qual : Str} {st : Stmt} {dds : List D} {f : Addr} {fd : FuncData} {ps : List Str} (F : FunDf K x qual st dds f fd) (n j : Nat) (hn : n + (dds.length - j) = ps.length)
    (h : ∀ (T : Addr) (kV doc pm : Value) (an : Option Addr) (cdv ct : Value) (us its : List Value), us.length = n → its.length = dds.length →
      ∃ k, bindArgs (PySem.W.fnOf x qual (defArgs st) (defBody st) (defScope st) (.ref T) kV doc pm an cdv ct) ⟨us, []⟩ = seqItems? (.ref T) >>= k ∧ k (some its.toArray) = pure (ps.zip (us ++ its.drop j))) : BdD K fd ps (dds.drop j) := by
  obtain ⟨oc, od, dV, kV, doc, pm, an, cdv, ct, osl, rfl, lk, hcd, hk⟩ := F.ex
  unfold kD at hk
  split at hk
  · rename_i T
    split at hk
    · rename_i o lT
      rw [Bool.and_eq_true] at hk
      have hk2 := hk.2
      split at hk2
      · rename_i its nn ed
        rw [Bool.and_eq_true] at hk2
        obtain ⟨xs, r, g⟩ := kDs_is dds its.toList hk2.2
        refine ⟨xs.drop j, its.toList.drop j, r.drop j, fun ι H => (g ι H).drop j, fun s us X hlen => ?_⟩
        have l1 : its.toList.length = dds.length := r.length.symm.trans (g [] fun _ => none).length
        have l2 : us.length = n := by
          rw [List.length_append, List.length_drop, l1] at hlen
          omega
        obtain ⟨k, e1, e2⟩ := h T kV doc pm an cdv ct us its.toList l2 l1
        refine BindsTo.of_looks fun M => ?_
        rw [e1]
        exact looks_items X lT ed (.of_pure (by simpa using e2))
      · cases hk2
    · cases hk
  · cases hk
section
variable {X : Cx} {W : WX} {k : Nat} {f : Addr} {fd : FuncData} {ps : List Str} {sp : Sp} {x : Str} {p pos : Pos} {e : Expr} {es : List Expr} {t : TA} {E : L2.St → XK}
def tCallD (sp : Sp) (dvs : List V) (E : L2.St → XK) (t : TA) : TE := fun σ H Q => t σ H fun vs H1 => sp (vs ++ dvs) H1 Q (E σ)
theorem pe_callGd {ds : List Value} {dvs : List V} (F : FnG X.prog X.w X.K X.mg X.base k f fd ps sp) (gd : X.A.guards = some []) (hr : Room k X.A) (hg : Gl X x) (hm : X.mg x = some (.ref f)) (hk : PySem.W.keepIn X.K (.ref f) = true) (hb : Binds X.K fd ps ds) (hd : Vals dvs ds)
    (hx : ∀ σ, PassesAt (L2.CX X.prog X.w) X σ (E σ)) (ha : PA X (e :: es) t) (hdb : (x == ("__debug__" : Str)) = false := by decide)
    (he : starEach (e :: es) X.env = (false, eval e X.env) :: starEach es X.env := by rfl) (hpl : (backTo pos (starEach es X.env)).any (·.1) = false := by rfl) :
    PE X (.Call (.Name x p) (e :: es) [] pos) (tCallD sp dvs E t) := by
  refine ⟨fun pins s σ H Q I h => ?_⟩
  refine wpAny_Call_Name_kw (ld_glob I hg hm ?_ hdb)
  have args := ha.run pos pins s σ H _ I h
  refine PySem.W.callWith_K (h₀ := X.base) I.ok.mod.kin hk (thn args ?_) he hpl
  intro us s1 hq
  obtain ⟨vs, H1, I1, r, q⟩ := hq
  refine ⟨I1.kIn, ?_⟩
  have rr : Vals (vs ++ dvs) (us ++ ds) := r.append hd
  have hl : (us ++ ds).length = ps.length := rr.length.symm.trans (F.len _ _ _ _ q)
  exact runG F gd hr (hx σ) I1 (hb s1 us I1.kIn hl) rr q
def catD : List D → List D → List D
  | [], es => es
  | d :: r, es => d :: catD r es
theorem catD_eq : ∀ ds es : List D, catD ds es = ds ++ es
  | [], _ => rfl
  | d :: r, es => by rw [catD, catD_eq r es, List.cons_append]
def wCallD (sp : SpD) (dds : List D) (wa : WA) : WE := fun R δ μ P => wa R δ μ fun ds μ1 => sp (catD ds dds) μ1 P fun C fs μ2 => R δ C fs μ2
theorem q_callD {sp : SpD} {dds : List D} {wa : WA} (F : FnG X.prog X.w X.K X.mg X.base k f fd ps (spOf X.K sp)) (gd : X.A.guards = some []) (hr : Room k X.A) (hg : Gl X x) (hm : X.mg x = some (.ref f)) (hk : PySem.W.keepIn X.K (.ref f) = true) (hb : BdD X.K fd ps dds)
    (tk : Takes X W) (ha : QA X W (e :: es) wa) (hdb : (x == ("__debug__" : Str)) = false := by decide)
    (he : starEach (e :: es) X.env = (false, eval e X.env) :: starEach es X.env := by rfl) (hpl : (backTo pos (starEach es X.env)).any (·.1) = false := by rfl) :
    QE X W (.Call (.Name x p) (e :: es) [] pos) (wCallD sp dds wa) := by
  obtain ⟨t, h1, h2⟩ := ha
  obtain ⟨dvs, ds, hv, hi, hb⟩ := hb
  refine ⟨_, pe_callGd (E := L2.WE W) F gd hr hg hm hk hb hv (fun σ => passAt tk σ) h1 hdb he hpl, fun R ι μ δ σ H P Q c h kt => ?_⟩
  exact h2 R ι μ δ σ H _ _ c h fun vs ds' ι1 μ1 H1 s1 r1 i1 q1 => ⟨ι1, μ1, catD ds' dds, P, _, r1, by rw [catD_eq]; exact i1.app (hi ι1 H1), q1, kt.stp s1, ktx_of (μ' := μ1) c.xl c.env s1⟩
end
/-- such a def of the top, as the head leaves it -/
structure FnTd (K : PySem.W.Frag) (mg : Str → Option Value) (x : Str) (st : Stmt) (dds : List D) where
  a : Addr
  fd : FuncData
  fn : FunDf K x x st dds a fd
  gl : mg x = some (.ref a)
theorem fundf_mk {K : PySem.W.Frag} {x qual : Str} {st : Stmt} {dds : List D} {f : Addr} {oc : Value} {od : Option Addr} {dV kV doc pm : Value} {an : Option Addr} {cdv ct : Value} {osl : Array (Option Value)}
    (lk : K.lookup f = some ⟨oc, od, .func (PySem.W.fnOf x qual (defArgs st) (defBody st) (defScope st) dV kV doc pm an cdv ct), osl⟩) (hc : PySem.W.codeIn K cdv qual = true) (hd : kD K (.tup dds) dV = true) (kp : PySem.W.keepIn K (.ref f) = true) : FunDf K x qual st dds f (PySem.W.fnOf x qual (defArgs st) (defBody st) (defScope st) dV kV doc pm an cdv ct) :=
  ⟨⟨oc, od, dV, kV, doc, pm, an, cdv, ct, osl, rfl, lk, hc, hd⟩, kp⟩
end HD
/-! HD11: sets of ints made of lists, sorted; &; any, tuple, sorted. -/
namespace HD
open PySem PySem.Spec PyProof.Rows L2
section
variable {P : Program} {w : World} {A : Around} {E : Value → Shared → Prop} {s : Shared}
/-- an empty set as it is made -/
abbrev so0 (w : World) : Obj := { cls := .type "set", dict := none, data := .set #[] 0 (.fresh 0 0 (!w.params.followText "set-order")) }
/-- the heap behind its making -/
abbrev hp1 (w : World) (s : Shared) : Heap := s.heap.push (so0 w)
abbrev n0 (s : Shared) : Addr := s.heap.objs.size
/-- what stands behind the filling -/
def Filled (w : World) (s : Shared) (ns : List Int) (v : Value) (z : Shared) : Prop := v = .none ∧ ∃ h' tk c, z = { s with heap := h', toks := tk } ∧ SetR w h' (n0 s) (fun j => decide (j ∈ ns)) c ∧ c ≤ ns.length ∧
  ∀ b o, s.heap.get? b = some o → h'.get? b = some o
theorem set_fill {l : Addr} {its : Array Value} {ns : List Int} {B : Around} (hh : B.in1.in1.handled = none) (hl : s.heap.IsList l its) (hit : IntsAre its.toList ns) (hb : ns.length + 1 < scanBound) :
    wpAny (model P w) B.in1 (Builtin.«set.__init__» ⟨[.ref (n0 s), .ref l], []⟩) (fun f z => ∃ v, f = .done (.ret v) ∧ Filled w s ns v z) E { s with heap := hp1 w s } := by
  have hisz : its.size = ns.length := by
    rw [← Array.length_toList]
    exact IntsAre.length hit
  have hS : (hp1 w s).get? (n0 s) = some (so0 w) := Heap.get?_push_size _ rfl
  have hT : Shared.TypeIs { s with heap := hp1 w s } (.ref (n0 s)) "set" := ⟨_, hS, rfl⟩
  obtain ⟨⟨oc, odi, oda, osl⟩, hol, hc, nl, hd⟩ := hl
  simp only at hc hd
  subst hc hd
  have hol' : (hp1 w s).get? l = some ⟨.type "list", odi, .seq its nl, osl⟩ := Heap.get?_push_of_some _ hol
  have z1 := F.sub_list_set
  have z2 := F.sub_list_frozenset
  have z3 : (Value.type "list" == Value.type "dict") = false := by decide
  have hl1 : (hp1 w s).IsList l its := ⟨_, hol', rfl, nl, rfl⟩
  unfold Builtin.«set.__init__» noKeywords Builtin.Frozenset.updateFrom
  generalize hPI : pyIter = PI
  wp_walk
  subst hPI
  refine wpAny_pyIter_list hl1 ?_
  refine wpAny_bind (wpAny_runValue ?_)
  have lt0 : l < n0 s := Heap.lt_size hol
  have sz1 : (hp1 w s).objs.size = n0 s + 1 := Heap.size_push ..
  have ne1 : l ≠ (hp1 w s).objs.size := by
    rw [sz1]
    exact Nat.ne_of_lt (Nat.lt_succ_of_lt lt0)
  have off : n0 s ∉ [(hp1 w s).objs.size, l] := by
    rw [sz1]
    intro z
    rcases List.mem_cons.mp z with z | z
    · exact absurd z (Nat.ne_of_lt (Nat.lt_succ_self _))
    · exact absurd (List.mem_singleton.mp z) (Nat.ne_of_gt lt0)
  have item : ∀ (i : Nat) (v : Value), its[i]? = some v → ∃ k t, ns[i]? = some k ∧ v = .int k t := fun i v hv => by
    have hi : i < ns.length := by
      rw [← hisz]
      exact (Array.getElem?_eq_some_iff.mp hv).1
    obtain ⟨t, e⟩ := IntsAre.int_at hit i v (by rw [Array.getElem?_toList]; exact hv)
    refine ⟨ns[i], t, List.getElem?_eq_getElem hi, ?_⟩
    rw [e, List.getD_eq_getElem?_getD, List.getElem?_eq_getElem hi]
    rfl
  refine set_update_ints (P := P) (w := w) ((Walks.list (A := B.in1.in1) hh _ l ne1 its).toS) (n0 s) off ns hisz hb item (its.size - 0) 0 _ (by omega) (Nat.zero_le _) ⟨⟨_, Heap.get?_push_size _ rfl, rfl, rfl⟩, hl1.push _⟩ ?hA ?hB
  case hA =>
    refine ⟨0, Nat.le_refl 0, setR_new_at (Heap.get?_push_of_some _ hS)⟩
  case hB =>
    intro z c hm hc hz
    obtain ⟨hz', gz, dz, tz, oz⟩ := z
    have e1 : gz = s.gens := hm.gens
    have e2 : dz = s.drawn := hm.drawn
    have e3 : oz = s.os := hm.os
    subst e1 e2 e3
    refine wpAny_pure ?_
    show wpAny _ _ (ret Value.none) _ _ _
    rw [hisz] at hc
    refine wpAny_pure ⟨.none, rfl, rfl, hz', tz, c, rfl, hz, hc, fun b o e => ?_⟩
    have lb : b < n0 s := Heap.lt_size e
    refine hm.heap b o (fun m => ?_) (Heap.get?_push_of_some _ (Heap.get?_push_of_some _ e))
    rcases List.mem_cons.mp m with m | m
    · exact absurd m (Nat.ne_of_lt lb)
    · have m' := List.mem_singleton.mp m
      rw [sz1] at m'
      exact absurd m' (Nat.ne_of_lt (Nat.lt_succ_of_lt lb))
theorem set_of_list {l : Addr} {its : Array Value} {ns : List Int} {Q : Value → Shared → Prop} (hh : A.handled = none) (hl : s.heap.IsList l its) (hit : IntsAre its.toList ns) (hb : ns.length + 1 < scanBound)
    (hQ : ∀ (h' : Heap) (tk c : Nat), SetR w h' (n0 s) (fun j => decide (j ∈ ns)) c → c ≤ ns.length → (∀ b o, s.heap.get? b = some o → h'.get? b = some o) → Q (.ref (n0 s)) { s with heap := h', toks := tk }) :
    wpAny (model P w) A (call (.type "set") [.ref l]) Q E s := by
  obtain ⟨c0, tl0, m1⟩ := F.called_set.mro
  have m2 := F.called_set.made
  have m3 := F.called_set.sub
  have m4 := F.called_set.notType
  have m5 := F.called_set.canCreate
  have m6 := F.typeCall_set_1 (.ref l)
  refine wpAny_call (codeAny_of_tree ?_)
  show wpAny _ _ (callAny (.type "set") _) _ _ _
  refine wpAny_pure ⟨Code.quiet_builtin _ (by decide +kernel), codeAny_builtin F.entry_type_call ?_⟩
  rw [Around.under_plain (weight_type_call_type "set" [.ref l] []) rfl]
  repeat (any_goals (first | assumption | wp_step))
  refine codeAny_mono (code_set_led1 (.ref l) (E := E) (Q₁ := fun v z => v = .ref (n0 s) ∧ z = { s with heap := hp1 w s }) ⟨rfl, rfl⟩) fun r z hr => ?_
  match r, hr with
  | .error e, hr => exact hr
  | .ok .next, hr => exact hr.elim
  | .ok .brk, hr => exact hr.elim
  | .ok .cont, hr => exact hr.elim
  | .ok (.ret v), hr =>
    obtain ⟨ev, ez⟩ := hr
    subst ev ez
    have hS : (hp1 w s).get? (n0 s) = some (so0 w) := Heap.get?_push_size _ rfl
    have hT : Shared.TypeIs { s with heap := hp1 w s } (.ref (n0 s)) "set" := ⟨_, hS, rfl⟩
    have m7 := F.called_set.init.lookup
    have m8 := F.called_set.init.bind (.ref (n0 s))
    repeat (any_goals (first | assumption | wp_step))
    refine codeAny_mono (codeAny_call_builtin (R := wants (Filled w s ns) E) F.called_set.init.plain F.entry_set_init (check_set_init_1 hT ?_)) fun r2 z2 hr2 => ?_
    · refine wpAny_mono (set_fill hh hl hit hb) (fun f z' hf => ?_) fun _ _ h => h
      obtain ⟨u, ef, hu⟩ := hf
      subst ef
      exact hu
    · match r2, hr2 with
      | .error e, hr2 => exact hr2
      | .ok .next, hr2 => exact hr2.elim
      | .ok .brk, hr2 => exact hr2.elim
      | .ok .cont, hr2 => exact hr2.elim
      | .ok (.ret u), hr2 =>
        obtain ⟨eu, h', tk, c, ez, g1, g2, g3⟩ := hr2
        subst eu ez
        repeat (any_goals (first | assumption | wp_step))
        exact hQ h' tk c g1 g2 g3
end
section
variable {X : Cx} {W : WX}
/-- set(xs), xs a list of ints -/
def rSetI (K : PySem.W.Frag) (w : World) : List V → Hp → VK → Prop := fun vs H Q => ∃ (l : Addr) (ns : List Int), vs = [.ref l] ∧ SqL K H l (ns.map V.int) ∧ ns.length ≤ 1000 ∧ ∀ p c, H p = none → c ≤ ns.length → Q (.ref p) (upd H p (SetO w p (fun j => decide (j ∈ ns)) c))
theorem ints_vals : ∀ {ns : List Int} {us : List Value}, Vals (ns.map V.int) us → IntsAre us ns
  | [], _, .nil => .nil
  | n :: ns, _, .cons r t => by
    obtain ⟨k, rfl⟩ := r
    exact .cons n k (ints_vals t)
theorem cr_setI (hc : X.calm = true) : CallR X (.type "set") (rSetI X.K X.w) := by
  intro pins s σ H vs us Q I r h
  obtain ⟨l, ns, rfl, hq, hl, q⟩ := h
  rw [Vals.ref1 r]
  obtain ⟨its, rv, pl, hz⟩ := I.list hq
  refine set_of_list (I.ok.hd hc) pl.isList (by simpa using ints_vals rv) (by unfold scanBound; omega) fun h' tk c R hcl hk => ?_
  exact ⟨.ref (n0 s), _, I.laid (t' := tk) hk (Nat.le_refl _) (setO_new R), rfl, q _ c (I.hok.fresh (Nat.le_refl _)) hcl⟩
/-- sorted(set(xs)), fewer than 64 of them -/
def wSortSet (wa : WE) : WE := fun R δ μ P => wa R δ μ fun d μ1 => ∃ ns : List Int, isTup d = false ∧ itemsOf μ1 d = some (ns.map D.int) ∧ ns.length < 64 ∧ ∀ ms : List Int, ms.Pairwise (· < ·) → (∀ k, k ∈ ms ↔ k ∈ ns) → P (.ref μ1.length) (μ1 ++ [.lst (ms.map D.int)])
theorem q_sortSet {a : Expr} {wa : WE} {p p2 q pos : Pos} (hc : X.calm = true) (hg : Gl X "sorted") (hm : X.mg "sorted" = none) (hg2 : Gl X "set") (hm2 : X.mg "set" = none) (hv : bootBuiltins "sorted" = some (.builtin "sorted")) (hv2 : bootBuiltins "set" = some (.type "set")) (ha : QE X W a wa)
    (na : starEach [a] X.env = (false, eval a X.env) :: starEach [] X.env := by rfl) (nb : (backTo q (starEach [] X.env)).any (·.1) = false := by rfl)
    (nc : starEach [.Call (.Name "set" p2) [a] [] q] X.env = (false, eval (.Call (.Name "set" p2) [a] [] q) X.env) :: starEach [] X.env := by rfl) (nd : (backTo pos (starEach [] X.env)).any (·.1) = false := by rfl) :
    QE X W (.Call (.Name "sorted" p) [.Call (.Name "set" p2) [a] [] q] [] pos) (wSortSet wa) := by
  obtain ⟨t, a1, a2⟩ := ha
  refine ⟨_, pe_callB (cr_sortedSet hc) hg hm hv (pa_cons (pe_callTy (cr_setI hc) hg2 hm2 hv2 (pa_cons a1 pa_nil na) (by decide) (by decide) na nb) pa_nil nc) (by decide) (by decide) nc nd, fun R ι μ δ σ H P Q c h k => ?_⟩
  refine a2 R ι μ δ σ H _ _ c h fun v d ι1 μ1 H1 s1 r1 i1 q1 => ?_
  obtain ⟨ns, ht, hi, hl, q⟩ := q1
  obtain ⟨l, ys, ev, hq, hy⟩ := items_seq r1 i1 hi
  rw [ht] at hq
  have ey := vals_ints hy
  subst ey
  refine ⟨l, ns, by rw [ev], hq, by omega, fun b n hb hn => ?_⟩
  refine ⟨b, _, n, rfl, upd_same, by omega, fun ms b2 hs hmem _ hb2 => ?_⟩
  have s2 : Stp ι1 H1 ι1 (upd H1 b (SetO X.w b (fun j => decide (j ∈ ns)) n)) := Stp.new hb
  have r2 : Rel X.K ι1 μ1 (upd H1 b (SetO X.w b (fun j => decide (j ∈ ns)) n)) := r1.new hb
  exact (k.stp s1) (.ref b2) (.ref μ1.length) (ι1 ++ [b2]) _ _ (s2.trans (Stp.push hb2)) (r2.pushLst hb2 (isAll_ints ms)) (is_pushed r2) (q ms hs fun j => (hmem j).trans decide_eq_true_iff)
/-- & -/
def wBand : WO := wI0 fun i j => .int (Builtin.bitAnd i j)
theorem qo_band : QO X (binaryOp .BitAnd) wBand := ⟨_, op_and, ro_I0⟩
/-- any of a list of truth values -/
def wAny : WB := fun ds μ P => match ds with
  | [.ref k] => ∃ bs : List Bool, lstAt μ k = some (bs.map D.bl) ∧ P (.bl (bs.any _root_.id)) μ
  | _ => False
theorem qb_any (hc : X.calm = true) : QB X (.builtin "any") wAny := ⟨_, cr_any hc, fun ι μ H vs ds P Q r i h k => by
  unfold wAny at h
  split at h
  · obtain ⟨bs, el, q⟩ := h
    obtain ⟨v, e1, iv⟩ := isAll1 i
    obtain ⟨a, ys, f1, f2, t⟩ := r.lst el
    obtain ⟨a', ea, ev⟩ := iv
    rw [f1] at ea
    cases ea
    subst ev
    have ey := isAll_bls t
    subst ey
    exact ⟨a, bs, e1, SqL.of f2, k.at r (d := .bl _) rfl q⟩
  · exact h.elim⟩
/-- tuple of a list, of a tuple -/
def wTupOf : WB := fun ds μ P => match ds with
  | [d] => ∃ xs, itemsOf μ d = some xs ∧ P (.tup xs) μ
  | _ => False
theorem qb_tuple : QB X (.type "tuple") wTupOf := ⟨_, call_tuple_of, fun ι μ H vs ds P Q r i h k => by
  unfold wTupOf at h
  split at h
  · rename_i d
    obtain ⟨xs, el, q⟩ := h
    obtain ⟨v, e1, iv⟩ := isAll1 i
    obtain ⟨a, ys, ev, hq, ht⟩ := items_seq r iv el
    subst ev
    refine ⟨a, ys, e1, ?_⟩
    cases hk : isTup d with
    | true =>
      rw [hk] at hq
      exact .inr ⟨hq, k.at r (d := .tup xs) ⟨a, ys, rfl, hq, ht⟩ q⟩
    | false =>
      rw [hk] at hq
      refine .inl ⟨hq, fun pn hp => ?_⟩
      exact k (.ref pn) (.tup xs) ι μ _ (Stp.new hp) (r.new hp) ⟨pn, ys, rfl, SqT.of upd_same, IsAll.stp (Stp.new hp) _ _ ht⟩ q
  · exact h.elim⟩
/-- list of a list, of a tuple; sorted ints -/
def wSortI : WB := fun ds μ P => match ds with
  | [d] => ∃ ns : List Int, isTup d = false ∧ itemsOf μ d = some (ns.map D.int) ∧ ∀ ms : List Int, ms.Perm ns → ms.Pairwise (· ≤ ·) → P (.ref μ.length) (μ ++ [.lst (ms.map D.int)])
  | _ => False
theorem qb_sorted : QB X (.builtin "sorted") wSortI := ⟨_, cr_sortedI, fun ι μ H vs ds P Q r i h k => by
  unfold wSortI at h
  split at h
  · rename_i d
    obtain ⟨ns, hk, el, q⟩ := h
    obtain ⟨v, e1, iv⟩ := isAll1 i
    obtain ⟨a, ys, ev, hq, ht⟩ := items_seq r iv el
    rw [hk] at hq
    subst ev
    have ey := vals_ints ht
    subst ey
    refine ⟨a, ns, e1, hq, fun ms pn h1 h2 hp => ?_⟩
    exact k (.ref pn) (.ref μ.length) (ι ++ [pn]) _ _ (Stp.push hp) (r.pushLst hp (isAll_ints ms)) (is_pushed r) (q ms h1 h2)
  · exact h.elim⟩
end
/-! ### the lowest bit -/
theorem low_bit : ∀ (n : Nat), 0 < n → ∃ k m : Nat, n = 2 ^ k * (2 * m + 1) ∧ n - (n &&& (n - 1)) = 2 ^ k := by
  intro n
  induction n using Nat.strongRecOn with
  | _ n ih =>
    intro hn
    by_cases ho : n % 2 = 1
    · refine ⟨0, n / 2, by omega, ?_⟩
      have h1 : (n &&& (n - 1)) % 2 = 0 := by
        have h : (n &&& (n - 1)) % 2 ≠ 1 := fun z => by
          have := (Nat.and_mod_two_eq_one.mp z).2
          omega
        omega
      have h2 : (n &&& (n - 1)) / 2 = n / 2 := by
        rw [Nat.and_div_two, show (n - 1) / 2 = n / 2 by omega, Nat.and_self]
      rw [Nat.pow_zero]
      omega
    · obtain ⟨k, m, e1, e2⟩ := ih (n / 2) (by omega) (by omega)
      refine ⟨k + 1, m, ?_, ?_⟩
      · rw [Nat.pow_succ, Nat.mul_comm (2 ^ k) 2, Nat.mul_assoc, ← e1]
        omega
      · have h1 : (n &&& (n - 1)) % 2 = 0 := by
          have h : (n &&& (n - 1)) % 2 ≠ 1 := fun z => by
            have := (Nat.and_mod_two_eq_one.mp z).1
            omega
          omega
        have h2 : (n &&& (n - 1)) / 2 = n / 2 &&& (n / 2 - 1) := by
          rw [Nat.and_div_two, show (n - 1) / 2 = n / 2 - 1 by omega]
        have h3 : (n / 2 &&& (n / 2 - 1)) ≤ n / 2 := Nat.and_le_left
        rw [Nat.pow_succ]
        omega
theorem band_neg {n : Nat} (hn : 0 < n) : ∃ k m : Nat, n = 2 ^ k * (2 * m + 1) ∧ Builtin.bitAnd (n : Int) (-(n : Int)) = ((2 ^ k : Nat) : Int) := by
  obtain ⟨k, m, e1, e2⟩ := low_bit n hn
  refine ⟨k, m, e1, ?_⟩
  rw [PyProof.Rows.bitAnd_pn (by omega) (by omega)]
  have e3 : (Builtin.bitNot (-(n : Int))).toNat = n - 1 := by
    show (-(-(n : Int)) - 1).toNat = n - 1
    omega
  rw [e3, Int.toNat_natCast, ← e2]
  have h3 : (n &&& (n - 1)) ≤ n := Nat.and_le_left
  omega
/-! ### statements of their own: y = [..]; x, y, z = a, b, c -/
section
variable {X : Cx} {W : WX} {pos p spos : Pos} {elt iter : Expr} {ifs : List Expr} {scope : Scope} {x : Str} {i : Nat} {wt : WT} {we : WE}
theorem qs_setLcR {k : Nat} {y : Str} {py : Pos} {a : Expr} {pr px : Pos} {wa : WA} (hc : X.calm = true) (hN : X.N.Nodup) (hgl : Gl X "range") (hm : X.mg "range" = none) (ha : QA X W [a] wa) (ok : BlkOk X.N X.env.scope scope [(x, i)])
    (hg : ∀ (s : Shared) (H : Hp) (C : Addr) (cl : List (Str × Addr)) (fp : List Addr), PG (X.blk s H scope (compEnvC scope cl C X.env) fp) (.Name x px) (gName i))
    (ht : ∀ (s : Shared) (H : Hp) (C : Addr) (cl : List (Str × Addr)) (fp : List Addr), QTs (X.blk s H scope (compEnvC scope cl C X.env) fp) W0 ifs wt)
    (he : ∀ (s : Shared) (H : Hp) (C : Addr) (cl : List (Str × Addr)) (fp : List Addr), QE (X.blk s H scope (compEnvC scope cl C X.env) fp) W0 elt we)
    (hy : X.N[k]? = some y) (hyl : X.env.scope.names.lookup y = some .local)
    (hsw : swapsWith (.ListComp elt [⟨.Name x px, .Call (.Name "range" pr) [a] [] p, ifs, 0⟩] scope pos) (some (.Name y py)) spos.line X.env = pure true)
    (hst : starEach [a] X.env = [(false, eval a X.env)] := by rfl) (hs : ∀ z, foldedSetIterable (.Call (.Name "range" pr) [a] [] p) X.env z = pure z := by intro _; rfl) :
    QS X W (.Assign [.Name y py] (.ListComp elt [⟨.Name x px, .Call (.Name "range" pr) [a] [] p, ifs, 0⟩] scope pos) spos) (wAsg (wLcR i wa wt we) (wgName k)) := by
  obtain ⟨ta, a1, a2⟩ := ha
  exact ⟨_, ps_setLc (own := [(x, i)]) hc hN hy hyl hsw (pi_range1 hgl hm a1 hst) ok hg (fun s H C cl fp => QTs.canon (ht s H C cl fp)) (fun s H C cl fp => QE.canon (he s H C cl fp)) hs, rs_asg (re_lcR a2 rt_rd re_rd) (rg_name k)⟩
theorem qs_setLcL {k : Nat} {y : Str} {py px : Pos} {wl : WE} (hc : X.calm = true) (hN : X.N.Nodup) (hi : QE X W iter wl) (ok : BlkOk X.N X.env.scope scope [(x, i)])
    (hg : ∀ (s : Shared) (H : Hp) (C : Addr) (cl : List (Str × Addr)) (fp : List Addr), PG (X.blk s H scope (compEnvC scope cl C X.env) fp) (.Name x px) (gName i))
    (ht : ∀ (s : Shared) (H : Hp) (C : Addr) (cl : List (Str × Addr)) (fp : List Addr), QTs (X.blk s H scope (compEnvC scope cl C X.env) fp) W0 ifs wt)
    (he : ∀ (s : Shared) (H : Hp) (C : Addr) (cl : List (Str × Addr)) (fp : List Addr), QE (X.blk s H scope (compEnvC scope cl C X.env) fp) W0 elt we)
    (hy : X.N[k]? = some y) (hyl : X.env.scope.names.lookup y = some .local)
    (hsw : swapsWith (.ListComp elt [⟨.Name x px, iter, ifs, 0⟩] scope pos) (some (.Name y py)) spos.line X.env = pure true)
    (hs : ∀ z, foldedSetIterable iter X.env z = pure z := by intro _; rfl) :
    QS X W (.Assign [.Name y py] (.ListComp elt [⟨.Name x px, iter, ifs, 0⟩] scope pos) spos) (wAsg (wLcL i wl wt we) (wgName k)) := by
  obtain ⟨tl, l1, l2⟩ := hi
  exact ⟨_, ps_setLc (own := [(x, i)]) hc hN hy hyl hsw (pi_any l1) ok hg (fun s H C cl fp => QTs.canon (ht s H C cl fp)) (fun s H C cl fp => QE.canon (he s H C cl fp)) hs, rs_asg (re_lcL l2 rt_rd re_rd) (rg_name k)⟩
def wPar3 (i j l : Nat) (wa : WA) : WS := fun R E δ μ => wa R δ μ fun ds μ1 => match ds with
  | [d, f, g] => E.nx (put (put (put δ i (some d)) j (some f)) l (some g)) μ1
  | _ => False
theorem qs_par3 {i j l : Nat} {x y z : Str} {a b c : Expr} {wa : WA} {px py pz pt : Pos} {kt k2 pt2} (hc : X.calm = true) (hN : X.N.Nodup) (hi : X.N[i]? = some x) (hj : X.N[j]? = some y) (hl : X.N[l]? = some z) (hij : i ≠ j) (hil : i ≠ l) (hjl : j ≠ l)
    (hx : X.env.scope.names.lookup x = some .local) (hy : X.env.scope.names.lookup y = some .local) (hz : X.env.scope.names.lookup z = some .local) (ha : QA X W [a, b, c] wa)
    (hw : swappedStores [.Tuple [.Name x px, .Name y py, .Name z pz] kt pt] (.Tuple [a, b, c] k2 pt2) X.env = pure (some [x, y, z]))
    (hs : swapsWithSole [.Tuple [.Name x px, .Name y py, .Name z pz] kt pt] (.Tuple [a, b, c] k2 pt2) pos.line X.env = pure false := by rfl) :
    QS X W (.Assign [.Tuple [.Name x px, .Name y py, .Name z pz] kt pt] (.Tuple [a, b, c] k2 pt2) pos) (wPar3 i j l wa) := by
  obtain ⟨t, a1, a2⟩ := ha
  refine ⟨_, ps_par3 hc hN hi hj hl hij hil hjl hx hy hz a1 hw hs, fun R ι μ δ σ H E D cn h lk => a2 R ι μ δ σ H _ _ cn h fun vs ds ι1 μ1 H1 s1 r1 i1 q1 => ?_⟩
  unfold wPar3 at h
  match ds, i1, q1 with
  | [d, f, g], i1, q1 =>
    obtain ⟨v, u, w, e1, iv, iu, iw⟩ := isAll3 i1
    exact ⟨v, u, w, e1, lk.nx ι1 μ1 H1 _ _ s1 r1 ((((cn.env.stp s1).put iv).put iu).put iw) q1⟩
  | [], _, q1 => exact q1.elim
  | [_], _, q1 => exact q1.elim
  | [_, _], _, q1 => exact q1.elim
  | _ :: _ :: _ :: _ :: _, _, q1 => exact q1.elim
end
end HD
/-! HD12: comprehensions over range(a, b); max and min of lists and tuples. -/
namespace HD
open PySem PySem.Spec PyProof.Rows L2
section
variable {X : Cx} {W : WX} {pos p spos : Pos} {elt iter : Expr} {ifs : List Expr} {scope : Scope} {x : Str} {i : Nat} {wt : WT} {we : WE}
def wLcR2 (i : Nat) (wa : WA) (wt : WT) (we : WE) : WE := fun R δ μ P => wa R δ μ fun ds μ1 => ints2 (fun a b => (R62 a ∧ R62 b) ∧ lcAll i wt we δ (b - a).toNat (fun m => .int (a + m)) (fun _ => True) μ1 P) ds
theorem re_lcR2 {K : PySem.W.Frag} {ta : TA} {tt : TT} {te : TE} {wa : WA} (a2 : RA K W ta wa) (t2 : RT K W0 tt wt) (e2 : RE K W0 te we) : RE K W (tLc (iRng2 ta) (gName i) tt te [i]) (wLcR2 i wa wt we) := by
  refine fun R ι μ δ σ H P Q c h kt => a2 R ι μ δ σ H _ _ c h fun vs ds ι1 μ1 H1 s1 r1 i1 q1 => ?_
  obtain ⟨lo, hi, ed, hj, Pv, h0, hturn, hd⟩ := ints2_of q1
  subst ed
  obtain ⟨v, u, ev, iv, iu⟩ := isAll2 i1
  have iv' : v = .int lo := iv
  have iu' : u = .int hi := iu
  subst iv' iu'
  refine ⟨lo, hi, ev, ⟨hj.1.1, hj.1.2, hj.2.1, hj.2.2⟩, fun Dd hD => ?_⟩
  have rel0 : Rel K (ι1 ++ [Dd]) (μ1 ++ [.lst []]) (upd H1 Dd (.lst [])) := r1.pushLst (ds := []) hD rfl
  have kD : (ι1 ++ [Dd])[μ1.length]? = some Dd := by
    rw [← r1.len, List.getElem?_append_right (Nat.le_refl _), Nat.sub_self]
    rfl
  refine lc_range (lo := lo) (n := (hi - lo).toNat) (fun m H' => ∃ ι' μ' acc, Stp (ι1 ++ [Dd]) (upd H1 Dd (.lst [])) ι' H' ∧ Rel K ι' μ' H' ∧ cell μ' μ1.length = some (.lst acc) ∧ Pv m acc μ')
    ⟨ι1 ++ [Dd], _, [], Stp.refl _ _, rel0, cell_new μ1 _ [], h0⟩ (fun m H' hm z => ?_) fun H' z => ?_
  · obtain ⟨ι', μ', acc, s', r', hc', hp⟩ := z
    have full := (s1.trans (Stp.push (o := .lst []) hD)).trans s'
    refine lc_turn t2 e2 r' (c.env.stp full) (x := .int (lo + m)) rfl (s'.ext _ _ kD) (hturn m acc μ' hm hc' hp).2 fun acc' ι2 μ2 H2 s2 r2 hc2 hn => ?_
    exact ⟨ι2, μ2, acc', s'.trans s2, r2, hc2, hn⟩
  · obtain ⟨ι', μ', acc, s', r', hc', hp⟩ := z
    exact kt (.ref Dd) (.ref μ1.length) ι' μ' H' ((s1.trans (Stp.push (o := .lst []) hD)).trans s') r' ⟨Dd, s'.ext _ _ kD, rfl⟩ (hd acc μ' hc' hp).2
theorem qe_lcR2 {a b : Expr} {pr px : Pos} {wa : WA} (hc : X.calm = true) (hN : X.N.Nodup) (hgl : Gl X "range") (hm : X.mg "range" = none) (ha : QA X W [a, b] wa) (ok : BlkOk X.N X.env.scope scope [(x, i)])
    (hg : ∀ (s : Shared) (H : Hp) (C : Addr) (cl : List (Str × Addr)) (fp : List Addr), PG (X.blk s H scope (compEnvC scope cl C X.env) fp) (.Name x px) (gName i))
    (ht : ∀ (s : Shared) (H : Hp) (C : Addr) (cl : List (Str × Addr)) (fp : List Addr), QTs (X.blk s H scope (compEnvC scope cl C X.env) fp) W0 ifs wt)
    (he : ∀ (s : Shared) (H : Hp) (C : Addr) (cl : List (Str × Addr)) (fp : List Addr), QE (X.blk s H scope (compEnvC scope cl C X.env) fp) W0 elt we)
    (hst : starEach [a, b] X.env = [(false, eval a X.env), (false, eval b X.env)] := by rfl) (hs2 : starEach [b] X.env = [(false, eval b X.env)] := by rfl) (hs : ∀ z, foldedSetIterable (.Call (.Name "range" pr) [a, b] [] p) X.env z = pure z := by intro _; rfl) :
    QE X W (.ListComp elt [⟨.Name x px, .Call (.Name "range" pr) [a, b] [] p, ifs, 0⟩] scope pos) (wLcR2 i wa wt we) := by
  obtain ⟨ta, a1, a2⟩ := ha
  exact ⟨_, pe_lc (own := [(x, i)]) hc hN (pi_range2 hgl hm a1 hst hs2) ok hg (fun s H C cl fp => QTs.canon (ht s H C cl fp)) (fun s H C cl fp => QE.canon (he s H C cl fp)) hs, re_lcR2 a2 rt_rd re_rd⟩
theorem qs_setLcR2 {k : Nat} {y : Str} {py : Pos} {a b : Expr} {pr px : Pos} {wa : WA} (hc : X.calm = true) (hN : X.N.Nodup) (hgl : Gl X "range") (hm : X.mg "range" = none) (ha : QA X W [a, b] wa) (ok : BlkOk X.N X.env.scope scope [(x, i)])
    (hg : ∀ (s : Shared) (H : Hp) (C : Addr) (cl : List (Str × Addr)) (fp : List Addr), PG (X.blk s H scope (compEnvC scope cl C X.env) fp) (.Name x px) (gName i))
    (ht : ∀ (s : Shared) (H : Hp) (C : Addr) (cl : List (Str × Addr)) (fp : List Addr), QTs (X.blk s H scope (compEnvC scope cl C X.env) fp) W0 ifs wt)
    (he : ∀ (s : Shared) (H : Hp) (C : Addr) (cl : List (Str × Addr)) (fp : List Addr), QE (X.blk s H scope (compEnvC scope cl C X.env) fp) W0 elt we)
    (hy : X.N[k]? = some y) (hyl : X.env.scope.names.lookup y = some .local)
    (hsw : swapsWith (.ListComp elt [⟨.Name x px, .Call (.Name "range" pr) [a, b] [] p, ifs, 0⟩] scope pos) (some (.Name y py)) spos.line X.env = pure true)
    (hst : starEach [a, b] X.env = [(false, eval a X.env), (false, eval b X.env)] := by rfl) (hs2 : starEach [b] X.env = [(false, eval b X.env)] := by rfl) (hs : ∀ z, foldedSetIterable (.Call (.Name "range" pr) [a, b] [] p) X.env z = pure z := by intro _; rfl) :
    QS X W (.Assign [.Name y py] (.ListComp elt [⟨.Name x px, .Call (.Name "range" pr) [a, b] [] p, ifs, 0⟩] scope pos) spos) (wAsg (wLcR2 i wa wt we) (wgName k)) := by
  obtain ⟨ta, a1, a2⟩ := ha
  exact ⟨_, ps_setLc (own := [(x, i)]) hc hN hy hyl hsw (pi_range2 hgl hm a1 hst hs2) ok hg (fun s H C cl fp => QTs.canon (ht s H C cl fp)) (fun s H C cl fp => QE.canon (he s H C cl fp)) hs, rs_asg (re_lcR2 a2 rt_rd re_rd) (rg_name k)⟩
/-! max of a tuple of ints -/
theorem max_tup {prog : Program} {w : World} {A : Around} {E : Value → Shared → Prop} {s : Shared} {l : Addr} {its : List Value} {ns : List Int} {Q : Value → Shared → Prop} (hh : A.handled = none) (hl : s.heap.IsTuple l its.toArray) (hi : IntsAre its ns) (hne : 0 < ns.length)
    (h : ∀ h' tk M t', (∀ b o, s.heap.get? b = some o → h'.get? b = some o) → M ∈ ns → (∀ a, a ∈ ns → a ≤ M) → Q (.int M t') { s with heap := h', toks := tk }) : wpAny (model prog w) A (call (.builtin "max") [.ref l]) Q E s := by
  obtain ⟨xs, e⟩ := hi.allInts.items
  have hn : numsOf (intItems xs).toList = ns := by
    rw [← e]
    exact hi.numsOf
  rw [nums_intItems] at hn
  subst hn
  rw [e] at hl
  have hsz : 0 < xs.size := by simpa using hne
  have hlt : l < s.heap.objs.size := by
    obtain ⟨_, eo, _⟩ := hl
    exact Heap.lt_size eo
  refine call_max_walk (wpAny_pyIter_tuple hl ?_)
  refine ⟨_, _, _, _, _, _, _, rfl, Walks.tuple (A := A.in1) hh _ l (Nat.ne_of_lt hlt) (intItems xs), ⟨⟨_, Heap.get?_push_size _ rfl, rfl, rfl⟩, hl.push _⟩, fun b hb => ?_, by simpa [intItems] using hsz, CmpOf.ints_gt (numAt xs) (fun _ _ => intItems_at), fun v h' tk hP hk => ?_⟩
  · show b < (s.heap.push _).objs.size
    rw [Heap.size_push]
    rcases List.mem_cons.mp hb with z | hb
    · rw [z]
      exact Nat.lt_succ_self _
    · rw [List.mem_singleton.mp hb]
      exact Nat.lt_succ_of_lt hlt
  · have hv : (intItems xs)[argBest (fun i j => decide (numAt xs i > numAt xs j)) (xs.size - 1)]? = some v := by simpa [intItems] using hP
    obtain ⟨t, rfl⟩ := intItems_at hv
    obtain ⟨h1, h2⟩ := argBest_gt (numAt xs) (xs.size - 1)
    refine h h' tk _ t (fun b o eo => hk b o (fun m => ?_) (Heap.get?_push_of_some _ eo)) ?_ fun a ha => ?_
    · have := List.mem_singleton.mp m
      exact absurd (this ▸ Heap.lt_size eo) (Nat.lt_irrefl _)
    · rw [numAt_eq]
      exact PySem.getD_mem (by rw [List.length_map, Array.length_toList]; omega)
    · obtain ⟨j, hj, rfl⟩ := mem_getD ha
      rw [List.length_map, Array.length_toList] at hj
      rw [← numAt_eq]
      exact h2 j (by omega)
def rMaxA (K : PySem.W.Frag) : List V → Hp → VK → Prop := fun vs H Q => ∃ (a : Addr) (k : Bool) (ns : List Int), vs = [V.ref a] ∧ Sq K k H a (ns.map V.int) ∧ 0 < ns.length ∧ ∀ m, m ∈ ns → (∀ y, y ∈ ns → y ≤ m) → Q (.int m) H
theorem cr_maxA (hc : X.calm = true) : CallR X (.builtin "max") (rMaxA X.K) := by
  intro pins s σ H vs us Q I r h
  obtain ⟨a, k, ns, rfl, hs, hne, q⟩ := h
  cases k with
  | false => exact cr_max hc pins s σ H _ us Q I r ⟨a, ns, rfl, hs, hne, q⟩
  | true =>
    obtain ⟨its, rv, hl, _⟩ := I.tuple hs
    rw [Vals.ref1 r]
    exact max_tup (I.ok.hd hc) hl rv.ints hne fun h' tk m t' hk h1 h2 => ⟨.int _, H, I.kept hk, ⟨_, rfl⟩, q m h1 h2⟩
def wMaxL : WB := fun ds μ P => match ds with
  | [d] => ∃ ns : List Int, itemsOf μ d = some (ns.map D.int) ∧ 0 < ns.length ∧ ∀ m, m ∈ ns → (∀ y, y ∈ ns → y ≤ m) → P (.int m) μ
  | _ => False
theorem qb_maxL (hc : X.calm = true) : QB X (.builtin "max") wMaxL := ⟨_, cr_maxA hc, fun ι μ H vs ds P Q r i h k => by
  unfold wMaxL at h
  split at h
  · rename_i d
    obtain ⟨ns, el, hne, q⟩ := h
    obtain ⟨v, e1, iv⟩ := isAll1 i
    obtain ⟨a, ys, ev, hq, ht⟩ := items_seq r iv el
    subst ev
    have ey := vals_ints ht
    subst ey
    exact ⟨a, _, ns, e1, hq, hne, fun m h1 h2 => k.at r (d := .int m) rfl (q m h1 h2)⟩
  · exact h.elim⟩
end
end HD
/-! HD13: comprehensions whose target is a tuple of names. -/
namespace HD
open PySem PySem.Spec PyProof.Rows L2
def puts : En → List Nat → List D → En
  | δ, i :: is, d :: ds => puts (put δ i (some d)) is ds
  | δ, _, _ => δ
def sets : L2.St → List Nat → List V → L2.St
  | σ, i :: is, v :: vs => sets (σ.set i (some v)) is vs
  | σ, _, _ => σ
def gNames : List Nat → TGs
  | [] => gNil
  | i :: is => gCons (gName i) (gNames is)
theorem gNames_ok : ∀ (is : List Nat) (vs : List V) (σ : L2.St) (H : Hp) (Q : L2.St → Hp → Prop), vs.length = is.length → Q (sets σ is vs) H → gNames is vs σ H Q
  | [], [], σ, H, Q, _, h => ⟨rfl, h⟩
  | i :: is, v :: vs, σ, H, Q, l, h => ⟨v, vs, rfl, gNames_ok is vs (σ.set i (some v)) H Q (by simpa using l) h⟩
theorem wipe_at (σ : L2.St) (j : Nat) : ∀ vs : List Nat, (wipe σ vs)[j]? = if j ∈ vs then (σ[j]?).map (fun _ => none) else σ[j]?
  | [] => by simp [wipe]
  | v :: vs => by
    show ((wipe σ vs).set v none)[j]? = _
    rw [List.getElem?_set]
    by_cases e : v = j
    · subst e
      simp only [if_true, List.mem_cons, true_or, wipe_length]
      by_cases l : v < σ.length
      · simp [l]
      · simp [l, List.getElem?_eq_none (Nat.le_of_not_lt l)]
    · rw [if_neg e, wipe_at σ j vs]
      have : (j ∈ v :: vs) ↔ j ∈ vs := by
        simp [List.mem_cons, Ne.symm e]
      simp only [this]
theorem wipe_set {σ : L2.St} {i : Nat} {x : Option V} {vs : List Nat} (h : i ∈ vs) : wipe (σ.set i x) vs = wipe σ vs := by
  apply List.ext_getElem?
  intro j
  rw [wipe_at, wipe_at, List.getElem?_set]
  by_cases e : i = j
  · subst e
    simp only [h, if_true]
    by_cases l : i < σ.length
    · simp [l]
    · simp [l, List.getElem?_eq_none (Nat.le_of_not_lt l)]
  · rw [if_neg e]
theorem wipe_wipe (σ : L2.St) (vs : List Nat) : wipe (wipe σ vs) vs = wipe σ vs := by
  apply List.ext_getElem?
  intro j
  rw [wipe_at, wipe_at]
  by_cases h : j ∈ vs
  · simp only [h, if_true, Option.map_map]
    cases σ[j]? <;> rfl
  · simp only [h, if_false]
theorem wipe_sets : ∀ {is : List Nat} {vs : List V} {σ : L2.St} {own : List Nat}, (∀ i ∈ is, i ∈ own) → wipe (sets σ is vs) own = wipe σ own
  | [], _, σ, own, _ => by simp [sets]
  | i :: is, [], σ, own, _ => by simp [sets]
  | i :: is, v :: vs, σ, own, h => by
    show wipe (sets (σ.set i (some v)) is vs) own = _
    rw [wipe_sets (fun j hj => h j (List.mem_cons_of_mem _ hj)), wipe_set (h i List.mem_cons_self)]
theorem env_sets {K : PySem.W.Frag} {ι : List Addr} {H : Hp} : ∀ (is : List Nat) (ds : List D) (vs : List V) (δ : En) (σ : L2.St), IsAll K ι H ds vs → ds.length = is.length → δ.length = σ.length →
    (∀ j f, slot δ j = some f → j ∈ is ∨ ∃ v, σ[j]? = some (some v) ∧ Is K ι H f v) → EnvIs K ι H (puts δ is ds) (sets σ is vs)
  | [], ds, vs, δ, σ, _, hl, le, h => ⟨by simpa [puts, sets] using le, fun j f hj => by
    have hj' : slot δ j = some f := by simpa [puts] using hj
    rcases h j f hj' with z | z
    · cases z
    · simpa [sets] using z⟩
  | i :: is, [], vs, δ, σ, _, hl, _, _ => by simp at hl
  | i :: is, d :: ds, vs, δ, σ, ha, hl, le, h => by
    obtain ⟨v, vr, e, iv, ir⟩ := ha
    subst e
    refine env_sets is ds vr (put δ i (some d)) (σ.set i (some v)) ir (by simpa using hl) (by rw [put_length, List.length_set]; exact le) fun j f hj => ?_
    rcases slot_put δ i j (some d) f hj with ⟨rfl, q⟩ | ⟨hne, q⟩
    · cases q
      have hl : j < (put δ j (some d)).length := slot_lt hj
      rw [put_length, le] at hl
      exact .inr ⟨v, List.getElem?_set_self hl, iv⟩
    · rcases h j f q with z | ⟨w, e1, q2⟩
      · rcases List.mem_cons.mp z with z | z
        · exact absurd z (fun e => hne (by rw [e]))
        · exact .inl z
      · exact .inr ⟨w, by rw [List.getElem?_set_ne (Ne.symm hne)]; exact e1, q2⟩
def lcTurnT (is : List Nat) (k : Nat) (wt : WT) (we : WE) (δ : En) (x : D) (acc : List D) (μ : Sto) (N : List D → Sto → Prop) : Prop := match x with
  | .tup ds => ds.length = is.length ∧ wt R0 (puts δ is ds) μ fun b μ2 => match b with
    | true => we R0 (puts δ is ds) μ2 fun d μ3 => (cell μ3 k = some (.lst acc) ∧ acc.length ≤ 100000) ∧ N (acc ++ [d]) (μ3.set k (.lst (acc ++ [d])))
    | false => cell μ2 k = some (.lst acc) ∧ N acc μ2
  | _ => False
def lcAllT (is : List Nat) (wt : WT) (we : WE) (δ : En) (n : Nat) (item : Nat → D) (ok : Sto → Prop) (μ : Sto) (P : D → Sto → Prop) : Prop :=
  ∃ Pv : Nat → List D → Sto → Prop, Pv 0 [] (μ ++ [.lst []]) ∧ (∀ (j : Nat) acc μ', j < n → cell μ' μ.length = some (.lst acc) → Pv j acc μ' → ok μ' ∧ lcTurnT is μ.length wt we δ (item j) acc μ' (Pv (j + 1))) ∧
    ∀ acc μ', cell μ' μ.length = some (.lst acc) → Pv n acc μ' → ok μ' ∧ P (.ref μ.length) μ'
theorem lc_turnT {K : PySem.W.Frag} {tt : TT} {te : TE} {wt : WT} {we : WE} {is own : List Nat} {k n : Nat} (h2 : RT K W0 tt wt) (h3 : RE K W0 te we) (hn : is.length = n) (h1 : ∀ i ∈ is, i ∈ own) (h1' : ∀ i ∈ own, i ∈ is) {ι : List Addr} {μ : Sto} {H : Hp} {δ : En} {σ : L2.St} {x : D} {v : V} {acc : List D} {Dd : Addr} {N : List D → Sto → Prop} {Nx : Hp → Prop}
    (r : Rel K ι μ H) (ev : EnvIs K ι H δ σ) (iv : Is K ι H x v) (hk : ι[k]? = some Dd) (h : lcTurnT is k wt we δ x acc μ N)
    (kn : ∀ acc' ι' μ' H', Stp ι H ι' H' → Rel K ι' μ' H' → cell μ' k = some (.lst acc') → N acc' μ' → Nx H') :
    gTup K n (gNames is) v (wipe σ own) H fun σ2 H2 => wipe σ2 own = wipe σ own ∧ tt σ2 H2 fun b H3 => if b = true then te σ2 H3 fun y H4 => ∃ ac, H4 Dd = some (.lst ac) ∧ ac.length < sizeLine ∧ Nx (upd H4 Dd (.lst (ac ++ [y]))) else Nx H3 := by
  subst hn
  cases x with
  | tup ds =>
    obtain ⟨hl, h⟩ := h
    obtain ⟨a, xs, e, q, ia⟩ := iv
    refine ⟨a, xs, e, q, ia.length.trans hl, gNames_ok _ _ _ _ _ (ia.length.trans hl) ?_⟩
    refine ⟨(wipe_sets h1).trans (wipe_wipe σ own), ?_⟩
    have env : EnvIs K ι H (puts δ is ds) (sets (wipe σ own) is xs) := by
      refine env_sets is ds xs δ _ ia hl (by rw [wipe_length]; exact ev.len) fun j f hj => ?_
      obtain ⟨w, e1, q1⟩ := ev.at_ j f hj
      by_cases m : j ∈ own
      · exact .inl (h1' j m)
      · exact .inr ⟨w, by rw [wipe_at, if_neg m]; exact e1, q1⟩
    refine h2 R0 ι μ _ _ H _ _ ⟨r, env, xl0⟩ h fun b ι1 μ1 H1 s1 r1 q1 => ?_
    cases b with
    | false =>
      rw [if_neg Bool.false_ne_true]
      exact kn acc ι1 μ1 H1 s1 r1 q1.1 q1.2
    | true =>
      rw [if_pos rfl]
      refine h3 R0 ι1 μ1 _ _ H1 _ _ ⟨r1, env.stp s1, xl0⟩ q1 fun y d ι2 μ2 H2 s2 r2 i2 q2 => ?_
      obtain ⟨⟨hc, hz⟩, hn⟩ := q2
      obtain ⟨a, ys, e1, e2, e3⟩ := r2.lst (lstAt_of hc)
      have ed := (s1.trans s2).ext k Dd hk
      rw [e1] at ed
      cases ed
      refine ⟨ys, e2, ?_, ?_⟩
      · rw [e3.length]
        exact Nat.lt_of_le_of_lt hz (by decide)
      · refine kn (acc ++ [d]) ι2 _ _ ((s1.trans s2).trans (Stp.wr e2)) (r2.write hc e1 e2 (e3.app (show IsAll K ι2 H2 [d] [y] from ⟨y, [], rfl, i2, rfl⟩))) (cell_set_same ?_) hn
        exact cell_lt hc
  | _ => exact h.elim
def wLcLT (is : List Nat) (wl : WE) (wt : WT) (we : WE) : WE := fun R δ μ P => wl R δ μ fun d μ1 => ∃ xs, itemsOf μ1 d = some xs ∧ lcAllT is wt we δ xs.length (fun m => xs.getD m .non) (fun μ' => itemsOf μ' d = some xs) μ1 P
section
variable {X : Cx} {W : WX} {pos p spos : Pos} {elt iter : Expr} {ifs : List Expr} {scope : Scope} {own : List (Str × Nat)} {is : List Nat} {n : Nat} {wt : WT} {we : WE}
theorem re_lcLT {K : PySem.W.Frag} {tl : TE} {tt : TT} {te : TE} {wl : WE} {own : List Nat} (l2 : RE K W tl wl) (t2 : RT K W0 tt wt) (e2 : RE K W0 te we) (hn : is.length = n) (h1 : ∀ i ∈ is, i ∈ own) (h1' : ∀ i ∈ own, i ∈ is) :
    RE K W (tLc (iAny K tl) (gTup K n (gNames is)) tt te own) (wLcLT is wl wt we) := by
  refine fun R ι μ δ σ H P Q c h kt => l2 R ι μ δ σ H _ _ c h fun v d ι1 μ1 H1 s1 r1 i1 q1 => ?_
  obtain ⟨xs, ex, Pv, h0, hturn, hd⟩ := q1
  obtain ⟨a, ys, ev, hq, ha⟩ := items_seq r1 i1 ex
  subst ev
  refine ⟨a, isTup d, rfl, ⟨ys, hq⟩, fun Dd hD => ?_⟩
  have rel0 : Rel K (ι1 ++ [Dd]) (μ1 ++ [.lst []]) (upd H1 Dd (.lst [])) := r1.pushLst (ds := []) hD rfl
  have kD : (ι1 ++ [Dd])[μ1.length]? = some Dd := by
    rw [← r1.len, List.getElem?_append_right (Nat.le_refl _), Nat.sub_self]
    rfl
  refine ⟨fun m n H' => n = xs.length - m ∧ m ≤ xs.length ∧ ∃ ι' μ' acc, Stp (ι1 ++ [Dd]) (upd H1 Dd (.lst [])) ι' H' ∧ Rel K ι' μ' H' ∧ cell μ' μ1.length = some (.lst acc) ∧ Pv m acc μ',
    ⟨xs.length, rfl, Nat.zero_le _, ι1 ++ [Dd], _, [], Stp.refl _ _, rel0, cell_new μ1 _ [], h0⟩, fun m n H' z => ?_⟩
  obtain ⟨hn, hle, ι', μ', acc, s', r', hc', hp⟩ := z
  have full := (s1.trans (Stp.push (o := .lst []) hD)).trans s'
  have is' := Is.stp ((Stp.push (o := .lst []) hD).trans s') _ _ i1
  by_cases hlt : m < xs.length
  · obtain ⟨hok, hl⟩ := hturn m acc μ' hlt hc' hp
    obtain ⟨a', ys', ev, hq', ha'⟩ := items_seq r' is' hok
    cases ev
    obtain ⟨y, hy, iy⟩ := ha'.get (i := m) (d := xs[m]) (List.getElem?_eq_getElem hlt)
    refine .inr ⟨ItA.go hq' hy, fun H2 => ∃ ι2 μ2 acc, Stp (ι1 ++ [Dd]) (upd H1 Dd (.lst [])) ι2 H2 ∧ Rel K ι2 μ2 H2 ∧ cell μ2 μ1.length = some (.lst acc) ∧ Pv (m + 1) acc μ2, fun H2 z => ⟨xs.length - (m + 1), by omega, rfl, hlt, z⟩, fun w H2 hw => ?_⟩
    obtain ⟨eH, fx⟩ := ItA.yld hw
    subst eH
    have ew : w = y := Option.some.inj ((fx _ hq').symm.trans hy)
    subst ew
    have eg : xs.getD m .non = xs[m] := by
      rw [List.getD_eq_getElem?_getD, List.getElem?_eq_getElem hlt]
      rfl
    have hl' : lcTurnT is μ1.length wt we δ (xs.getD m .non) acc μ' (Pv (m + 1)) := hl
    rw [eg] at hl'
    refine lc_turnT t2 e2 (by assumption) h1 h1' r' (c.env.stp full) iy (s'.ext _ _ kD) hl' fun acc' ι2 μ2 H2 s2 r2 hc2 hn => ?_
    exact ⟨ι2, μ2, acc', s'.trans s2, r2, hc2, hn⟩
  · have em : m = xs.length := by omega
    subst em
    obtain ⟨hok, hP⟩ := hd acc μ' hc' hp
    obtain ⟨a', ys', ev, hq', ha'⟩ := items_seq r' is' hok
    cases ev
    refine .inl ⟨ItA.stop hq' (by rw [ha'.length]; exact Nat.le_refl _), ?_⟩
    exact kt (.ref Dd) (.ref μ1.length) ι' μ' H' full r' ⟨Dd, s'.ext _ _ kD, rfl⟩ hP
/-- the names of a target, each with its slot -/
inductive TNs (X : Cx) : List Expr → List Nat → Prop
  | nil : TNs X [] []
  | cons {x : Str} {i : Nat} {p : Pos} {es : List Expr} {is : List Nat} : PG X (.Name x p) (gName i) → TNs X es is → TNs X (.Name x p :: es) (i :: is)
theorem TNs.pg {X : Cx} : ∀ {es : List Expr} {is : List Nat}, TNs X es is → PGs X es (gNames is) ∧ (assignEach es X.env).length = is.length ∧ (assignEach es X.env).findIdx? (·.1) = none
  | _, _, .nil => ⟨pgs_nil, rfl, rfl⟩
  | _, _, .cons h t => by
    obtain ⟨a, b, c⟩ := t.pg
    refine ⟨pgs_cons h a (by rfl), ?_, ?_⟩
    · show (assignEach _ X.env).length + 1 = _
      rw [b]
      rfl
    · show (List.findIdx? _ (_ :: assignEach _ X.env)) = none
      rw [List.findIdx?_cons]
      simp [c]
theorem qe_lcLT {es : List Expr} {k : Nat} {px : Pos} {wl : WE} (hc : X.calm = true) (hN : X.N.Nodup) (hi : QE X W iter wl) (ok : BlkOk X.N X.env.scope scope own)
    (hg : ∀ (s : Shared) (H : Hp) (C : Addr) (cl : List (Str × Addr)) (fp : List Addr), TNs (X.blk s H scope (compEnvC scope cl C X.env) fp) es is)
    (ht : ∀ (s : Shared) (H : Hp) (C : Addr) (cl : List (Str × Addr)) (fp : List Addr), QTs (X.blk s H scope (compEnvC scope cl C X.env) fp) W0 ifs wt)
    (he : ∀ (s : Shared) (H : Hp) (C : Addr) (cl : List (Str × Addr)) (fp : List Addr), QE (X.blk s H scope (compEnvC scope cl C X.env) fp) W0 elt we)
    (h1 : ∀ i ∈ is, i ∈ own.map (·.2)) (h1' : ∀ i ∈ own.map (·.2), i ∈ is)
    (hs : ∀ z, foldedSetIterable iter X.env z = pure z := by intro _; rfl) :
    QE X W (.ListComp elt [⟨.Tuple es k px, iter, ifs, 0⟩] scope pos) (wLcLT is wl wt we) := by
  obtain ⟨tl, l1, l2⟩ := hi
  exact ⟨_, pe_lc (own := own) hc hN (pi_any l1) ok (fun s H C cl fp => pg_tup (X := X.blk s H scope (compEnvC scope cl C X.env) fp) hc (hg s H C cl fp).pg.1 (hg s H C cl fp).pg.2.1 (hg s H C cl fp).pg.2.2) (fun s H C cl fp => QTs.canon (ht s H C cl fp)) (fun s H C cl fp => QE.canon (he s H C cl fp)) hs, re_lcLT l2 rt_rd re_rd rfl h1 h1'⟩
theorem qs_setLcLT {es : List Expr} {k kk : Nat} {px py : Pos} {y : Str} {wl : WE} (hc : X.calm = true) (hN : X.N.Nodup) (hi : QE X W iter wl) (ok : BlkOk X.N X.env.scope scope own)
    (hg : ∀ (s : Shared) (H : Hp) (C : Addr) (cl : List (Str × Addr)) (fp : List Addr), TNs (X.blk s H scope (compEnvC scope cl C X.env) fp) es is)
    (ht : ∀ (s : Shared) (H : Hp) (C : Addr) (cl : List (Str × Addr)) (fp : List Addr), QTs (X.blk s H scope (compEnvC scope cl C X.env) fp) W0 ifs wt)
    (he : ∀ (s : Shared) (H : Hp) (C : Addr) (cl : List (Str × Addr)) (fp : List Addr), QE (X.blk s H scope (compEnvC scope cl C X.env) fp) W0 elt we)
    (h1 : ∀ i ∈ is, i ∈ own.map (·.2)) (h1' : ∀ i ∈ own.map (·.2), i ∈ is)
    (hy : X.N[k]? = some y) (hyl : X.env.scope.names.lookup y = some .local)
    (hsw : swapsWith (.ListComp elt [⟨.Tuple es kk px, iter, ifs, 0⟩] scope pos) (some (.Name y py)) spos.line X.env = pure true)
    (hs : ∀ z, foldedSetIterable iter X.env z = pure z := by intro _; rfl) :
    QS X W (.Assign [.Name y py] (.ListComp elt [⟨.Tuple es kk px, iter, ifs, 0⟩] scope pos) spos) (wAsg (wLcLT is wl wt we) (wgName k)) := by
  obtain ⟨tl, l1, l2⟩ := hi
  exact ⟨_, ps_setLc (own := own) hc hN hy hyl hsw (pi_any l1) ok (fun s H C cl fp => pg_tup (X := X.blk s H scope (compEnvC scope cl C X.env) fp) hc (hg s H C cl fp).pg.1 (hg s H C cl fp).pg.2.1 (hg s H C cl fp).pg.2.2) (fun s H C cl fp => QTs.canon (ht s H C cl fp)) (fun s H C cl fp => QE.canon (he s H C cl fp)) hs, rs_asg (re_lcLT l2 rt_rd re_rd rfl h1 h1') (rg_name k)⟩
end
/-! xs[::-1], a list -/
theorem IsAll.rev {K : PySem.W.Frag} {ι : List Addr} {H : Hp} : ∀ {ds : List D} {vs : List V}, IsAll K ι H ds vs → IsAll K ι H ds.reverse vs.reverse
  | [], vs, h => by
    have e : vs = [] := h
    subst e
    exact rfl
  | d :: ds, vs, h => by
    obtain ⟨v, vr, e, iv, ir⟩ := h
    subst e
    rw [List.reverse_cons, List.reverse_cons]
    exact (IsAll.rev ir).app (show IsAll K ι H [d] [v] from ⟨v, [], rfl, iv, rfl⟩)
def wRevL (we : WE) : WE := fun R δ μ P => we R δ μ fun d μ1 => isTup d = false ∧ ∃ xs, itemsOf μ1 d = some xs ∧ P (.ref μ1.length) (μ1 ++ [.lst xs.reverse])
theorem q_revL {X : Cx} {W : WX} {e : Expr} {we : WE} {k : Nat} {p1 p2 p3 pos : Pos} (he : QE X W e we) : QE X W (.Subscript e (.Slice none none (some (.UnaryOp .USub (.Constant (.int 1) k p1) p2)) p3) pos) (wRevL we) := by
  obtain ⟨t, h1, h2⟩ := he
  refine ⟨_, pe_revL h1, fun R ι μ δ σ H P Q c hw kk => h2 R ι μ δ σ H _ _ c hw fun v d ι1 μ1 H1 s1 r1 i1 q1 => ?_⟩
  obtain ⟨ht, xs, ex, q⟩ := q1
  obtain ⟨a, ys, ev, hq, hi⟩ := items_seq r1 i1 ex
  rw [ht] at hq
  refine ⟨a, ys, ev, hq, fun pn hp => ?_⟩
  exact (kk.stp s1) (.ref pn) (.ref μ1.length) (ι1 ++ [pn]) _ _ (Stp.push hp) (r1.pushLst hp hi.rev) (is_pushed r1) q
end HD
/-! HD14: defs that call themselves; shifts of any size. -/
namespace HD
open PySem PySem.Spec PyProof.Rows L2

/-- nothing is promised -/
def spNone : SpD := fun _ _ _ _ => False
theorem fnG_none {P : Program} {w : World} {K : PySem.W.Frag} {mg : Str → Option Value} {base : Heap} {k : Nat} {f : Addr} {fd : FuncData} {ps : List Str} : FnG P w K mg base k f fd ps (spOf K spNone) :=
  ⟨fun _ _ _ _ ⟨_, _, _, _, _, _, _, z, _⟩ => z.elim, fun _ _ _ _ _ _ _ _ _ _ _ _ _ _ ⟨_, _, _, _, _, _, _, z, _⟩ => z.elim⟩
/-- what a def's own call promises, one turn deeper -/
def recS (s : Nat → SpD) : Nat → SpD
  | 0 => spNone
  | d + 1 => s d
section
variable {X : Cx}
def wShr : WO := wI (fun _ j => 0 ≤ j) fun i j => .int (i / 2 ^ j.toNat)
theorem qo_shr : QO X (binaryOp .RShift) wShr := ⟨_, op_shr, ro_I⟩
def wShlW : WO := wI CShl fun i j => .int (i * 2 ^ j.toNat)
theorem qo_shlW : QO X (binaryOp .LShift) wShlW := ⟨_, op_shlW, ro_I⟩
end
/-! ### what a def leaves behind and no one can reach is forgotten -/
mutual
/-- places of the store that a datum names lie below n -/
def low (n : Nat) : D → Bool
  | .ref k => decide (k < n)
  | .tup ds => lowAll n ds
  | .ro ds => lowAll n ds
  | .exc _ _ _ _ ds => lowAll n ds
  | .lam _ _ _ _ _ ds => lowAll n ds
  | .non => true
  | .bl _ => true
  | .int _ => true
  | .str _ => true
  | .ty _ => true
  | .adr _ => true
def lowAll (n : Nat) : List D → Bool
  | [] => true
  | d :: ds => low n d && lowAll n ds
end
section
variable {K : PySem.W.Frag} {ι ι' : List Addr} {H H' : Hp}
mutual
theorem Is.low : ∀ (d : D) (v : V), Is K ι H d v → low ι.length d = true
  | .ref k, _, h => by
    obtain ⟨a, e, _⟩ := h
    exact decide_eq_true (List.getElem?_eq_some_iff.mp e).1
  | .tup ds, _, h => by
    obtain ⟨a, xs, _, _, r⟩ := h
    exact IsAll.low ds xs r
  | .ro ds, _, h => by
    obtain ⟨a, xs, _, _, r⟩ := h
    exact IsAll.low ds xs r
  | .exc _ _ _ _ ds, _, h => by
    obtain ⟨_, vs, _, _, r⟩ := h
    exact IsAll.low ds vs r
  | .lam _ _ _ _ _ ds, _, h => by
    obtain ⟨_, _, _, _, vs, r, _⟩ := h
    exact IsAll.low ds vs r
  | .non, _, _ => rfl
  | .bl _, _, _ => rfl
  | .int _, _, _ => rfl
  | .str _, _, _ => rfl
  | .ty _, _, _ => rfl
  | .adr _, _, _ => rfl
theorem IsAll.low : ∀ (ds : List D) (xs : List V), IsAll K ι H ds xs → lowAll ι.length ds = true
  | [], _, _ => rfl
  | d :: ds, _, h => by
    obtain ⟨v, r, _, q, t⟩ := h
    exact Bool.and_eq_true_iff.mpr ⟨Is.low d v q, IsAll.low ds r t⟩
end
mutual
theorem Is.down (s : ∀ (k : Nat) (a : Addr), ι'[k]? = some a → k < ι.length → ι[k]? = some a) : ∀ (d : D) (v : V), HD.low ι.length d = true → Is K ι' H d v → Is K ι H d v
  | .ref k, _, l, h => by
    obtain ⟨a, e, q⟩ := h
    exact ⟨a, s k a e (of_decide_eq_true l), q⟩
  | .tup ds, _, l, h => by
    obtain ⟨a, xs, e, q, r⟩ := h
    exact ⟨a, xs, e, q, IsAll.down s ds xs l r⟩
  | .ro ds, _, l, h => by
    obtain ⟨a, xs, e, q, r⟩ := h
    exact ⟨a, xs, e, q, IsAll.down s ds xs l r⟩
  | .exc _ _ _ _ ds, _, l, h => by
    obtain ⟨e, vs, q, z, r⟩ := h
    exact ⟨e, vs, q, z, IsAll.down s ds vs l r⟩
  | .lam _ _ _ _ _ ds, _, l, h => by
    obtain ⟨e, q, l1, l2, vs, r, t⟩ := h
    exact ⟨e, q, l1, l2, vs, IsAll.down s ds vs l r, t⟩
  | .non, _, _, h => h
  | .bl _, _, _, h => h
  | .int _, _, _, h => h
  | .str _, _, _, h => h
  | .ty _, _, _, h => h
  | .adr _, _, _, h => h
theorem IsAll.down (s : ∀ (k : Nat) (a : Addr), ι'[k]? = some a → k < ι.length → ι[k]? = some a) : ∀ (ds : List D) (xs : List V), lowAll ι.length ds = true → IsAll K ι' H ds xs → IsAll K ι H ds xs
  | [], _, _, h => h
  | d :: ds, _, l, h => by
    obtain ⟨v, r, e, q, t⟩ := h
    obtain ⟨l1, l2⟩ := Bool.and_eq_true_iff.mp l
    exact ⟨v, r, e, Is.down s d v l1 q, IsAll.down s ds r l2 t⟩
end
theorem Stp.back (s : Stp ι H ι' H') : ∀ (k : Nat) (a : Addr), ι'[k]? = some a → k < ι.length → ι[k]? = some a := fun k a e l => by
  have e1 : ι[k]? = some ι[k] := List.getElem?_eq_getElem l
  have e2 := s.ext k _ e1
  rw [e] at e2
  rw [e1, e2]
/-- all cells stand -/
def ExtS (μ μ' : Sto) : Prop := ∀ k o, cell μ k = some o → cell μ' k = some o
theorem Rel.forget {μ μ' : Sto} (r : Rel K ι μ H) (r' : Rel K ι' μ' H') (s : Stp ι H ι' H') (e : ExtS μ μ') : Rel K ι μ H' :=
  ⟨r.len, r.inj, fun k o hc => by
    obtain ⟨a, ea, q⟩ := r.at_ k o hc
    obtain ⟨a', ea', q'⟩ := r'.at_ k o (e k o hc)
    have := s.ext k a ea
    rw [ea'] at this
    cases this
    refine ⟨a, ea, ?_⟩
    cases o with
    | lst ds =>
      obtain ⟨xs, _, i⟩ := q
      obtain ⟨xs', e', i'⟩ := q'
      exact ⟨xs', e', IsAll.down s.back ds xs' (IsAll.low ds xs i) i'⟩
    | tab p q => exact q'
    | ins C fs =>
      obtain ⟨dx, xs, _, i⟩ := q
      obtain ⟨dx', xs', e', i'⟩ := q'
      exact ⟨dx', xs', e', IsAll.down s.back _ xs' (IsAll.low _ xs i) i'⟩
    | dct kvs =>
      obtain ⟨xs, _, i⟩ := q
      obtain ⟨xs', e', i'⟩ := q'
      exact ⟨xs', e', IsAll.down s.back _ xs' (IsAll.low _ xs i) i'⟩⟩
end
/-- a def that leaves the store as it found it, but for what no one can reach -/
theorem defDp {P : Program} {w : World} {K : PySem.W.Frag} {mg : Str → Option Value} {base : Heap} {x qual : Str} {st : Stmt} {f : Addr} {fd : FuncData} {N ps : List Str} {k : Nat} {sp : SpD} {ws : WS}
    (F : Fun K x qual st f fd) (S : FnScope N ps (defScope st)) (hl : ∀ ds μ Pd R, sp ds μ Pd R → ds.length = ps.length)
    (der : ∀ (cdv : Value) (A : Around) (outer : List Env) (s : Shared) (H : Hp) (E : XK), A.guards = some [] → Room k (A.deeper (envOfC qual (defScope st) s.heap.objs.size f cdv)) →
      QSs (cxOf (L2.CX P w) P w K mg base N qual (defScope st) f cdv A outer s H E) (fun cls d _ H => E cls d H) (defBody st) ws)
    (vc : ∀ ds μ Pd R, sp ds μ Pd R → ws (fun _ C fs μ' => R C fs μ') { nx := fun _ μ' => ExtS μ μ' ∧ Pd .non μ, rt := fun d μ' => ExtS μ μ' ∧ low μ.length d = true ∧ Pd d μ } (startD N.length ds) μ) : FnG P w K mg base (k + 1) f fd ps (spOf K sp) := by
  have hpl : ps.length ≤ N.length := by
    have := congrArg List.length S.pre
    rw [List.length_take] at this
    omega
  refine fnG_of F S (fun vs H Q E h => ?_) (fun cdv A outer s H vs Q E gd hr h => ?_)
  · obtain ⟨ι, μ, ds, Pd, R, r, i, q, _, _⟩ := h
    rw [i.length]
    exact hl _ _ _ _ q
  · obtain ⟨ι, μ, ds, Pd, R, r, i, q, kt, kx⟩ := h
    obtain ⟨t, h1, h2⟩ := der cdv A outer s H E gd hr
    refine ⟨t, h1, ?_⟩
    have env := env_start ds vs N (by rw [hl _ _ _ _ q]; exact hpl) i
    refine h2 (fun _ C fs μ' => R C fs μ') ι μ _ _ H _ _ ⟨r, env, ?_⟩ (vc ds μ Pd R q) ?_
    · exact fun ι' μ' δ' σ' H' C fs d s' r' e' hf z => kx C fs d ι' μ' H' s' r' hf z
    · refine ⟨fun ι' μ' H' δ' σ' s' r' e' z => ?_, fun v d ι' μ' H' s' r' i' z => ?_, fun _ _ _ _ _ _ _ _ z => z.elim, fun _ _ _ _ _ _ _ _ z => z.elim⟩
      · obtain ⟨z1, z2⟩ := z
        exact kt .non .non ι μ H' ⟨fun _ _ e => e, s'.hx⟩ (r.forget r' s' z1) rfl z2
      · obtain ⟨z1, z2, z3⟩ := z
        exact kt v d ι μ H' ⟨fun _ _ e => e, s'.hx⟩ (r.forget r' s' z1) (Is.down s'.back d v (by rw [r.len]; exact z2) i') z3
end HD
/-! HD15: instances of own classes: made, their fields read and stored, their methods and properties. -/
namespace HD
open PySem PySem.Spec PyProof.Rows L2

section
variable {K : PySem.W.Frag} {ι ι' : List Addr} {H H' : Hp}
/-- a field is stored -/
def fputD (f : Str) (d : D) : List (Str × D) → List (Str × D)
  | [] => [(f, d)]
  | (g, x) :: r => if g = f then (g, d) :: r else (g, x) :: fputD f d r
theorem look_zip : ∀ {fs : List (Str × D)} {vs : List V} {f : Str} {d : D}, IsAll K ι H (fs.map (·.2)) vs → fs.lookup f = some d → ∃ v, ((fs.map (·.1)).zip vs).lookup f = some v ∧ Is K ι H d v
  | [], _, _, _, _, e => by cases e
  | (g, x) :: r, _, f, d, h, e => by
    obtain ⟨v, vr, rfl, q, t⟩ := h
    show ∃ w, List.lookup f ((g, v) :: (r.map (·.1)).zip vr) = some w ∧ _
    rw [List.lookup_cons] at e ⊢
    cases c : f == g with
    | true =>
      rw [c] at e
      cases e
      exact ⟨v, rfl, q⟩
    | false =>
      rw [c] at e
      exact look_zip t e
theorem look_none : ∀ {fs : List (Str × D)} {vs : List V} {f : Str}, IsAll K ι H (fs.map (·.2)) vs → fs.lookup f = none → ((fs.map (·.1)).zip vs).lookup f = none
  | [], _, _, _, _ => by cases ‹List V› <;> rfl
  | (g, x) :: r, _, f, h, e => by
    obtain ⟨v, vr, rfl, q, t⟩ := h
    show List.lookup f ((g, v) :: (r.map (·.1)).zip vr) = none
    rw [List.lookup_cons] at e ⊢
    cases c : f == g with
    | true =>
      rw [c] at e
      cases e
    | false =>
      rw [c] at e
      exact look_none t e
theorem put_zip : ∀ {fs : List (Str × D)} {vs : List V} (f : Str) {d : D} {v : V}, IsAll K ι H (fs.map (·.2)) vs → Is K ι H d v → ∃ vs', putF f v ((fs.map (·.1)).zip vs) = ((fputD f d fs).map (·.1)).zip vs' ∧ IsAll K ι H ((fputD f d fs).map (·.2)) vs'
  | [], vs, f, d, v, h, q => by
    have e : vs = [] := h
    subst e
    exact ⟨[v], rfl, v, [], rfl, q, rfl⟩
  | (g, x) :: r, _, f, d, v, h, q => by
    obtain ⟨w, vr, rfl, q1, t⟩ := h
    show ∃ vs', putF f v ((g, w) :: (r.map (·.1)).zip vr) = _ ∧ _
    unfold putF fputD
    by_cases c : g = f
    · rw [if_pos c, if_pos c]
      exact ⟨v :: vr, rfl, v, vr, rfl, q, t⟩
    · rw [if_neg c, if_neg c]
      obtain ⟨vs', e1, e2⟩ := put_zip f t q
      rw [e1]
      exact ⟨w :: vs', rfl, w, vs', rfl, q1, e2⟩
theorem zip_len : ∀ {fs : List (Str × D)} {vs : List V}, IsAll K ι H (fs.map (·.2)) vs → ((fs.map (·.1)).zip vs).length = fs.length := fun {fs vs} h => by
  rw [List.length_zip, List.length_map, h.length, List.length_map, Nat.min_self]
theorem Rel.ins {μ : Sto} (r : Rel K ι μ H) {k : Nat} {C : Addr} {fs : List (Str × D)} (h : cell μ k = some (.ins C fs)) : ∃ a dx vs, ι[k]? = some a ∧ H a = some (.ins C dx ((fs.map (·.1)).zip vs)) ∧ IsAll K ι H (fs.map (·.2)) vs := by
  obtain ⟨a, e, dx, vs, h1, h2⟩ := r.at_ k _ h
  exact ⟨a, dx, vs, e, h1, h2⟩
end

/-! ### fields -/
section
variable {X : Cx} {W : WX} {e o value : Expr} {we wo wv : WE} {wa wk : WA} {pos apos p : Pos} {C : Addr} {f m x : Str}
def wFld (C : Addr) (f : Str) (we : WE) : WE := fun R δ μ P => we R δ μ fun d μ1 => match d with
  | .ref k => match cell μ1 k with
    | some (.ins C' fs) => C' = C ∧ match fs.lookup f with
      | some v => P v μ1
      | none => False
    | _ => False
  | _ => False
theorem q_fld (hc : Cls X.K C) (hn : NoAttr X.K C f) (he : QE X W e we) (hb : attributeBase e f X.env (eval e X.env) = eval e X.env := by rfl) : QE X W (.Attribute e f pos) (wFld C f we) := by
  obtain ⟨t, h1, h2⟩ := he
  refine ⟨_, pe_fld h1 hb, fun R ι μ δ σ H P Q c h k => h2 R ι μ δ σ H _ _ c h fun v d ι1 μ1 H1 s1 r1 i1 q1 => ?_⟩
  split at q1
  · split at q1
    · rename_i C' fs ec
      obtain ⟨rfl, q1⟩ := q1
      split at q1
      · rename_i d' el
        obtain ⟨a, dx, vs, e1, e2, e3⟩ := r1.ins ec
        obtain ⟨a', ea, rfl⟩ := i1
        rw [e1] at ea
        cases ea
        obtain ⟨w, l, iw⟩ := look_zip e3 el
        exact ⟨a, _, dx, _, w, rfl, e2, hc, hn, l, k w d' ι1 μ1 H1 s1 r1 iw q1⟩
      · exact q1.elim
    · exact q1.elim
  · exact q1.elim
def wSetF (C : Addr) (f : Str) (wo wv : WE) : WS := fun R E δ μ => wv R δ μ fun d μ1 => wo R δ μ1 fun o μ2 => match o with
  | .ref k => match cell μ2 k with
    | some (.ins C' fs) => C' = C ∧ fs.length < 1000 ∧ E.nx δ (μ2.set k (.ins C (fputD f d fs)))
    | _ => False
  | _ => False
theorem qs_fld (hc : Cls X.K C) (hn : NoAttr X.K C f) (ho : QE X W o wo) (hv : QE X W value wv) (hs : swapsWith value (some (.Attribute o f p)) pos.line X.env = pure false := by rfl) : QS X W (.Assign [.Attribute o f p] value pos) (wSetF C f wo wv) := by
  obtain ⟨t, h1, h2⟩ := ho
  obtain ⟨t', h3, h4⟩ := hv
  refine ⟨_, ps_fld h1 h3 hs, fun R ι μ δ σ H E D c h l => h4 R ι μ δ σ H _ _ c h fun v d ι1 μ1 H1 s1 r1 i1 q1 => h2 R ι1 μ1 δ σ H1 _ _ (c.stp s1 r1) q1 fun y d' ι2 μ2 H2 s2 r2 i2 q2 => ?_⟩
  split at q2
  · split at q2
    · rename_i kk C' fs ec
      obtain ⟨rfl, hl, q2⟩ := q2
      obtain ⟨a, dx, vs, e1, e2, e3⟩ := r2.ins ec
      obtain ⟨a', ea, rfl⟩ := i2
      rw [e1] at ea
      cases ea
      obtain ⟨vs', p1, p2⟩ := put_zip f e3 (Is.stp s2 d v i1)
      refine ⟨a, _, dx, _, rfl, e2, hc, hn, by rw [zip_len e3]; exact hl, ?_⟩
      rw [p1]
      have sm : Stp ι2 H2 ι2 (upd H2 a (.ins C' dx (((fputD f d fs).map (·.1)).zip vs'))) := Stp.mut e2 rfl
      exact l.nx ι2 _ _ δ σ ((s1.trans s2).trans sm) (r2.writeO (u := .ins C' (fputD f d fs)) ec e1 e2 rfl ⟨dx, vs', upd_same, IsAll.stp sm _ _ p2⟩) ((c.env.stp (s1.trans s2)).stp sm) q2
    · exact q2.elim
  · exact q2.elim
end

/-! ### methods, making -/
section
variable {X : Cx} {k : Nat} {f C : Addr} {fd : FuncData} {ps : List Str} {sp : Sp}
theorem bnd {K : PySem.W.Frag} {fd : FuncData} {ps : List Str} {us : List Value} {s : Shared} (hb : Binds K fd ps []) (h : us.length = ps.length) (kin : K.In s.heap) : BindsTo s fd ⟨us, []⟩ (ps.zip us) := by
  have b := hb s us kin (by rw [List.append_nil]; exact h)
  rwa [List.append_nil] at b
theorem run_makeG {pins : List (Addr × Obj)} {σ : L2.St} {H : Hp} {s : Shared} {Q : VK} {us : List Value} {kw : List (Str × Value)} {E : XK} (g : Addr → List V) (gx : Addr → List Value)
    (M : Mk X.K C f) (F : FnG X.prog X.w X.K X.mg X.base k f fd ps sp) (gd : X.A.guards = some []) (hr : Room (k + 1) X.A) (hx : PassesAt (L2.CX X.prog X.w) X σ E) (I : Inv X pins σ H s)
    (hb : ∀ (x : Addr) (s' : Shared), X.K.In s'.heap → BindsTo s' fd ⟨.ref x :: us, kw⟩ (ps.zip (gx x))) (r : ∀ x, Vals (g x) (gx x))
    (h : ∀ x dx, H x = none → H dx = none → dx ≠ x → sp (g x) (upd (upd H dx (.own x)) x (.ins C dx [])) (fun v H2 => v = .non ∧ Q (.ref x) H2) E) :
    wpAny (model X.prog X.w) X.A (call (.ref C) us kw) (EP X pins σ Q) X.xe s := by
  have hq := h (s.heap.objs.size + 1) s.heap.objs.size (I.hok.fresh (Nat.le_succ _)) (I.hok.fresh (Nat.le_refl _)) (Nat.ne_of_lt (Nat.lt_succ_self _))
  have I2 := Inv.made (C := C) I
  have gd2 : (X.A.under (.builtin "type.__call__" ⟨.ref C :: us, kw⟩)).guards = some [] := by
    show pushGuards (Code.guards (.builtin "type.__call__" ⟨.ref C :: us, kw⟩)) X.A.guards = some []
    rw [gd]
    rfl
  refine wpAny_call (make_map (f := f) I.kIn M.makes M.init (beq_iff_eq.mp M.fn) (codeAny_mono (F.run _ X.stack _ _ ⟨Value.ref (s.heap.objs.size + 1) :: us, kw⟩ (gx (s.heap.objs.size + 1)) _ _ E gd2 (hr.make C us kw)
    (I2.env0.make C us kw) (hb _ _ I2.kIn) (r _) hq) fun r s' hq' => ?_))
  cases r with
  | error e => exact hx pins _ _ e s' I2 hq'
  | ok fl =>
    cases fl with
    | ret u =>
      obtain ⟨v, H', I3, rv, ev, q3⟩ := I2.after hq'
      subst ev
      exact ⟨rv, ⟨V.ref (s.heap.objs.size + 1), H', I3, rfl, q3⟩⟩
    | next => exact False.elim hq'
    | brk => exact False.elim hq'
    | cont => exact False.elim hq'
variable {x m : Str} {p pos apos : Pos} {e o : Expr} {es : List Expr} {t tk : TA} {ta : TE} {E : L2.St → XK} {kws : List Keyword} {ks : List Str} {n : Nat} {g : {α : Type} → List α → List α → List α}
def tMakeG (C : Addr) (sp : Sp) (E : L2.St → XK) (t : TA) : TE := fun σ H Q => t σ H fun vs H1 => vs.length + 1 = 0 + (vs.length + 1) ∧ ∀ x dx, H1 x = none → H1 dx = none → dx ≠ x →
  sp (.ref x :: vs) (upd (upd H1 dx (.own x)) x (.ins C dx [])) (fun v H2 => v = .non ∧ Q (.ref x) H2) (E σ)
theorem pe_makeG (M : Mk X.K C f) (F : FnG X.prog X.w X.K X.mg X.base k f fd ps sp) (gd : X.A.guards = some []) (hr : Room (k + 1) X.A) (hg : Gl X x) (hm : X.mg x = some (.ref C)) (hb : Binds X.K fd ps [])
    (hx : ∀ σ, PassesAt (L2.CX X.prog X.w) X σ (E σ)) (ha : PA X (e :: es) t) (hdb : (x == ("__debug__" : Str)) = false := by decide)
    (he : starEach (e :: es) X.env = (false, eval e X.env) :: starEach es X.env := by rfl) (hpl : (backTo pos (starEach es X.env)).any (·.1) = false := by rfl) :
    PE X (.Call (.Name x p) (e :: es) [] pos) (tMakeG C sp E t) := by
  refine ⟨fun pins s σ H Q I h => ?_⟩
  refine wpAny_Call_Name_kw (ld_glob I hg hm ?_ hdb)
  refine PySem.W.callWith_K (h₀ := X.base) I.ok.mod.kin M.kp (thn (ha.run pos pins s σ H _ I h) fun us s1 ⟨vs, H1, I1, r, _, q⟩ => ⟨I1.kIn, ?_⟩) he hpl
  refine run_makeG (fun x => .ref x :: vs) (fun x => .ref x :: us) M F gd hr (hx σ) I1 (fun x s' kin => bnd hb ?_ kin) (fun x => .cons rfl r) q
  have := F.len _ _ _ _ (q (s1.heap.objs.size + 1) s1.heap.objs.size (I1.hok.fresh (Nat.le_succ _)) (I1.hok.fresh (Nat.le_refl _)) (Nat.ne_of_lt (Nat.lt_succ_self _)))
  show us.length + 1 = _
  rw [← this, ← r.length]
  rfl
theorem pe_makeG0 (M : Mk X.K C f) (F : FnG X.prog X.w X.K X.mg X.base k f fd ps sp) (gd : X.A.guards = some []) (hr : Room (k + 1) X.A) (hg : Gl X x) (hm : X.mg x = some (.ref C)) (hb : Binds X.K fd ps [])
    (hx : ∀ σ, PassesAt (L2.CX X.prog X.w) X σ (E σ)) (hdb : (x == ("__debug__" : Str)) = false := by decide) :
    PE X (.Call (.Name x p) [] [] pos) (tMakeG C sp E tNil) := by
  refine ⟨fun pins s σ H Q I h => ?_⟩
  obtain ⟨_, h⟩ := h
  refine wpAny_Call_Name_kw (ld_glob I hg hm ?_ hdb)
  refine PySem.W.callWith_K0 I.kIn M.kp (run_makeG (us := []) (fun x => [.ref x]) (fun x => [.ref x]) M F gd hr (hx σ) I (fun x s' kin => bnd hb ?_ kin) (fun x => .cons rfl .nil) h)
  have := F.len _ _ _ _ (h (s.heap.objs.size + 1) s.heap.objs.size (I.hok.fresh (Nat.le_succ _)) (I.hok.fresh (Nat.le_refl _)) (Nat.ne_of_lt (Nat.lt_succ_self _)))
  exact this
/-- C(.., k = v, ..) -/
def tMakeGK (C : Addr) (n m : Nat) (sp : Sp) (g : {α : Type} → List α → List α → List α) (E : L2.St → XK) (t tk : TA) : TE := fun σ H Q => t σ H fun vs H1 => tk σ H1 fun zs H2 => vs.length = n ∧ zs.length = m ∧ ∀ x dx, H2 x = none → H2 dx = none → dx ≠ x →
  sp (g (.ref x :: vs) zs) (upd (upd H2 dx (.own x)) x (.ins C dx [])) (fun v H3 => v = .non ∧ Q (.ref x) H3) (E σ)
theorem pe_makeGK0 (M : Mk X.K C f) (F : FnG X.prog X.w X.K X.mg X.base k f fd ps sp) (gd : X.A.guards = some []) (hr : Room (k + 1) X.A) (hg : Gl X x) (hm : X.mg x = some (.ref C)) (hb : KBd X.K fd ps ks 1 g)
    (hx : ∀ σ, PassesAt (L2.CX X.prog X.w) X σ (E σ)) (hkw : PK X kws tk) (hall : (backToKw pos (keywordEach kws X.env)).all (·.1.isSome) = true := by rfl)
    (hks : (backToKw pos (keywordEach kws X.env)).filterMap (·.1) = ks := by rfl) (hdb : (x == ("__debug__" : Str)) = false := by decide)
    (hpl : ((backTo pos (starEach [] X.env)).any (·.1) || (backToKw pos (keywordEach kws X.env)).any (·.1.isNone)) = false := by rfl) :
    PE X (.Call (.Name x p) [] kws pos) (tMakeGK C 0 ks.length sp g E tNil tk) := by
  refine ⟨fun pins s σ H Q I h => ?_⟩
  refine wpAny_Call_Name_kw (ld_glob I hg hm ?_ hdb)
  refine PySem.W.callWith_KW0 (h₀ := X.base) I.ok.mod.kin M.kp hall (thn (hkw.run pos pins s σ H _ I h) fun ws s2 ⟨zs, H2, I2, rz, l1, l2, q2⟩ => ⟨I2.kIn, ?_⟩) hpl
  rw [hks]
  exact run_makeG (us := []) (fun x => g [.ref x] zs) (fun x => g [.ref x] ws) M F gd hr (hx σ) I2 (fun x s' _ => hb.to s' [.ref x] ws rfl (rz.length.symm.trans l2)) (fun x => hb.rel (vs := [.ref x]) rfl l2 (.cons rfl .nil) rz) q2
/-- o.m(..) -/
def tMethG (C : Addr) (m : Str) (sp : Sp) (E : L2.St → XK) (ta : TE) (t : TA) : TE := fun σ H Q => ta σ H fun x H1 => ∃ a dx fs, x = .ref a ∧ H1 a = some (.ins C dx fs) ∧ fs.lookup m = none ∧ t σ H1 fun vs H2 => sp (x :: vs) H2 Q (E σ)
theorem pe_methG {pl : Sem Bool} (he : PE X o ta) (c : Cls X.K C) (hm : Meth X.K C m f) (F : FnG X.prog X.w X.K X.mg X.base k f fd ps sp) (gd : X.A.guards = some []) (hr : Room k X.A) (hb : Binds X.K fd ps [])
    (hx : ∀ σ, PassesAt (L2.CX X.prog X.w) X σ (E σ)) (ha : PA X (e :: es) t)
    (hst : starEach (e :: es) X.env = (false, eval e X.env) :: starEach es X.env := by rfl) (hpl : (backTo pos (starEach es X.env)).any (·.1) = false := by rfl)
    (ht : eval (.Call (.Attribute o m apos) (e :: es) [] pos) X.env = (do
      let ov ← eval o X.env
      standAt apos.atName
      let (f, first) ← holding [ov] (getMethod ov m pl)
      callWith pos f first (backTo pos (starEach (e :: es) X.env)) (backToKw pos (keywordEach [] X.env))) := by rfl) :
    PE X (.Call (.Attribute o m apos) (e :: es) [] pos) (tMethG C m sp E ta t) := by
  refine ⟨fun pins s σ H Q I h => ?_⟩
  refine PySem.W.methodCall_KW (pl := pl) (thn (he.run pins s σ H _ I h) fun u s1 ⟨x, H1, I1, rx, a, dx, fs, ex, ea, l, q⟩ => ?_) ht
  subst ex
  obtain rfl : u = Value.ref a := rx
  refine getmeth_ok I1 ea c hm l ?_
  refine PySem.W.callWith_K (first := [.ref a]) (h₀ := X.base) I.ok.mod.kin hm.kp (thn (ha.run pos pins s1 σ H1 _ I1 q) fun us s2 ⟨vs, H2, I2, r, q2⟩ => ⟨I2.kIn, ?_⟩) hst hpl
  have r2 : Vals (V.ref a :: vs) (Value.ref a :: us) := .cons rfl r
  exact runG (us := .ref a :: us) F gd hr (hx σ) I2 (bnd hb (r2.length.symm.trans (F.len _ _ _ _ q2)) I2.kIn) r2 q2
theorem pe_methG0 {pl : Sem Bool} (he : PE X o ta) (c : Cls X.K C) (hm : Meth X.K C m f) (F : FnG X.prog X.w X.K X.mg X.base k f fd ps sp) (gd : X.A.guards = some []) (hr : Room k X.A) (hb : Binds X.K fd ps [])
    (hx : ∀ σ, PassesAt (L2.CX X.prog X.w) X σ (E σ))
    (ht : eval (.Call (.Attribute o m apos) [] [] pos) X.env = (do
      let ov ← eval o X.env
      standAt apos.atName
      let (f, first) ← holding [ov] (getMethod ov m pl)
      callWith pos f first (backTo pos (starEach [] X.env)) (backToKw pos (keywordEach [] X.env))) := by rfl) :
    PE X (.Call (.Attribute o m apos) [] [] pos) (tMethG C m sp E ta tNil) := by
  refine ⟨fun pins s σ H Q I h => ?_⟩
  refine PySem.W.methodCall_KW (pl := pl) (thn (he.run pins s σ H _ I h) fun u s1 ⟨x, H1, I1, rx, a, dx, fs, ex, ea, l, q⟩ => ?_) ht
  subst ex
  obtain rfl : u = Value.ref a := rx
  refine getmeth_ok I1 ea c hm l ?_
  have r2 : Vals [V.ref a] [Value.ref a] := .cons rfl .nil
  exact PySem.W.callWith_K0 (first := [.ref a]) I1.kIn hm.kp (runG (us := [.ref a]) F gd hr (hx σ) I1 (bnd hb (r2.length.symm.trans (F.len _ _ _ _ q)) I1.kIn) r2 q)
/-- o.m(k = v, ..) -/
def tMethGK (C : Addr) (m : Str) (n : Nat) (sp : Sp) (g : {α : Type} → List α → List α → List α) (E : L2.St → XK) (ta : TE) (tk : TA) : TE := fun σ H Q => ta σ H fun x H1 => ∃ a dx fs, x = .ref a ∧ H1 a = some (.ins C dx fs) ∧ fs.lookup m = none ∧
  tk σ H1 fun zs H2 => zs.length = n ∧ sp (g [x] zs) H2 Q (E σ)
theorem pe_methGK0 {pl : Sem Bool} (he : PE X o ta) (c : Cls X.K C) (hm : Meth X.K C m f) (F : FnG X.prog X.w X.K X.mg X.base k f fd ps sp) (gd : X.A.guards = some []) (hr : Room k X.A) (hb : KBd X.K fd ps ks 1 g)
    (hx : ∀ σ, PassesAt (L2.CX X.prog X.w) X σ (E σ)) (hkw : PK X kws tk) (hall : (backToKw pos (keywordEach kws X.env)).all (·.1.isSome) = true := by rfl)
    (hks : (backToKw pos (keywordEach kws X.env)).filterMap (·.1) = ks := by rfl)
    (hpl : ((backTo pos (starEach [] X.env)).any (·.1) || (backToKw pos (keywordEach kws X.env)).any (·.1.isNone)) = false := by rfl)
    (ht : eval (.Call (.Attribute o m apos) [] kws pos) X.env = (do
      let ov ← eval o X.env
      standAt apos.atName
      let (f, first) ← holding [ov] (getMethod ov m pl)
      callWith pos f first (backTo pos (starEach [] X.env)) (backToKw pos (keywordEach kws X.env))) := by rfl) :
    PE X (.Call (.Attribute o m apos) [] kws pos) (tMethGK C m ks.length sp g E ta tk) := by
  refine ⟨fun pins s σ H Q I h => ?_⟩
  refine PySem.W.methodCall_KW (pl := pl) (thn (he.run pins s σ H _ I h) fun u s1 ⟨x, H1, I1, rx, a, dx, fs, ex, ea, l, q⟩ => ?_) ht
  subst ex
  obtain rfl : u = Value.ref a := rx
  refine getmeth_ok I1 ea c hm l ?_
  refine PySem.W.callWith_KW0 (first := [.ref a]) (h₀ := X.base) I.ok.mod.kin hm.kp hall (thn (hkw.run pos pins s1 σ H1 _ I1 q) fun ws s2 ⟨zs, H2, I2, rz, l2, q2⟩ => ⟨I2.kIn, ?_⟩) hpl
  rw [hks]
  exact runG (us := [.ref a]) F gd hr (hx σ) I2 (hb.to s2 [.ref a] ws rfl (rz.length.symm.trans l2)) (hb.rel (vs := [.ref a]) rfl l2 (.cons rfl .nil) rz) q2
/-- o.f, a property -/
def tPropG (C : Addr) (sp : Sp) (ta : TE) : TE := fun σ H Q => ta σ H fun x H1 => ∃ a dx fs, x = .ref a ∧ H1 a = some (.ins C dx fs) ∧ sp [x] H1 Q fun _ _ _ => False
theorem pe_propG {pf : Str} {pa : Addr} (he : PE X e ta) (c : Cls X.K C) (hp : PropOf X.K C pf pa f) (F : FnG X.prog X.w X.K X.mg X.base k f fd ps sp) (gd : X.A.guards = some []) (hr : Room (k + 1) X.A) (hb : Binds X.K fd ps [])
    (hab : attributeBase e pf X.env (eval e X.env) = eval e X.env := by rfl) : PE X (.Attribute e pf pos) (tPropG C sp ta) := by
  refine ⟨fun pins s σ H Q I h => ?_⟩
  refine attr_of hab (thn (he.run pins s σ H _ I h) fun u s1 ⟨x, H1, I1, rx, a, dx, fs, ex, ea, q⟩ => ?_)
  subst ex
  obtain rfl : u = Value.ref a := rx
  obtain ⟨mA, O, _, _, _, _⟩ := ins_get I1.hok ea
  obtain ⟨od, J, _⟩ := O.look
  obtain ⟨rest, hrec⟩ := hp.rec_
  have I2 := I1.tok (s1.toks + 1)
  have r2 : Vals [V.ref a] [Value.ref a] := .cons rfl .nil
  have hc : (PySem.W.clsIn X.K C).isSome = true := by
    obtain ⟨cd, hc, _⟩ := PySem.W.any_some c.hd
    rw [hc]
    rfl
  refine PySem.W.get_bind I1.kIn J (PySem.W.plainGet_of (c.get pf)).1 (PySem.W.findObj_data hc hp.at_ hp.get hp.tak) (PySem.W.plainGet_of (c.get pf)).2 (wpAny_call (PySem.W.prop_get (s := { s1 with toks := s1.toks + 1 }) I1.kIn hrec ?_))
  refine codeAny_mono (F.run X.A.in1 X.stack { s1 with toks := s1.toks + 1 } H1 ⟨[.ref a], []⟩ [.ref a] [.ref a] Q (fun _ _ _ => False) gd hr.in1 I2.env0.in1 (bnd hb (r2.length.symm.trans (F.len _ _ _ _ q)) I2.kIn) r2 q) fun r s' hq => ?_
  cases r with
  | error er =>
    obtain ⟨_, _, _, _, _, _, _, _, _, _, _, _, z⟩ := hq
    exact z.elim
  | ok fl =>
    cases fl with
    | ret u =>
      obtain ⟨v, H', I3, rv, q3⟩ := I2.after hq
      show wpAny _ _ (handedOut u) _ _ _
      rw [PySem.W.handedOut_of (handed_of rv)]
      exact wpAny_pure ⟨v, H', I3, rv, q3⟩
    | next => exact False.elim hq
    | brk => exact False.elim hq
    | cont => exact False.elim hq
end

/-! ### .. on data -/
section
variable {X : Cx} {W : WX} {k : Nat} {f C : Addr} {fd : FuncData} {ps : List Str} {sp : SpD} {x m : Str} {p pos apos : Pos} {e o : Expr} {es : List Expr} {wa wk : WA} {wo : WE} {kws : List Keyword} {ks : List Str} {g : {α : Type} → List α → List α → List α}
def wMake (C : Addr) (sp : SpD) (wa : WA) : WE := fun R δ μ P => wa R δ μ fun ds μ1 => sp (.ref μ1.length :: ds) (μ1 ++ [.ins C []]) (fun d μ2 => d = .non ∧ P (.ref μ1.length) μ2) fun C fs μ2 => R δ C fs μ2
theorem made_rel {K : PySem.W.Frag} {ι : List Addr} {μ : Sto} {H : Hp} (r : Rel K ι μ H) {x dx : Addr} (hx : H x = none) (hdx : H dx = none) (ne : dx ≠ x) :
    Rel K (ι ++ [x]) (μ ++ [.ins C []]) (upd (upd H dx (.own x)) x (.ins C dx [])) ∧ Stp ι H (ι ++ [x]) (upd (upd H dx (.own x)) x (.ins C dx [])) := by
  have h1 : upd H dx (.own x) x = none := by rw [upd_ne (Ne.symm ne)]; exact hx
  exact ⟨(r.new hdx).push (u := .ins C []) h1 ⟨dx, [], upd_same, rfl⟩, ((Stp.new hdx).trans (Stp.push h1))⟩
theorem made_kt {K : PySem.W.Frag} {ι : List Addr} {μ : Sto} {H H1 : Hp} {P : D → Sto → Prop} {Q : V → Hp → Prop} {x : Addr} (r : Rel K ι μ H) (s : Stp ι H (ι ++ [x]) H1) (kt : Kt K ι H P Q) :
    Kt K (ι ++ [x]) H1 (fun d μ2 => d = .non ∧ P (.ref μ.length) μ2) (fun v H2 => v = .non ∧ Q (.ref x) H2) := by
  intro v d ι2 μ2 H2 s2 r2 i2 q2
  obtain ⟨rfl, q2⟩ := q2
  refine ⟨i2, kt (.ref x) (.ref μ.length) ι2 μ2 H2 (s.trans s2) r2 ⟨x, s2.ext _ _ ?_, rfl⟩ q2⟩
  rw [← r.len, List.getElem?_append_right (Nat.le_refl _), Nat.sub_self]
  rfl
theorem q_make (M : Mk X.K C f) (F : FnG X.prog X.w X.K X.mg X.base k f fd ps (spOf X.K sp)) (gd : X.A.guards = some []) (hr : Room (k + 1) X.A) (hg : Gl X x) (hm : X.mg x = some (.ref C)) (hb : Binds X.K fd ps [])
    (tk : Takes X W) (ha : QA X W (e :: es) wa) (hdb : (x == ("__debug__" : Str)) = false := by decide)
    (he : starEach (e :: es) X.env = (false, eval e X.env) :: starEach es X.env := by rfl) (hpl : (backTo pos (starEach es X.env)).any (·.1) = false := by rfl) :
    QE X W (.Call (.Name x p) (e :: es) [] pos) (wMake C sp wa) := by
  obtain ⟨t, h1, h2⟩ := ha
  refine ⟨_, pe_makeG (E := L2.WE W) M F gd hr hg hm hb (fun σ => passAt tk σ) h1 hdb he hpl, fun R ι μ δ σ H P Q c h kt => ?_⟩
  refine h2 R ι μ δ σ H _ _ c h fun vs ds ι1 μ1 H1 s1 r1 i1 q1 => ⟨by omega, fun x dx hx hdx ne => ?_⟩
  obtain ⟨r2, s2⟩ := made_rel (C := C) r1 hx hdx ne
  refine ⟨ι1 ++ [x], μ1 ++ [.ins C []], .ref μ1.length :: ds, _, _, r2, ⟨.ref x, vs, rfl, ⟨x, ?_, rfl⟩, IsAll.stp s2 _ _ i1⟩, q1, made_kt r1 s2 (kt.stp s1), ktx_of (μ' := μ1) c.xl c.env (s1.trans s2)⟩
  rw [← r1.len, List.getElem?_append_right (Nat.le_refl _), Nat.sub_self]
  rfl
theorem q_make0 (M : Mk X.K C f) (F : FnG X.prog X.w X.K X.mg X.base k f fd ps (spOf X.K sp)) (gd : X.A.guards = some []) (hr : Room (k + 1) X.A) (hg : Gl X x) (hm : X.mg x = some (.ref C)) (hb : Binds X.K fd ps [])
    (tk : Takes X W) (hdb : (x == ("__debug__" : Str)) = false := by decide) :
    QE X W (.Call (.Name x p) [] [] pos) (wMake C sp wNil) := by
  refine ⟨_, pe_makeG0 (E := L2.WE W) M F gd hr hg hm hb (fun σ => passAt tk σ) hdb, fun R ι μ δ σ H P Q c h kt => ⟨by simp, fun x dx hx hdx ne => ?_⟩⟩
  obtain ⟨r2, s2⟩ := made_rel (C := C) c.rel hx hdx ne
  have h : sp [.ref μ.length] (μ ++ [.ins C []]) (fun d μ2 => d = .non ∧ P (.ref μ.length) μ2) (fun C fs μ2 => R δ C fs μ2) := h
  refine ⟨ι ++ [x], μ ++ [.ins C []], [.ref μ.length], _, _, r2, ⟨.ref x, [], rfl, ⟨x, ?_, rfl⟩, rfl⟩, h, made_kt c.rel s2 kt, ktx_of (μ' := μ) c.xl c.env s2⟩
  rw [← c.rel.len, List.getElem?_append_right (Nat.le_refl _), Nat.sub_self]
  rfl
def wMakeK (C : Addr) (m : Nat) (sp : SpD) (g : {α : Type} → List α → List α → List α) (wk : WA) : WE := fun R δ μ P => wk R δ μ fun es μ1 => es.length = m ∧ sp (g [.ref μ1.length] es) (μ1 ++ [.ins C []]) (fun d μ2 => d = .non ∧ P (.ref μ1.length) μ2) fun C fs μ2 => R δ C fs μ2
theorem q_makeK0 (M : Mk X.K C f) (F : FnG X.prog X.w X.K X.mg X.base k f fd ps (spOf X.K sp)) (gd : X.A.guards = some []) (hr : Room (k + 1) X.A) (hg : Gl X x) (hm : X.mg x = some (.ref C)) (hb : KBd X.K fd ps ks 1 g) (hG : GAll 1 ks.length g)
    (tk : Takes X W) (hkw : QK X W kws wk) (hall : (backToKw pos (keywordEach kws X.env)).all (·.1.isSome) = true := by rfl)
    (hks : (backToKw pos (keywordEach kws X.env)).filterMap (·.1) = ks := by rfl) (hdb : (x == ("__debug__" : Str)) = false := by decide)
    (hpl : ((backTo pos (starEach [] X.env)).any (·.1) || (backToKw pos (keywordEach kws X.env)).any (·.1.isNone)) = false := by rfl) :
    QE X W (.Call (.Name x p) [] kws pos) (wMakeK C ks.length sp g wk) := by
  obtain ⟨t', h3, h4⟩ := hkw
  refine ⟨_, pe_makeGK0 (E := L2.WE W) M F gd hr hg hm hb (fun σ => passAt tk σ) h3 hall hks hdb hpl, fun R ι μ δ σ H P Q c h kt => ?_⟩
  refine h4 R ι μ δ σ H _ _ c h fun zs es ι1 μ1 H1 s1 r1 i1 q1 => ?_
  obtain ⟨l2, q1⟩ := q1
  refine ⟨rfl, i1.length.trans l2, fun x dx hx hdx ne => ?_⟩
  obtain ⟨r2, s2⟩ := made_rel (C := C) r1 hx hdx ne
  have i0 : IsAll X.K (ι1 ++ [x]) (upd (upd H1 dx (.own x)) x (.ins C dx [])) [.ref μ1.length] [.ref x] := ⟨.ref x, [], rfl, ⟨x, by rw [← r1.len, List.getElem?_append_right (Nat.le_refl _), Nat.sub_self] <;> rfl, rfl⟩, rfl⟩
  exact ⟨ι1 ++ [x], μ1 ++ [.ins C []], _, _, _, r2, hG _ _ _ _ _ _ _ rfl l2 i0 (IsAll.stp s2 _ _ i1), q1, made_kt r1 s2 (kt.stp s1), ktx_of (μ' := μ1) c.xl c.env (s1.trans s2)⟩
/-- the instance at k, of the class C, without this attribute of its own -/
def insOk (C : Addr) (m : Str) (μ : Sto) : D → Prop
  | .ref k => match cell μ k with
    | some (.ins C' fs) => C' = C ∧ fs.lookup m = none
    | _ => False
  | _ => False
theorem insOk.at {K : PySem.W.Frag} {ι : List Addr} {μ : Sto} {H : Hp} {C : Addr} {m : Str} {d : D} {v : V} (h : insOk C m μ d) (r : Rel K ι μ H) (i : Is K ι H d v) : ∃ a dx fs, v = .ref a ∧ H a = some (.ins C dx fs) ∧ fs.lookup m = none := by
  unfold insOk at h
  split at h
  · split at h
    · rename_i C' fs ec
      obtain ⟨rfl, l⟩ := h
      obtain ⟨a, dx, vs, e1, e2, e3⟩ := r.ins ec
      obtain ⟨a', ea, rfl⟩ := i
      rw [e1] at ea
      cases ea
      exact ⟨a, dx, _, rfl, e2, look_none e3 l⟩
    · exact h.elim
  · exact h.elim
def wMeth (C : Addr) (m : Str) (sp : SpD) (wo : WE) (wa : WA) : WE := fun R δ μ P => wo R δ μ fun d μ1 => insOk C m μ1 d ∧ wa R δ μ1 fun ds μ2 => sp (d :: ds) μ2 P fun C fs μ2 => R δ C fs μ2
theorem q_meth {pl : Sem Bool} (c : Cls X.K C) (hm : Meth X.K C m f) (F : FnG X.prog X.w X.K X.mg X.base k f fd ps (spOf X.K sp)) (gd : X.A.guards = some []) (hr : Room k X.A) (hb : Binds X.K fd ps []) (tk : Takes X W) (ho : QE X W o wo) (ha : QA X W (e :: es) wa)
    (hst : starEach (e :: es) X.env = (false, eval e X.env) :: starEach es X.env := by rfl) (hpl : (backTo pos (starEach es X.env)).any (·.1) = false := by rfl)
    (ht : eval (.Call (.Attribute o m apos) (e :: es) [] pos) X.env = (do
      let ov ← eval o X.env
      standAt apos.atName
      let (f, first) ← holding [ov] (getMethod ov m pl)
      callWith pos f first (backTo pos (starEach (e :: es) X.env)) (backToKw pos (keywordEach [] X.env))) := by rfl) :
    QE X W (.Call (.Attribute o m apos) (e :: es) [] pos) (wMeth C m sp wo wa) := by
  obtain ⟨t0, o1, o2⟩ := ho
  obtain ⟨t, h1, h2⟩ := ha
  refine ⟨_, pe_methG (pl := pl) (E := L2.WE W) o1 c hm F gd hr hb (fun σ => passAt tk σ) h1 hst hpl ht, fun R ι μ δ σ H P Q cn h kt => ?_⟩
  refine o2 R ι μ δ σ H _ _ cn h fun v d ι1 μ1 H1 s1 r1 i1 q1 => ?_
  obtain ⟨ok, q1⟩ := q1
  obtain ⟨a, dx, fs, e1, e2, e3⟩ := ok.at r1 i1
  refine ⟨a, dx, fs, e1, e2, e3, h2 R ι1 μ1 δ σ H1 _ _ (cn.stp s1 r1) q1 fun vs ds ι2 μ2 H2 s2 r2 i2 q2 => ?_⟩
  exact ⟨ι2, μ2, d :: ds, P, _, r2, ⟨v, vs, rfl, Is.stp s2 _ _ i1, i2⟩, q2, kt.stp (s1.trans s2), ktx_of (μ' := μ2) cn.xl cn.env (s1.trans s2)⟩
theorem q_meth0 {pl : Sem Bool} (c : Cls X.K C) (hm : Meth X.K C m f) (F : FnG X.prog X.w X.K X.mg X.base k f fd ps (spOf X.K sp)) (gd : X.A.guards = some []) (hr : Room k X.A) (hb : Binds X.K fd ps []) (tk : Takes X W) (ho : QE X W o wo)
    (ht : eval (.Call (.Attribute o m apos) [] [] pos) X.env = (do
      let ov ← eval o X.env
      standAt apos.atName
      let (f, first) ← holding [ov] (getMethod ov m pl)
      callWith pos f first (backTo pos (starEach [] X.env)) (backToKw pos (keywordEach [] X.env))) := by rfl) :
    QE X W (.Call (.Attribute o m apos) [] [] pos) (wMeth C m sp wo wNil) := by
  obtain ⟨t0, o1, o2⟩ := ho
  refine ⟨_, pe_methG0 (pl := pl) (E := L2.WE W) o1 c hm F gd hr hb (fun σ => passAt tk σ) ht, fun R ι μ δ σ H P Q cn h kt => ?_⟩
  refine o2 R ι μ δ σ H _ _ cn h fun v d ι1 μ1 H1 s1 r1 i1 q1 => ?_
  obtain ⟨ok, q1⟩ := q1
  obtain ⟨a, dx, fs, e1, e2, e3⟩ := ok.at r1 i1
  exact ⟨a, dx, fs, e1, e2, e3, ι1, μ1, [d], P, _, r1, ⟨v, [], rfl, i1, rfl⟩, q1, kt.stp s1, ktx_of (μ' := μ1) cn.xl cn.env s1⟩
def wMethK (C : Addr) (m : Str) (n : Nat) (sp : SpD) (g : {α : Type} → List α → List α → List α) (wo : WE) (wk : WA) : WE := fun R δ μ P => wo R δ μ fun d μ1 => insOk C m μ1 d ∧ wk R δ μ1 fun es μ2 => es.length = n ∧ sp (g [d] es) μ2 P fun C fs μ2 => R δ C fs μ2
theorem q_methK0 {pl : Sem Bool} (c : Cls X.K C) (hm : Meth X.K C m f) (F : FnG X.prog X.w X.K X.mg X.base k f fd ps (spOf X.K sp)) (gd : X.A.guards = some []) (hr : Room k X.A) (hb : KBd X.K fd ps ks 1 g) (hG : GAll 1 ks.length g) (tk : Takes X W) (ho : QE X W o wo)
    (hkw : QK X W kws wk) (hall : (backToKw pos (keywordEach kws X.env)).all (·.1.isSome) = true := by rfl)
    (hks : (backToKw pos (keywordEach kws X.env)).filterMap (·.1) = ks := by rfl)
    (hpl : ((backTo pos (starEach [] X.env)).any (·.1) || (backToKw pos (keywordEach kws X.env)).any (·.1.isNone)) = false := by rfl)
    (ht : eval (.Call (.Attribute o m apos) [] kws pos) X.env = (do
      let ov ← eval o X.env
      standAt apos.atName
      let (f, first) ← holding [ov] (getMethod ov m pl)
      callWith pos f first (backTo pos (starEach [] X.env)) (backToKw pos (keywordEach kws X.env))) := by rfl) :
    QE X W (.Call (.Attribute o m apos) [] kws pos) (wMethK C m ks.length sp g wo wk) := by
  obtain ⟨t0, o1, o2⟩ := ho
  obtain ⟨t', h3, h4⟩ := hkw
  refine ⟨_, pe_methGK0 (pl := pl) (E := L2.WE W) o1 c hm F gd hr hb (fun σ => passAt tk σ) h3 hall hks hpl ht, fun R ι μ δ σ H P Q cn h kt => ?_⟩
  refine o2 R ι μ δ σ H _ _ cn h fun v d ι1 μ1 H1 s1 r1 i1 q1 => ?_
  obtain ⟨ok, q1⟩ := q1
  obtain ⟨a, dx, fs, e1, e2, e3⟩ := ok.at r1 i1
  refine ⟨a, dx, fs, e1, e2, e3, h4 R ι1 μ1 δ σ H1 _ _ (cn.stp s1 r1) q1 fun zs es ι2 μ2 H2 s2 r2 i2 q2 => ?_⟩
  obtain ⟨l2, q2⟩ := q2
  have i0 : IsAll X.K ι2 H2 [d] [v] := ⟨v, [], rfl, Is.stp s2 _ _ i1, rfl⟩
  exact ⟨i2.length.trans l2, ι2, μ2, _, P, _, r2, hG _ _ _ _ _ _ _ rfl l2 i0 i2, q2, kt.stp (s1.trans s2), ktx_of (μ' := μ2) cn.xl cn.env (s1.trans s2)⟩
/-- an instance of the class C -/
def insAt (C : Addr) (μ : Sto) : D → Prop
  | .ref k => match cell μ k with
    | some (.ins C' _) => C' = C
    | _ => False
  | _ => False
theorem insAt.at {K : PySem.W.Frag} {ι : List Addr} {μ : Sto} {H : Hp} {C : Addr} {d : D} {v : V} (h : insAt C μ d) (r : Rel K ι μ H) (i : Is K ι H d v) : ∃ a dx fs, v = .ref a ∧ H a = some (.ins C dx fs) := by
  unfold insAt at h
  split at h
  · split at h
    · rename_i C' fs ec
      subst h
      obtain ⟨a, dx, vs, e1, e2, e3⟩ := r.ins ec
      obtain ⟨a', ea, rfl⟩ := i
      rw [e1] at ea
      cases ea
      exact ⟨a, dx, _, rfl, e2⟩
    · exact h.elim
  · exact h.elim
def wProp (C : Addr) (sp : SpD) (wo : WE) : WE := fun R δ μ P => wo R δ μ fun d μ1 => insAt C μ1 d ∧ sp [d] μ1 P fun _ _ _ => False
theorem q_prop {pf : Str} {pa : Addr} (c : Cls X.K C) (hp : PropOf X.K C pf pa f) (F : FnG X.prog X.w X.K X.mg X.base k f fd ps (spOf X.K sp)) (gd : X.A.guards = some []) (hr : Room (k + 1) X.A) (hb : Binds X.K fd ps [])
    (ho : QE X W e wo) (hab : attributeBase e pf X.env (eval e X.env) = eval e X.env := by rfl) : QE X W (.Attribute e pf pos) (wProp C sp wo) := by
  obtain ⟨t0, o1, o2⟩ := ho
  refine ⟨_, pe_propG o1 c hp F gd hr hb hab, fun R ι μ δ σ H P Q cn h kt => ?_⟩
  refine o2 R ι μ δ σ H _ _ cn h fun v d ι1 μ1 H1 s1 r1 i1 q1 => ?_
  obtain ⟨ok, q1⟩ := q1
  obtain ⟨a, dx, fs, e1, e2⟩ := ok.at r1 i1
  exact ⟨a, dx, fs, e1, e2, ι1, μ1, [d], P, _, r1, ⟨v, [], rfl, i1, rfl⟩, q1, kt.stp s1, fun _ _ _ _ _ _ _ _ _ z => z.elim⟩
end
end HD
/-! HD16: == and != by an own __eq__; isinstance of own classes. -/
namespace HD
open PySem PySem.Spec PyProof.Rows L2

section
open PySem.W
variable {prog : Program} {w : World} {A : Around} {E : Value → Shared → Prop} {s : Shared} {K : Frag} {x C L f : Addr} {h₀ : Heap} {m : Str → Option Value} {ox : Obj} {od : Option Obj} {b tb : Value}
theorem ne_bound {M : Model} {args : List Value} {Q : Option Value → Shared → Prop} (X : K.In s.heap) (I : InstAt s.heap x ox C od) (hs : findIn K (.ref C) "__ne__" = some (some (.builtin "object.__ne__")))
    (h : wpAny M A (call (.builtin "object.__ne__") (.ref x :: args)) (fun v => Q (some v)) E s) : wpAny M A (callSpecialIfBound? (.ref x) "__ne__" args) Q E s := by
  simp only [callSpecialIfBound?, bindSpecialIfBound?]
  refine wpAny_holding (wpAny_bind (wpAny_bind (wpAny_bind (I.type.here ((looks_findIn X hs).here ?_)))))
  simp only [F.cmp_object.ne.bind]
  refine wpAny_bind (wpAny_askSetting (wpAny_ite ?_))
  have fin : wpAny M A (call (.builtin "object.__ne__") ([.ref x] ++ args) >>= fun v => pure (some v)) Q E s := wpAny_bind (wpAny_mono h (fun v s' h' => wpAny_pure h') fun _ _ h' => h')
  split
  · exact wpAny_bind (wpAny_pure (wpAny_pure (by exact fin)))
  · exact wpAny_tryCatch (wpAny_bind (wpAny_pure (wpAny_pure (by exact fin))))
theorem ne_check {M : Model} {rest : List Value} {Q : Unit → Shared → Prop} (X : K.In s.heap) (I : InstAt s.heap x ox C od) (ho : subIn K (.ref C) (.type "object") = some true)
    (ha : argsOk "object.__ne__" ⟨.ref x :: rest, []⟩) (hq : Q () s) : wpAny M A (checkBuiltinCall "object.__ne__" ⟨.ref x :: rest, []⟩) Q E s := by
  simp only [checkBuiltinCall, F.cmpKind_ne, F.cmpSplit_ne]
  refine wpAny_bind ?_
  have LI : Looks M s.heap (isInstance (.ref x) (.type "object")) true := I.type.andThen (looks_subIn X ho)
  refine LI.here ?_
  simp only [Bool.not_true, Bool.false_eq_true, if_false]
  cases hsig : Manifest.signature? "object.__ne__" with
  | none => exact wpAny_pure hq
  | some sig =>
    simp only [argsOk, hsig] at ha
    have h2 : Bind.checkArgs "object.__ne__" sig ⟨.ref x :: rest, []⟩ = pure () := ha
    show wpAny M A (Bind.checkArgs "object.__ne__" sig ⟨.ref x :: rest, []⟩) Q E _
    rw [h2]
    exact wpAny_pure hq
theorem ne_call {Q : Value → Shared → Prop} (hu : A.units + 1 < cLine) (X : K.In s.heap) (I : InstAt s.heap x ox C od) (ho : subIn K (.ref C) (.type "object") = some true) (he : findIn K (.ref C) "__eq__" = some (some (.ref f))) (hf : isFn K (.ref f) = true)
    (h : wpAny (model prog w) A.in1 (call (.ref f) [.ref x, b]) (fun v s' => ∃ k, v = .bool k ∧ Q (.bool (!k)) s') (fun _ _ => False) s) : wpAny (model prog w) A (call (.builtin "object.__ne__") [.ref x, b]) Q E s := by
  refine wpAny_call (codeAny_call_builtin F.cmp_object.ne.plain F.cmpEntry_ne (ne_check X I ho (F.cmpArgs_ne _ _) ?_))
  unfold Builtin.«object.__ne__»
  have hu1 : A.in1.units < cLine := hu
  have go : ∀ {Q' : Option Value → Shared → Prop} {E' : Value → Shared → Prop}, (∀ k s', Q (.bool (!k)) s' → Q' (some (.bool k)) s') → wpAny (model prog w) A.in1 (callSpecialIfBound? (.ref x) "__eq__" [b]) Q' E' s := fun {Q' E'} hk =>
    ifBound_K X I he hf (wpAny_mono h (fun v s' ⟨k, e, q⟩ => by rw [e]; exact hk k s' q) fun _ _ z => z.elim)
  repeat (first | with_reducible refine wpAny_cRoomFor hu1 ?_ | with_reducible refine go ?_ | wp_step)
  intro k s' q
  repeat wp_step
  exact q
theorem ne_K {Q : Value → Shared → Prop} (hu : A.units + 1 < cLine) (F : Fr h₀ L s.heap m) (X₀ : K.In h₀) (I : InstAt s.heap x ox C od) (hb : Looks (model prog w) s.heap (typeOf b) tb) (hn : notFirst K C tb = true)
    (hs : findIn K (.ref C) "__ne__" = some (some (.builtin "object.__ne__"))) (ho : subIn K (.ref C) (.type "object") = some true) (he : findIn K (.ref C) "__eq__" = some (some (.ref f))) (hf : isFn K (.ref f) = true)
    (h : wpAny (model prog w) A.in1 (call (.ref f) [.ref x, b]) (fun v s' => ∃ k, v = .bool k ∧ Q (.bool (!k)) s') (fun _ _ => False) s) : wpAny (model prog w) A (richCompare .NotEq (.ref x) b) Q E s := by
  have X := X₀.keeps F.keep
  have one : wpAny (model prog w) A (tryCompare (.ref x) "__ne__" b) (fun r s' => ∃ v, r = some v ∧ Q v s') E s := by
    unfold tryCompare
    refine wpAny_bind (ne_bound X I hs (ne_call hu X I ho he hf (wpAny_mono h (fun v s' ⟨k, e, q⟩ => ⟨k, e, ?_⟩) fun _ _ z => z)))
    exact wpAny_pure ⟨_, rfl, q⟩
  unfold richCompare
  simp only [oneThing_ref]
  refine wpAny_holding (wpAny_bind (wpAny_cRoomFor (by omega) ?_))
  refine wpAny_bind (I.type.here (wpAny_bind (hb.here ?_)))
  split
  · rename_i q
    have e : subIn K tb (.ref C) = some false := by
      rcases Bool.or_eq_true_iff.mp hn with e | e
      · rw [beq_iff_eq.mp e] at q; simp at q
      · exact beq_iff_eq.mp e
    refine wpAny_bind ((looks_subIn X e).here ?_)
    simp only [Bool.false_eq_true, if_false]
    refine wpAny_bind (wpAny_mono one (fun r s' z => ?_) fun _ _ e => e)
    obtain ⟨v, rfl, hq⟩ := z
    exact wpAny_pure hq
  · refine wpAny_bind (wpAny_pure ?_)
    simp only [Bool.false_eq_true, if_false]
    refine wpAny_bind (wpAny_mono one (fun r s' z => ?_) fun _ _ e => e)
    obtain ⟨v, rfl, hq⟩ := z
    exact wpAny_pure hq
end
end HD
/-! HD17: the facts of an own class; isinstance, == and != on data. -/
namespace HD
open PySem PySem.Spec PyProof.Rows L2

/-- what the text has of an own class named x -/
structure ClsT (K : PySem.W.Frag) (mg : Str → Option Value) (x : Str) where
  C : Addr
  gC : mg x = some (.ref C)
  cls : Cls K C
  makes : PySem.W.makesIn K C = true
  kp : PySem.W.keepIn K (.ref C) = true
  ob : PySem.W.subIn K (.ref C) (.type "object") = some true
  ca : PySem.W.findIn K (.ref C) "__class__" = some (some (.builtin "object.__class__"))
  cg : PySem.W.specialIn K (.builtin "object.__class__") "__get__" = some (some (.builtin "getset_descriptor.__get__"))
  ct : PySem.W.takesIn K (.builtin "object.__class__") = some true
  cm : PySem.W.mroIn K C (.type "object") = some true
  self : PySem.W.kitOne K (.ref C) (.ref C) = some true
  no : ∀ t, t ∈ ["int", "bool", "str", "NoneType", "tuple", "list", "dict"] → PySem.W.kitOne K (.type t) (.ref C) = some false
theorem no7 {K : PySem.W.Frag} {C : Addr} (h0 : PySem.W.kitOne K (.type "int") (.ref C) = some false) (h1 : PySem.W.kitOne K (.type "bool") (.ref C) = some false) (h2 : PySem.W.kitOne K (.type "str") (.ref C) = some false) (h3 : PySem.W.kitOne K (.type "NoneType") (.ref C) = some false)
    (h4 : PySem.W.kitOne K (.type "tuple") (.ref C) = some false) (h5 : PySem.W.kitOne K (.type "list") (.ref C) = some false) (h6 : PySem.W.kitOne K (.type "dict") (.ref C) = some false) :
    ∀ t, t ∈ ["int", "bool", "str", "NoneType", "tuple", "list", "dict"] → PySem.W.kitOne K (.type t) (.ref C) = some false := by
  intro t ht
  simp only [List.mem_cons, List.mem_nil_iff, or_false] at ht
  rcases ht with rfl | rfl | rfl | rfl | rfl | rfl | rfl <;> assumption
theorem kit_self {K : PySem.W.Frag} {v : Value} : PySem.W.kitOne K v v = some true := by
  unfold PySem.W.kitOne
  rw [if_pos (beq_self_eq_true v)]
theorem kit_no {K : PySem.W.Frag} {C : Addr} {t : String} (hd : PySem.W.hasDictIn K C = true) (ty : PySem.W.typeIn K (.ref C) = some (.type "type")) (h : PySem.W.subIn K (.type t) (.ref C) = some false) : PySem.W.kitOne K (.type t) (.ref C) = some false := by
  obtain ⟨cd, hc, _⟩ := PySem.W.any_some hd
  show (if ((PySem.W.clsIn K C).isSome && PySem.W.typeIn K (.ref C) == some (.type "type")) = true then PySem.W.subIn K (.type t) (.ref C) else none) = some false
  rw [hc, ty, if_pos (by simp)]
  exact h
/-- .. of a method of it -/
structure MthT (K : PySem.W.Frag) (C : Addr) (x q : Str) (st : Stmt) (ps : List Str) where
  a : Addr
  fd : FuncData
  fn : Fun K x q st a fd
  me : Meth K C x a
  bd : Binds K fd ps []
/-- .. of a property of it -/
structure PrpT (K : PySem.W.Frag) (C : Addr) (x q : Str) (st : Stmt) (ps : List Str) where
  a : Addr
  p : Addr
  fd : FuncData
  fn : Fun K x q st a fd
  pr : PropOf K C x p a
  bd : Binds K fd ps []
def MthT.mkr {K : PySem.W.Frag} {mg : Str → Option Value} {x : Str} (c : ClsT K mg x) {y q : Str} {st : Stmt} {ps : List Str} (m : MthT K c.C y q st ps) (h : y = "__init__") : Mk K c.C m.a := ⟨c.makes, by rw [← h]; exact m.me.at_, m.me.fn, c.kp⟩
section
variable {X : Cx} {C : Addr}
def wIsiO (C : Addr) : WB := fun ds μ P => match ds with
  | [d, .adr C'] => C' = C ∧ match d with
    | .ref k => match cell μ k with
      | some (.ins C2 _) => C2 = C ∧ P (.bl true) μ
      | some (.lst _) => P (.bl false) μ
      | _ => False
    | .non => P (.bl false) μ
    | .bl _ => P (.bl false) μ
    | .int _ => P (.bl false) μ
    | .str _ => P (.bl false) μ
    | .tup _ => P (.bl false) μ
    | _ => False
  | _ => False
theorem qb_isiO {K : PySem.W.Frag} {mg : Str → Option Value} {x : Str} (T : ClsT K mg x) (hK : X.K = K := by rfl) : QB X (.builtin "isinstance") (wIsiO T.C) := by
  subst hK
  exact ⟨_, call_isi, fun ι μ H vs ds P Q r i h k => by
  unfold wIsiO at h
  split at h
  · rename_i d C'
    obtain ⟨eC, h⟩ := h
    subst eC
    obtain ⟨v, u, e1, iv, iu⟩ := isAll2 i
    have iu' : u = .ref T.C := iu
    subst iu'
    have plain : ∀ t, tyOf μ d = some t → t ∈ ["int", "bool", "str", "NoneType", "tuple", "list", "dict"] → P (.bl false) μ → rIsi X.K vs H Q := fun t ht hm q =>
      ⟨v, .ref T.C, .type t, .ref T.C, false, e1, .own T.C, tyx_of r iv ht, T.no t hm, k.at r (d := .bl false) rfl q⟩
    split at h
    · rename_i kk
      split at h
      · rename_i C2 fs ec
        obtain ⟨eC, q⟩ := h
        subst eC
        obtain ⟨a, dx, ws, f1, f2, f3⟩ := r.ins ec
        obtain ⟨a', ea, rfl⟩ := iv
        rw [f1] at ea
        cases ea
        exact ⟨.ref a, .ref T.C, .ref T.C, .ref T.C, true, e1, .own T.C, .base (.ins f2 T.cls T.ca T.cg T.ct T.cm), T.self, k.at r (d := .bl true) rfl q⟩
      · rename_i xs ec
        exact plain "list" (by show (lstAt μ kk).map _ = _; rw [lstAt_of ec] <;> rfl) (by decide) h
      · exact h.elim
    · exact plain "NoneType" rfl (by decide) h
    · exact plain "bool" rfl (by decide) h
    · exact plain "int" rfl (by decide) h
    · exact plain "str" rfl (by decide) h
    · exact plain "tuple" rfl (by decide) h
    · exact h.elim
  · exact h.elim⟩
/-- == of two instances of C by the own __eq__ -/
def wEqI (C : Addr) (neg : Bool) (sp : SpD) : WO := fun d e μ P => insAt C μ d ∧ insAt C μ e ∧ sp [d, e] μ (fun r μ' => match r with
  | .bl k => P (.bl (k != neg)) μ'
  | _ => False) fun _ _ _ => False
variable {k : Nat} {f : Addr} {fd : FuncData} {ps : List Str} {sp : Sp} {spd : SpD}
def rOwn (C : Addr) (neg : Bool) (sp : Sp) : R2 := fun x y H Q => ∃ a b dx dy fs gs, x = .ref a ∧ y = .ref b ∧ H a = some (.ins C dx fs) ∧ H b = some (.ins C dy gs) ∧ sp [.ref a, .ref b] H (fun v H' => ∃ k : Bool, v = .bl k ∧ Q (.bl (k != neg)) H') fun _ _ _ => False
theorem op_eqOwn (F : FnG X.prog X.w X.K X.mg X.base k f fd ps sp) (gd : X.A.guards = some []) (hr : Room (k + 1) X.A) (hs : PySem.W.findIn X.K (.ref C) "__eq__" = some (some (.ref f))) (hf : PySem.W.isFn X.K (.ref f) = true) (hb : Binds X.K fd ps []) : OpR X (compareOp .Eq) (rOwn C false sp) := by
  intro pins s σ H x y u v Q I rx ry d
  obtain ⟨a, b, dx, dy, fs, gs, rfl, rfl, ha, hb', hsp⟩ := d
  cases rx
  cases ry
  obtain ⟨mA, J, _⟩ := ins_get I.hok ha
  obtain ⟨mB, J', _⟩ := ins_get I.hok hb'
  obtain ⟨od, J, _⟩ := J.look
  obtain ⟨od', J', _⟩ := J'.look
  obtain ⟨m, hF⟩ := I.fr
  refine PySem.W.cmp_K (op := .Eq) (tb := .ref C) hr.units0 hF I.ok.mod.kin J J'.type (by simp [PySem.W.notFirst]) hs hf ?_
  have r2 : Vals [V.ref a, V.ref b] [Value.ref a, Value.ref b] := .cons rfl (.cons rfl .nil)
  refine wpAny_call (codeAny_mono (F.run X.A X.stack s H ⟨[.ref a, .ref b], []⟩ _ _ _ _ gd (hr.mono (Nat.le_succ k)) I.env0 (bnd hb (r2.length.symm.trans (F.len _ _ _ _ hsp)) I.kIn) r2 hsp) fun r s' hq => ?_)
  cases r with
  | error e =>
    obtain ⟨_, _, _, _, _, _, _, _, _, _, _, _, z⟩ := hq
    exact z.elim
  | ok fl =>
    cases fl with
    | ret w =>
      obtain ⟨z, H', I', rz, kk, ez, q⟩ := I.after hq
      subst ez
      cases rz
      refine ⟨.bl (kk != false), H', I', ?_, q⟩
      show Value.bool kk = Value.bool (kk != false)
      cases kk <;> rfl
    | next => exact False.elim hq
    | brk => exact False.elim hq
    | cont => exact False.elim hq
theorem op_neOwn (F : FnG X.prog X.w X.K X.mg X.base k f fd ps sp) (gd : X.A.guards = some []) (hr : Room (k + 1) X.A) (hs : PySem.W.findIn X.K (.ref C) "__eq__" = some (some (.ref f))) (hf : PySem.W.isFn X.K (.ref f) = true) (hb : Binds X.K fd ps [])
    (hne : PySem.W.findIn X.K (.ref C) "__ne__" = some (some (.builtin "object.__ne__"))) (ho : PySem.W.subIn X.K (.ref C) (.type "object") = some true) : OpR X (compareOp .NotEq) (rOwn C true sp) := by
  intro pins s σ H x y u v Q I rx ry d
  obtain ⟨a, b, dx, dy, fs, gs, rfl, rfl, ha, hb', hsp⟩ := d
  cases rx
  cases ry
  obtain ⟨mA, J, _⟩ := ins_get I.hok ha
  obtain ⟨mB, J', _⟩ := ins_get I.hok hb'
  obtain ⟨od, J, _⟩ := J.look
  obtain ⟨od', J', _⟩ := J'.look
  obtain ⟨m, hF⟩ := I.fr
  refine ne_K (tb := .ref C) (by have := hr.units; omega) hF I.ok.mod.kin J J'.type (by simp [PySem.W.notFirst]) hne ho hs hf ?_
  have r2 : Vals [V.ref a, V.ref b] [Value.ref a, Value.ref b] := .cons rfl (.cons rfl .nil)
  refine wpAny_call (codeAny_mono (F.run X.A.in1 X.stack s H ⟨[.ref a, .ref b], []⟩ _ _ _ _ gd hr.in1 I.env0.in1 (bnd hb (r2.length.symm.trans (F.len _ _ _ _ hsp)) I.kIn) r2 hsp) fun r s' hq => ?_)
  cases r with
  | error e =>
    obtain ⟨_, _, _, _, _, _, _, _, _, _, _, _, z⟩ := hq
    exact z.elim
  | ok fl =>
    cases fl with
    | ret w =>
      obtain ⟨z, H', I', rz, kk, ez, q⟩ := I.after hq
      subst ez
      cases rz
      refine ⟨kk, rfl, .bl (kk != true), H', I', ?_, q⟩
      show Value.bool (!kk) = Value.bool (kk != true)
      cases kk <;> rfl
    | next => exact False.elim hq
    | brk => exact False.elim hq
    | cont => exact False.elim hq
theorem ro_own {neg : Bool} : RO X.K (rOwn C neg (spOf X.K spd)) (wEqI C neg spd) := fun ι μ H x y d e P Q r i1 i2 h k => by
  obtain ⟨h1, h2, h3⟩ := h
  obtain ⟨a, dx, fs, rfl, ea⟩ := h1.at r i1
  obtain ⟨b, dy, gs, rfl, eb⟩ := h2.at r i2
  refine ⟨a, b, dx, dy, fs, gs, rfl, rfl, ea, eb, ι, μ, [d, e], _, _, r, ⟨_, _, rfl, i1, _, _, rfl, i2, rfl⟩, h3, fun v d' ι' μ' H' s' r' i' q => ?_, fun _ _ _ _ _ _ _ _ _ z => z.elim⟩
  cases d' with
  | bl kk => exact ⟨kk, i', k _ (.bl (kk != neg)) ι' μ' H' s' r' rfl q⟩
  | _ => exact q.elim
theorem qo_eqI (F : FnG X.prog X.w X.K X.mg X.base k f fd ps (spOf X.K spd)) (gd : X.A.guards = some []) (hr : Room (k + 1) X.A) (hm : Meth X.K C "__eq__" f) (hb : Binds X.K fd ps []) : QO X (compareOp .Eq) (wEqI C false spd) :=
  ⟨_, op_eqOwn F gd hr hm.at_ hm.fn hb, ro_own⟩
theorem qo_neI (F : FnG X.prog X.w X.K X.mg X.base k f fd ps (spOf X.K spd)) (gd : X.A.guards = some []) (hr : Room (k + 1) X.A) (hm : Meth X.K C "__eq__" f) (hb : Binds X.K fd ps [])
    (hne : PySem.W.findIn X.K (.ref C) "__ne__" = some (some (.builtin "object.__ne__"))) (ho : PySem.W.subIn X.K (.ref C) (.type "object") = some true) : QO X (compareOp .NotEq) (wEqI C true spd) :=
  ⟨_, op_neOwn F gd hr hm.at_ hm.fn hb hne ho, ro_own⟩
end
end HD
/-! HD18: for a, b in zip(xs, ys). -/
namespace HD
open PySem PySem.Spec PyProof.Rows L2
def ItZ (K : PySem.W.Frag) (k : Bool) (a b : Addr) : It := match k with
  | true => RZ.ItzT K a b
  | false => Itz K a b
section
variable {K : PySem.W.Frag} {a b : Addr} {i : Nat} {H : Hp}
theorem ItZ.go {k : Bool} {xs ys : List V} {x y : V} (qx : Sq K k H a xs) (qy : Sq K k H b ys) (ex : xs[i]? = some x) (ey : ys[i]? = some y) : (ItZ K k a b).go i H := by
  cases k
  · exact ⟨xs, ys, x, y, qx, qy, ex, ey⟩
  · exact ⟨xs, ys, x, y, qx, qy, ex, ey⟩
theorem ItZ.stop {k : Bool} {xs ys : List V} (qx : Sq K k H a xs) (qy : Sq K k H b ys) (e : xs.length ≤ i ∨ ys.length ≤ i) : (ItZ K k a b).stop i H := by
  cases k
  · exact ⟨xs, ys, qx, qy, e⟩
  · exact ⟨xs, ys, qx, qy, e⟩
theorem ItZ.yld {k : Bool} {v : V} {H' : Hp} (h : (ItZ K k a b).yld i H v H') : ∃ T x y, v = .ref T ∧ H T = none ∧ H' = upd H T (.tup [x, y]) ∧ (∀ xs, Sq K k H a xs → xs[i]? = some x) ∧ ∀ ys, Sq K k H b ys → ys[i]? = some y := by
  cases k
  · exact h
  · exact h
end
section
variable {X : Cx} {W : WX} {pos p tpos : Pos}
def wForZ (wa : WA) (wg : WG) (wb : WS) : WS := fun R E δ μ => wa R δ μ fun ds μ1 => match ds with
  | [d1, d2] => ∃ (xs ys : List D) (Pv : Nat → En → Sto → Prop), isTup d1 = isTup d2 ∧ Pv 0 δ μ1 ∧ (∀ i δ' μ', Pv i δ' μ' → itemsOf μ' d1 = some xs ∧ itemsOf μ' d2 = some ys) ∧
    (∀ i x y δ' μ', xs[i]? = some x → ys[i]? = some y → Pv i δ' μ' → wg R (.tup [x, y]) δ' μ' fun δ2 μ2 => wb R { E with nx := Pv (i + 1), ct := Pv (i + 1), bk := E.nx } δ2 μ2) ∧ ∀ δ' μ', Pv (min xs.length ys.length) δ' μ' → E.nx δ' μ'
  | _ => False
theorem qs_forZ {elts : List Expr} {kk : Nat} {e e2 : Expr} {body : List Stmt} {wa : WA} {wg : WG} {wb : WS} (hp : PassesOwn (model X.prog X.w) X.A X.env X.xe) (hc : X.calm = true) (hg : Gl X "zip") (hm : X.mg "zip" = none) (ha : QA X W [e, e2] wa) (hgt : QG X W (.Tuple elts kk tpos) wg) (hb : QSs X W body wb)
    (hst : starEach [e, e2] X.env = (false, eval e X.env) :: starEach [e2] X.env := by rfl) (hpl : (backTo p (starEach [e2] X.env)).any (·.1) = false := by rfl)
    (hs : ∀ x, foldedSetIterable (.Call (.Name "zip" p0) [e, e2] [] p) X.env x = pure x := by intro _; rfl) : QS X W (.For (.Tuple elts kk tpos) (.Call (.Name "zip" p0) [e, e2] [] p) body [] pos) (wForZ wa wg wb) := by
  obtain ⟨tl, l1, l2⟩ := ha
  obtain ⟨g, g1, g2⟩ := hgt
  obtain ⟨tb, b1, b2⟩ := hb
  refine ⟨_, ps_for hp hc (RZ.pi_zipA hg hm l1 hst hpl) g1 b1 hs, fun R ι μ δ σ H E D c h l => l2 R ι μ δ σ H _ _ c h fun vs ds ι1 μ1 H1 s1 r1 i1 q1 => ?_⟩
  split at q1
  · rename_i d1 d2
    obtain ⟨xs, ys, Pv, hk, h0, hl, ht, hd⟩ := q1
    obtain ⟨v, u, ev, iv, iu⟩ := isAll2 i1
    obtain ⟨e1, e2⟩ := hl 0 δ μ1 h0
    obtain ⟨a, us0, rfl, qa0, ta0⟩ := items_seq r1 iv e1
    obtain ⟨b, ws0, rfl, qb0, tb0⟩ := items_seq r1 iu e2
    rw [← hk] at qb0
    have main : ∃ Wv : Nat → Nat → L2.St → Hp → Prop, (∃ m, Wv 0 m σ H1) ∧ ∀ i m σ H, Wv i m σ H →
      ((ItZ X.K (isTup d1) a b).stop i H ∧ D.nx σ H) ∨ ((ItZ X.K (isTup d1) a b).go i H ∧ ∃ N : L2.St → Hp → Prop, (∀ σ' H', N σ' H' → ∃ m', m' < m ∧ Wv (i + 1) m' σ' H') ∧ ∀ x H', (ItZ X.K (isTup d1) a b).yld i H x H' → g x σ H' fun σ2 H2 => tb { D with nx := N, ct := N, bk := D.nx } σ2 H2) := by
      refine ⟨fun i m σ' H' => m = min xs.length ys.length - i ∧ i ≤ min xs.length ys.length ∧ ∃ ι' μ' δ', Stp ι1 H1 ι' H' ∧ Rel X.K ι' μ' H' ∧ EnvIs X.K ι' H' δ' σ' ∧ Pv i δ' μ',
        ⟨min xs.length ys.length, rfl, Nat.zero_le _, ι1, μ1, δ, Stp.refl _ _, r1, c.env.stp s1, h0⟩, fun i m σ' H' hw => ?_⟩
      obtain ⟨em, hle, ι', μ', δ', s', r', e', w'⟩ := hw
      obtain ⟨f1, f2⟩ := hl i δ' μ' w'
      obtain ⟨a', us, ea, qa, ta⟩ := items_seq r' (Is.stp s' _ _ iv) f1
      obtain ⟨b', ws, eb, qb, tb'⟩ := items_seq r' (Is.stp s' _ _ iu) f2
      cases ea
      cases eb
      rw [← hk] at qb
      by_cases hlt : i < min xs.length ys.length
      · have hx : i < xs.length := Nat.lt_of_lt_of_le hlt (Nat.min_le_left _ _)
        have hy : i < ys.length := Nat.lt_of_lt_of_le hlt (Nat.min_le_right _ _)
        obtain ⟨vx, hvx, ix⟩ := ta.get (i := i) (d := xs[i]) (List.getElem?_eq_getElem hx)
        obtain ⟨vy, hvy, iy⟩ := tb'.get (i := i) (d := ys[i]) (List.getElem?_eq_getElem hy)
        refine .inr ⟨ItZ.go qa qb hvx hvy, fun σ2 H2 => ∃ ι2 μ2 δ2, Stp ι1 H1 ι2 H2 ∧ Rel X.K ι2 μ2 H2 ∧ EnvIs X.K ι2 H2 δ2 σ2 ∧ Pv (i + 1) δ2 μ2, fun σ2 H2 z => ⟨min xs.length ys.length - (i + 1), by omega, rfl, hlt, z⟩, fun x H2 hx' => ?_⟩
        obtain ⟨T, x', y', rfl, nT, rfl, fx, fy⟩ := ItZ.yld hx'
        have ex : x' = vx := Option.some.inj ((fx _ qa).symm.trans hvx)
        have ey : y' = vy := Option.some.inj ((fy _ qb).symm.trans hvy)
        subst ex ey
        have sn : Stp ι' H' ι' (upd H' T (.tup [x', y'])) := Stp.new nT
        refine g2 R ι' μ' δ' σ' _ (.ref T) (.tup [xs[i], ys[i]]) _ _ ⟨r'.new nT, e'.stp sn, c.xl.stp ((s1.trans s').trans sn)⟩ ⟨T, [x', y'], rfl, SqT.of upd_same, x', [y'], rfl, Is.stp sn _ _ ix, y', [], rfl, Is.stp sn _ _ iy, rfl⟩ (ht i xs[i] ys[i] δ' μ' (List.getElem?_eq_getElem hx) (List.getElem?_eq_getElem hy) w') fun ι2 μ2 H3 δ2 σ2 s2 r2 e2 q2 => ?_
        refine b2 R ι2 μ2 δ2 σ2 H3 _ _ ⟨r2, e2, c.xl.stp (((s1.trans s').trans sn).trans s2)⟩ q2 ?_
        have lk := l.stp (((s1.trans s').trans sn).trans s2)
        exact ⟨fun ι3 μ3 H4 δ3 σ3 s3 r3 e3 q3 => ⟨ι3, μ3, δ3, ((s'.trans sn).trans s2).trans s3, r3, e3, q3⟩, lk.rt, lk.nx,
          fun ι3 μ3 H4 δ3 σ3 s3 r3 e3 q3 => ⟨ι3, μ3, δ3, ((s'.trans sn).trans s2).trans s3, r3, e3, q3⟩⟩
      · have ei : i = min xs.length ys.length := by omega
        subst ei
        refine .inl ⟨ItZ.stop qa qb ?_, l.nx ι' μ' H' δ' σ' (s1.trans s') r' e' (hd δ' μ' w')⟩
        rw [ta.length, tb'.length]
        omega
    refine ⟨a, b, us0, ws0, ev, ?_⟩
    cases hb' : isTup d1 with
    | false =>
      rw [hb'] at qa0 qb0 main
      exact .inl ⟨qa0, qb0, main⟩
    | true =>
      rw [hb'] at qa0 qb0 main
      exact .inr ⟨qa0, qb0, main⟩
  · exact q1.elim
end
end HD
/-! HD19: t[::-1], a tuple. -/
namespace HD
open PySem PySem.Spec PyProof.Rows L2 HT
section
variable {prog : Program} {w : World} {A : Around} {E : Value → Shared → Prop} {s : Shared}
theorem fm_congr {α β : Type} (l : List α) (f g : α → Option β) (h : ∀ x, x ∈ l → f x = g x) : l.filterMap f = l.filterMap g := by
  induction l with
  | nil => rfl
  | cons a l ih =>
    rw [List.filterMap_cons, List.filterMap_cons, h a (List.mem_cons_self ..), ih fun x hx => h x (List.mem_cons_of_mem _ hx)]
theorem adjust_rev (n : Nat) : Builtin.Slice.sliceAdjust none none (-1) (n : Int) = ((n : Int) - 1, -1) := by
  unfold Builtin.Slice.sliceAdjust
  have h1 : ((-1 : Int) < 0) := by omega
  simp only [h1, if_true]
theorem places_rev (n : Nat) : Builtin.Slice.slicePlaces ((n : Int) - 1) (-1) (-1) = n := by
  unfold Builtin.Slice.slicePlaces
  have h1 : ¬ ((-1 : Int) > 0) := by omega
  have e : (- (-1) : Int) = 1 := by omega
  simp only [h1, if_false, e, Int.ediv_one]
  split <;> omega
theorem sliceApplied_rev {sl : Addr} {vs : Value} {n : Nat} {Q : Int × Int × Nat → Shared → Prop} (hs : s.heap.IsSliceOf sl .none .none vs) (ps : IsPart vs (some (-1)))
    (h : Q ((n : Int) - 1, -1, n) s) : wpAny (model prog w) A (Builtin.Slice.sliceApplied (.ref sl) (pure (n : Int))) Q E s := by
  obtain ⟨os, hos, hcs, hds⟩ := id hs
  unfold Builtin.Slice.sliceApplied Builtin.Slice.sliceFields
  refine wpAny_bind (wpAny_bind (wpAny_field hos hds (x := .none) rfl (wpAny_bind (wpAny_field hos hds (x := .none) rfl (wpAny_bind (wpAny_field hos hds (x := vs) rfl (wpAny_pure ?_)))))))
  refine wpAny_bind (slicePart_ ps ?_)
  show wpAny _ _ (if ((-1 : Int) == 0) = true then _ else _) _ _ s
  rw [if_neg (by decide)]
  refine wpAny_bind (slicePart_none (wpAny_bind (slicePart_none (wpAny_bind (wpAny_pure ?_)))))
  show wpAny _ _ (match Builtin.Slice.sliceAdjust none none (-1) (n : Int) with | (lo, hi) => pure (lo, (-1 : Int), Builtin.Slice.slicePlaces lo hi (-1))) _ _ s
  rw [adjust_rev n]
  show wpAny _ _ (pure ((n : Int) - 1, (-1 : Int), Builtin.Slice.slicePlaces ((n : Int) - 1) (-1) (-1))) _ _ s
  rw [places_rev]
  exact wpAny_pure h
theorem pick_rev (xs : Array Value) : ((List.range xs.size).filterMap fun (m : Nat) => xs[(((xs.size : Int) - 1) + (m : Int) * (-1)).toNat]?).toArray = xs.toList.reverse.toArray := by
  have e : (List.range xs.size).filterMap (fun (m : Nat) => xs[(((xs.size : Int) - 1) + (m : Int) * (-1)).toNat]?) = ((List.range xs.size).map fun k => xs.size - 1 - k).filterMap (xs[·]?) := by
    rw [List.filterMap_map]
    refine fm_congr _ _ _ fun m hm => ?_
    have e2 : (((xs.size : Int) - 1) + (m : Int) * (-1)).toNat = xs.size - 1 - m := by omega
    show xs[(((xs.size : Int) - 1) + (m : Int) * (-1)).toNat]? = xs[xs.size - 1 - m]?
    rw [e2]
  rw [e, PySem.W.krv_range, List.filterMap_reverse, PySem.W.krv_all]
theorem getItem_tuple_rev {t sl : Addr} {items : Array Value} {vs : Value} {Q : Value → Shared → Prop} (ht : IsTup s.heap t items) (hs : s.heap.IsSliceOf sl .none .none vs) (ps : IsPart vs (some (-1)))
    (h : Q (.ref s.heap.objs.size) { s with heap := s.heap.push { cls := .type "tuple", data := .seq items.toList.reverse.toArray } })
    (hsz : items.size ≤ sizeLine) : wpAny (model prog w) A (getItem (.ref t) (.ref sl)) Q E s := by
  have htake : sizeOk (.seq items.toList.reverse.toArray) := by
    show (items.toList.reverse.toArray).size ≤ sizeLine
    rw [List.size_toArray, List.length_reverse, Array.length_toList]
    exact hsz
  obtain ⟨os, hos, hcs, hds⟩ := id hs
  have hTs : s.TypeIs (.ref sl) "slice" := ⟨os, hos, hcs⟩
  unfold getItem
  try with_reducible refine wpAny_holding ?_
  first | refine wpAny_bind (wpAny_pure ?_) | skip
  refine wpAny_bind (wpAny_sequenceKey ht.typeIs (by decide) ?_)
  refine wpAny_bind (wpAny_callSpecial?_slot (name := Str.ofString "__getitem__") ht.typeIs PyProof.Rows.slot_tuple_getitem
    (wpAny_call_entry PyProof.Rows.slot_tuple_getitem ht.typeIs entry_tuple_getitem ?_ (args_tuple_getitem _ _)))
  show wpAny _ _ (Builtin.Tuple.tupleItemsOf (.ref t) >>= _) _ _ s
  refine wpAny_bind (tupleItemsOf_ ht ?_)
  refine wpAny_bind (wpAny_typeOf hTs ?_)
  rw [if_pos (by decide)]
  refine wpAny_bind (sliceApplied_rev hs ps ?_)
  have hno : ¬ ((((items.size : Int) - 1) == 0 && (-1 : Int) == 1 && items.size == items.size) = true) := by
    intro q
    rw [Bool.and_eq_true, Bool.and_eq_true] at q
    have q1 : (-1 : Int) = 1 := eq_of_beq q.1.2
    omega
  show wpAny _ _ (if (((items.size : Int) - 1) == 0 && (-1 : Int) == 1 && items.size == items.size) = true then _ else _) _ _ s
  rw [if_neg hno, pick_rev]
  first
    | exact wpAny_bind (m := Builtin.Tuple.tupleExact _) (wpAny_newObj_type (wpAny_pure ⟨_, rfl, wpAny_pure h⟩) htake)
    | exact wpAny_bind (m := Builtin.Tuple.tupleExact _) (wpAny_newObj_type (wpAny_bind (wpAny_pure (wpAny_pure ⟨_, rfl, wpAny_pure h⟩))) htake)
    | exact wpAny_bind (wpAny_bind (m := Builtin.Tuple.tupleExact _) (wpAny_newObj_type (wpAny_pure (wpAny_pure ⟨_, rfl, wpAny_pure h⟩)) htake))
    | exact wpAny_bind (wpAny_bind (m := Builtin.Tuple.tupleExact _) (wpAny_newObj_type (wpAny_pure ⟨_, rfl, wpAny_pure h⟩) htake))
end
section
variable {X : Cx} {W : WX}
def tRevT (K : PySem.W.Frag) (te : TE) : TE := fun σ H Q => te σ H fun x H1 => ∃ a xs, x = .ref a ∧ SqT K H1 a xs ∧ ∀ p, H1 p = none → Q (.ref p) (upd H1 p (.tup xs.reverse))
theorem pe_revT {e : Expr} {te : TE} {k : Nat} {p1 p2 p3 pos : Pos} (he : PE X e te) : PE X (.Subscript e (.Slice none none (some (.UnaryOp .USub (.Constant (.int 1) k p1) p2)) p3) pos) (tRevT X.K te) := by
  refine ⟨fun pins s σ H Q I h => ?_⟩
  refine Subscript_ (thn (he.run pins s σ H _ I h) fun v s1 ⟨x, H1, I1, r1, q1⟩ => ?_)
  obtain ⟨a, xs, ex, hx, q⟩ := q1
  subst ex
  cases r1
  have hst : PO X (some (.UnaryOp .USub (.Constant (.int 1) k p1) p2)) (tPart (tUn (rU fun i => .int (-i)) (tC (.int 1)))) := po_some (pe_un un_neg pe_int)
  refine wpAny_Slice (thn (po_none.run pins s1 σ H1 (fun o H2 => o = none ∧ H2 = H1) I1 ⟨rfl, rfl⟩) fun vl s2 ⟨l, H2, I2, pl, el, e2⟩ => ?_)
  subst el e2
  refine thn (po_none.run pins s2 σ H2 (fun o H3 => o = none ∧ H3 = H2) I2 ⟨rfl, rfl⟩) fun vu s3 ⟨u, H3, I3, pu, eu, e3⟩ => ?_
  subst eu e3
  refine thn (hst.run pins s3 σ H3 (fun o H4 => o = some (-1) ∧ H4 = H3) I3 ⟨1, rfl, -1, rfl, rfl, rfl⟩) fun vs s4 ⟨o, H4, I4, ps, eo, e4⟩ => ?_
  subst eo e4
  cases pl
  cases pu
  have I5 : Inv X pins σ H4 { s4 with heap := s4.heap.push { cls := .type "slice", data := .fields #[.none, .none, vs] } } := I4.kept (t' := s4.toks) fun b ob q => Heap.get?_push_of_some _ q
  obtain ⟨its, r, ht, hz⟩ := I5.tuple hx
  have hlen := r.length
  show wpAny (model X.prog X.w) X.A (subscriptTail e (.Slice none none (some (.UnaryOp .USub (.Constant (.int 1) k p1) p2)) p3) (.ref a) (.ref s4.heap.objs.size)) (EP X pins σ Q) X.xe { s4 with heap := s4.heap.push { cls := .type "slice", data := .fields #[.none, .none, vs] } }
  refine tail_any (ops := [.ref a, .ref s4.heap.objs.size]) ht.typeIs (PyProof.Rows.slot_tuple_getitem.lookup) ?_ (by with_unfolding_all rfl)
  refine getItem_tuple_rev ht (Heap.IsSliceOf.new _ .none .none vs) ps ?_ (by rw [List.size_toArray]; omega)
  refine ⟨.ref _, _, I5.laid (t' := s4.toks) (o := .tup xs.reverse) (fun b ob q => Heap.get?_push_of_some _ q) (Nat.le_refl _) ?_, rfl, q _ (I5.hok.fresh (Nat.le_refl _))⟩
  exact ⟨by rw [List.length_reverse]; exact hz, _, r.reverse, IsTup.new _ _⟩
def wRevT (we : WE) : WE := fun R δ μ P => we R δ μ fun d μ1 => isTup d = true ∧ ∃ xs, itemsOf μ1 d = some xs ∧ P (.tup xs.reverse) μ1
theorem q_revT {e : Expr} {we : WE} {k : Nat} {p1 p2 p3 pos : Pos} (he : QE X W e we) : QE X W (.Subscript e (.Slice none none (some (.UnaryOp .USub (.Constant (.int 1) k p1) p2)) p3) pos) (wRevT we) := by
  obtain ⟨t, h1, h2⟩ := he
  refine ⟨_, pe_revT h1, fun R ι μ δ σ H P Q c hw kk => h2 R ι μ δ σ H _ _ c hw fun v d ι1 μ1 H1 s1 r1 i1 q1 => ?_⟩
  obtain ⟨ht, xs, ex, q⟩ := q1
  obtain ⟨a, ys, ev, hq, hi⟩ := items_seq r1 i1 ex
  rw [ht] at hq
  refine ⟨a, ys, ev, hq, fun pn hp => ?_⟩
  exact (kk.stp s1) (.ref pn) (.tup xs.reverse) ι1 μ1 _ (Stp.new hp) (r1.new hp) ⟨pn, _, rfl, SqT.of upd_same, IsAll.stp (Stp.new hp) _ _ hi.rev⟩ q
end
end HD
/-! HD20: dicts with ints as keys; list(range(a, b)); not in, over values. -/
namespace HD
open PySem PySem.Spec PyProof.Rows L2
def valD (kvs : List (Key × D)) (k : Key) : Option D := (kvs.find? fun kv => decide (kv.1 = k)).map (·.2)
def putD (kvs : List (Key × D)) (k : Key) (d : D) : List (Key × D) :=
  if (kvs.any fun kv => decide (kv.1 = k)) = true then kvs.map (fun kv => if kv.1 = k then (kv.1, d) else kv) else kvs ++ [(k, d)]
section
variable {K : PySem.W.Frag} {ι : List Addr} {H : Hp}
theorem any_zipK (k : Key) : ∀ {kvs : List (Key × D)} {vs : List V}, IsAll K ι H (kvs.map (·.2)) vs → (((kvs.map (·.1)).zip vs).any fun kv => decide (kv.1 = k)) = (kvs.any fun kv => decide (kv.1 = k))
  | [], vs, h => rfl
  | (j, x) :: r, _, h => by
    obtain ⟨w, vr, rfl, q1, t⟩ := h
    show (decide (j = k) || ((r.map (·.1)).zip vr).any fun kv => decide (kv.1 = k)) = _
    rw [any_zipK k t, List.any_cons]
theorem map_zipK (k : Key) {d : D} {v : V} (q : Is K ι H d v) : ∀ {kvs : List (Key × D)} {vs : List V}, IsAll K ι H (kvs.map (·.2)) vs → ∃ vs', ((kvs.map (·.1)).zip vs).map (fun kv => if kv.1 = k then (kv.1, v) else kv) = ((kvs.map (fun kv => if kv.1 = k then (kv.1, d) else kv)).map (·.1)).zip vs' ∧ IsAll K ι H ((kvs.map (fun kv => if kv.1 = k then (kv.1, d) else kv)).map (·.2)) vs'
  | [], vs, h => ⟨[], rfl, rfl⟩
  | (j, x) :: r, _, h => by
    obtain ⟨w, vr, rfl, q1, t⟩ := h
    obtain ⟨vs', e1, e2⟩ := map_zipK k q t
    by_cases c : j = k
    · refine ⟨v :: vs', ?_, ?_⟩
      · simp only [List.map_cons, List.zip_cons_cons, if_pos c]
        rw [e1]
      · simp only [List.map_cons, if_pos c]
        exact ⟨v, vs', rfl, q, e2⟩
    · refine ⟨w :: vs', ?_, ?_⟩
      · simp only [List.map_cons, List.zip_cons_cons, if_neg c]
        rw [e1]
      · simp only [List.map_cons, if_neg c]
        exact ⟨w, vs', rfl, q1, e2⟩
theorem zip_appK {k : Key} {v : V} {d : D} (q : Is K ι H d v) : ∀ {kvs : List (Key × D)} {vs : List V}, IsAll K ι H (kvs.map (·.2)) vs → (kvs.map (·.1)).zip vs ++ [(k, v)] = ((kvs ++ [(k, d)]).map (·.1)).zip (vs ++ [v]) ∧ IsAll K ι H ((kvs ++ [(k, d)]).map (·.2)) (vs ++ [v])
  | [], vs, h => by
    have e : vs = [] := h
    subst e
    exact ⟨rfl, v, [], rfl, q, rfl⟩
  | (j, x) :: r, _, h => by
    obtain ⟨w, vr, rfl, q1, t⟩ := h
    obtain ⟨e1, e2⟩ := zip_appK q t
    refine ⟨?_, w, vr ++ [v], rfl, q1, e2⟩
    show (j, w) :: ((r.map (·.1)).zip vr ++ [(k, v)]) = (j, w) :: (((r ++ [(k, d)]).map (·.1)).zip (vr ++ [v]))
    rw [e1]
theorem put_zipK (k : Key) {d : D} {v : V} (q : Is K ι H d v) {kvs : List (Key × D)} {vs : List V} (h : IsAll K ι H (kvs.map (·.2)) vs) : ∃ vs', putK ((kvs.map (·.1)).zip vs) k v = ((putD kvs k d).map (·.1)).zip vs' ∧ IsAll K ι H ((putD kvs k d).map (·.2)) vs' := by
  unfold putK putD
  rw [any_zipK k h]
  by_cases c : (kvs.any fun kv => decide (kv.1 = k)) = true
  · rw [if_pos c, if_pos c]
    exact map_zipK k q h
  · rw [if_neg c, if_neg c]
    exact ⟨vs ++ [v], zip_appK q h⟩
theorem zip_lenK {kvs : List (Key × D)} {vs : List V} (h : IsAll K ι H (kvs.map (·.2)) vs) : ((kvs.map (·.1)).zip vs).length = kvs.length := by
  rw [List.length_zip, List.length_map, h.length, List.length_map, Nat.min_self]
theorem val_zipK (k : Key) {d : D} : ∀ {kvs : List (Key × D)} {vs : List V}, IsAll K ι H (kvs.map (·.2)) vs → valD kvs k = some d → ∃ v, valV ((kvs.map (·.1)).zip vs) k = some v ∧ Is K ι H d v
  | [], vs, h, g => by cases g
  | (j, x) :: r, _, h, g => by
    obtain ⟨w, vr, rfl, q1, t⟩ := h
    show ∃ v, valV ((j, w) :: (r.map (·.1)).zip vr) k = some v ∧ _
    by_cases c : j = k
    · rw [valV_pos c]
      have e : x = d := by
        have : valD ((j, x) :: r) k = some x := by simp [valD, List.find?_cons, c]
        rw [this] at g
        exact Option.some.inj g
      subst e
      exact ⟨w, rfl, q1⟩
    · rw [valV_neg c]
      have e : valD ((j, x) :: r) k = valD r k := by simp [valD, List.find?_cons, c]
      rw [e] at g
      exact val_zipK k t g
theorem keys_zipK {kvs : List (Key × D)} {vs : List V} (h : IsAll K ι H (kvs.map (·.2)) vs) : ((kvs.map (·.1)).zip vs).map (·.1) = kvs.map (·.1) := by
  rw [List.map_fst_zip]
  rw [h.length, List.length_map, List.length_map]
  exact Nat.le_refl _
theorem Rel.dct {μ : Sto} (r : Rel K ι μ H) {k : Nat} {kvs : List (Key × D)} (h : cell μ k = some (.dct kvs)) : ∃ a vs, ι[k]? = some a ∧ H a = some (.dK ((kvs.map (·.1)).zip vs)) ∧ IsAll K ι H (kvs.map (·.2)) vs := by
  obtain ⟨a, e, vs, h1, h2⟩ := r.at_ k _ h
  exact ⟨a, vs, e, h1, h2⟩
end
section
variable {X : Cx} {W : WX} {pos p : Pos} {o i e a b : Expr} {wo wi we wa wb wd : WE}
/-! {} -/
def wDNew : WE := fun R δ μ P => P (.ref μ.length) (μ ++ [.dct []])
theorem q_dnew : QE X W (.Dict [] [] pos) wDNew := by
  refine ⟨_, pe_dnewK, fun R ι μ δ σ H P Q c h k => fun pn hp => ?_⟩
  exact k (.ref pn) (.ref μ.length) (ι ++ [pn]) _ _ (Stp.push hp) (c.rel.push (u := .dct []) hp ⟨[], upd_same, rfl⟩) (is_pushed c.rel) h
/-! d[n] = v -/
def wSetD (o i v : D) (μ : Sto) (P : Sto → Prop) : Prop := match o, i with
  | .ref k, .int n => match cell μ k with
    | some (.dct kvs) => kvs.length < 1000 ∧ P (μ.set k (.dct (putD kvs (.inl n) v)))
    | _ => False
  | _, _ => False
def wgSubD (wo wi : WE) : WG := fun R d δ μ P => wo R δ μ fun o μ1 => wi R δ μ1 fun i μ2 => wSetD o i d μ2 fun μ3 => P δ μ3
theorem qg_subD (hu : X.A.units + 1 < cLine) (ho : QE X W o wo) (hi : QE X W i wi)
    (ha : ∀ v, assign (.Subscript o i pos) X.env v = (do
      let ov ← holding [v] (eval o X.env)
      let iv ← holding [v, ov] (eval i X.env)
      standAt pos
      holding [v, ov, iv] (setItem ov iv v)
      release [v, ov, iv] []) := by intro _; rfl) : QG X W (.Subscript o i pos) (wgSubD wo wi) := by
  obtain ⟨t, h1, h2⟩ := ho
  obtain ⟨t', h3, h4⟩ := hi
  refine ⟨_, pg_sub h1 h3 (set_dict hu) ha, fun R ι μ δ σ H v d P Q c hv h k => ?_⟩
  refine h2 R ι μ δ σ H _ _ c h fun x o ι1 μ1 H1 s1 r1 i1 q1 => h4 R ι1 μ1 δ σ H1 _ _ (c.stp s1 r1) q1 fun y i ι2 μ2 H2 s2 r2 i2 q2 => ?_
  unfold wSetD at q2
  split at q2
  · rename_i kk nn
    split at q2
    · rename_i kvs ec
      obtain ⟨hl, q2⟩ := q2
      obtain ⟨a, vs, e1, e2, e3⟩ := r2.dct ec
      have i1' := Is.stp s2 _ _ i1
      obtain ⟨a', ea', ex⟩ := i1'
      rw [e1] at ea'
      cases ea'
      have hv2 := Is.stp (s1.trans s2) _ _ hv
      obtain ⟨vs', p1, p2⟩ := put_zipK (.inl nn) hv2 e3
      have ey : y = kV (.inl nn) := i2
      refine ⟨a, _, ex, by rw [ey]; exact DPut.k e2 (by rw [zip_lenK e3]; exact Nat.lt_of_lt_of_le hl (by decide)), ?_⟩
      rw [p1]
      have sm : Stp ι2 H2 ι2 (upd H2 a (.dK (((putD kvs (.inl nn) d).map (·.1)).zip vs'))) := Stp.mut e2 rfl
      exact k ι2 _ _ δ σ ((s1.trans s2).trans sm) (r2.writeO (u := .dct (putD kvs (.inl nn) d)) ec e1 e2 rfl ⟨vs', upd_same, IsAll.stp sm _ _ p2⟩) ((c.env.stp (s1.trans s2)).stp sm) q2
    · exact q2.elim
  · exact q2.elim
/-! d[n] -/
def wDGet (wd wi : WE) : WE := fun R δ μ P => wd R δ μ fun d μ1 => wi R δ μ1 fun i μ2 => match d, i with
  | .ref k, .int n => match cell μ2 k with
    | some (.dct kvs) => match valD kvs (.inl n) with
      | some v => P v μ2
      | none => False
    | _ => False
  | _, _ => False
theorem q_dget (hu : X.A.units + 1 < cLine) (ho : QE X W o wo) (hi : QE X W i wi) (hs : NoSl i := by intro _ _; rfl) : QE X W (.Subscript o i pos) (wDGet wo wi) := by
  obtain ⟨t, h1, h2⟩ := ho
  obtain ⟨t', h3, h4⟩ := hi
  refine ⟨_, pe_dget hu h1 h3 hs, fun R ι μ δ σ H P Q c h k => ?_⟩
  refine h2 R ι μ δ σ H _ _ c h fun x o ι1 μ1 H1 s1 r1 i1 q1 => h4 R ι1 μ1 δ σ H1 _ _ (c.stp s1 r1) q1 fun y i ι2 μ2 H2 s2 r2 i2 q2 => ?_
  split at q2
  · rename_i kk nn
    split at q2
    · rename_i kvs ec
      split at q2
      · rename_i v ev
        obtain ⟨a, vs, e1, e2, e3⟩ := r2.dct ec
        have i1' := Is.stp s2 _ _ i1
        obtain ⟨a', ea', ex⟩ := i1'
        rw [e1] at ea'
        cases ea'
        obtain ⟨u, u1, u2⟩ := val_zipK (.inl nn) e3 ev
        have ey : y = kV (.inl nn) := i2
        refine ⟨a, u, ex, ?_, (k.stp (s1.trans s2)).at r2 u2 q2⟩
        rw [ey, ← u1]
        exact DGet.k e2
      · exact q2.elim
    · exact q2.elim
  · exact q2.elim
end
end HD
namespace HD
open PySem PySem.Spec PyProof.Rows L2
section
variable {X : Cx} {W : WX} {pos p pr : Pos} {o i e a b : Expr} {wo wi we wa wb wd : WE}
/-! sorted(d) -/
def wSortD : WB := fun ds μ P => match ds with
  | [.ref k] => match cell μ k with
    | some (.dct kvs) => ∃ ks : List Int, kvs.map (·.1) = ks.map Sum.inl ∧ ks.length < 64 ∧ ∀ ms : List Int, ms.Perm ks → ms.Pairwise (· ≤ ·) → P (.ref μ.length) (μ ++ [.lst (ms.map D.int)])
    | _ => False
  | _ => False
theorem qb_sortedD (hc : X.calm = true) : QB X (.builtin "sorted") wSortD := ⟨_, call_sortedDI hc, fun ι μ H vs ds P Q r i h k => by
  unfold wSortD at h
  split at h
  · rename_i kk
    split at h
    · rename_i kvs ec
      obtain ⟨ks, hk, h64, q⟩ := h
      obtain ⟨v, e1, iv⟩ := isAll1 i
      obtain ⟨a', ea, ev⟩ := iv
      obtain ⟨a, vs', e2, e3, e4⟩ := r.dct ec
      rw [e2] at ea
      cases ea
      subst ev
      refine ⟨_, _, ks, e1, .inl e3, by rw [keys_zipK e4, hk], h64, fun ms pn h1 h2 hp => ?_⟩
      exact k (.ref pn) (.ref μ.length) (ι ++ [pn]) _ _ (Stp.push hp) (r.pushLst hp (isAll_ints ms)) (is_pushed r) (q ms h1 h2)
    · exact h.elim
  · exact h.elim⟩
/-! d == {} -/
def rEqD0 : R2 := fun x y H Q => ∃ a b ks, x = .ref a ∧ y = .ref b ∧ H a = some (.dK ks) ∧ H b = some (.dK []) ∧ Q (.bl ks.isEmpty) H
theorem op_eqD0 (hu : X.A.units < cLine) : OpR X (compareOp .Eq) rEqD0 := by
  intro pins s σ H x y v u Q I rx ry h
  obtain ⟨a, b, ks, rfl, rfl, ea, eb, q⟩ := h
  obtain rfl : v = Value.ref a := rx
  obtain rfl : u = Value.ref b := ry
  obtain ⟨_, ya, va, ra, da⟩ := (show ObjOk X.prog X.w H s.heap a (.dK ks) from I.hok a _ ea)
  obtain ⟨_, yb, vb, rb, db⟩ := (show ObjOk X.prog X.w H s.heap b (.dK []) from I.hok b _ eb)
  have hb : vb.length = 0 := by rw [← rb.length] <;> rfl
  refine PySem.W.keq_eq (knd := mixKind X.prog X.w) (r := true) ya yb da db hu (fun hl => ?_) (fin_bl I q ?_)
  · have : va = [] := List.length_eq_zero_iff.mp (by omega)
    subst this
    exact .nil
  · rw [Bool.and_true, hb, ← ra.length]
    cases ks with
    | nil => rfl
    | cons => rfl
def wEqD0 : WO := fun d e μ P => ∃ k j kvs, d = .ref k ∧ e = .ref j ∧ cell μ k = some (.dct kvs) ∧ cell μ j = some (.dct []) ∧ P (.bl kvs.isEmpty) μ
theorem qo_eqD0 (hu : X.A.units + 64 < cLine) : QO X (compareOp .Eq) wEqD0 := by
  refine ⟨_, op_eqD0 (by omega), fun ι μ H x y d e P Q r i1 i2 h k => ?_⟩
  obtain ⟨kk, j, kvs, rfl, rfl, c1, c2, q⟩ := h
  obtain ⟨a, ea, rfl⟩ := i1
  obtain ⟨b, eb, rfl⟩ := i2
  obtain ⟨a', vs, f1, f2, f3⟩ := r.dct c1
  obtain ⟨b', ws, g1, g2, g3⟩ := r.dct c2
  rw [f1] at ea
  cases ea
  rw [g1] at eb
  cases eb
  refine ⟨a, b, _, rfl, rfl, f2, ?_, k.at r (d := .bl _) ?_ q⟩
  · have : ws = [] := g3
    rw [g2]
    rfl
  · show V.bl _ = V.bl _
    have hz := zip_lenK f3
    congr 1
    cases kvs with
    | nil => rfl
    | cons x t =>
      cases c : (List.map (fun kv : Key × D => kv.1) (x :: t)).zip vs with
      | nil =>
        rw [c] at hz
        cases hz
      | cons => rfl
/-! list(range(a, b)) -/
def rgD (i j : Int) : List D := (List.range (j - i).toNat).map fun k => D.int (i + (k : Nat))
def wLstRg (wa wb : WE) : WE := fun R δ μ P => wa R δ μ fun d μ1 => wb R δ μ1 fun e μ2 => match d, e with
  | .int i, .int j => RgOk i j ∧ P (.ref μ2.length) (μ2 ++ [.lst (rgD i j)])
  | _, _ => False
theorem isAll_rg {K : PySem.W.Frag} {ι : List Addr} {H : Hp} (i j : Int) : IsAll K ι H (rgD i j) (rgV i j) := by
  have e1 : rgD i j = ((List.range (j - i).toNat).map fun k => i + ((k : Nat) : Int)).map D.int := by
    unfold rgD
    rw [List.map_map]
    rfl
  have e2 : rgV i j = ((List.range (j - i).toNat).map fun k => i + ((k : Nat) : Int)).map V.int := by
    unfold rgV
    rw [List.map_map]
    rfl
  rw [e1, e2]
  exact isAll_ints _
theorem q_lstRg (hc : X.calm = true) (hg : Gl X "list") (hm : X.mg "list" = none) (hg2 : Gl X "range") (hm2 : X.mg "range" = none) (ha : QE X W a wa) (hb : QE X W b wb)
    (n1 : starEach [a, b] X.env = (false, eval a X.env) :: starEach [b] X.env := by rfl) (n2 : starEach [b] X.env = (false, eval b X.env) :: starEach [] X.env := by rfl) (n3 : (backTo pos (starEach [b] X.env)).any (·.1) = false := by rfl)
    (na : starEach [.Call (.Name "range" pr) [a, b] [] pos] X.env = (false, eval (.Call (.Name "range" pr) [a, b] [] pos) X.env) :: starEach [] X.env := by rfl) {p2 pos2 : Pos} :
    QE X W (.Call (.Name "list" p2) [.Call (.Name "range" pr) [a, b] [] pos] [] pos2) (wLstRg wa wb) := by
  obtain ⟨ta, a1, a2⟩ := ha
  obtain ⟨tb, b1, b2⟩ := hb
  refine ⟨_, pe_listRg hc hg hm (prg_2 hg2 hm2 a1 b1 n1 n2 n3) na, fun R ι μ δ σ H P Q c h k => ?_⟩
  refine a2 R ι μ δ σ H _ _ c h fun x d ι1 μ1 H1 s1 r1 i1 q1 => b2 R ι1 μ1 δ σ H1 _ _ (c.stp s1 r1) q1 fun y e ι2 μ2 H2 s2 r2 i2 q2 => ?_
  split at q2
  · rename_i i j
    obtain ⟨ok, q⟩ := q2
    have i1' : x = .int i := i1
    have i2' : y = .int j := i2
    refine ⟨i, j, i1', i2', ok, fun pn hp => ?_⟩
    exact (k.stp (s1.trans s2)) (.ref pn) (.ref μ2.length) (ι2 ++ [pn]) _ _ (Stp.push hp) (r2.pushLst hp (isAll_rg i j)) (is_pushed r2) q
  · exact q2.elim
/-! v not in l, by values -/
def wNotInP : WO := fun d e μ P => ∃ p ps, Py μ d p ∧ Py μ e (.list ps) ∧ SeqAt.shaped p = true ∧ SeqAt.shaped (.list ps) = true ∧ P (.bl (!ps.any fun z => PyData.eqv z p)) μ
theorem qo_notInP (hu : X.A.units + 65 < cLine) : QO X (compareOp .NotIn) wNotInP := by
  refine ⟨_, op_notInD hu, fun ι μ H x y d e P Q r i1 i2 h k => ?_⟩
  obtain ⟨p, ps, h1, h2, h3, h4, h5⟩ := h
  exact ⟨p, ps, Py.dp r p _ x h1 i1, Py.dp r _ _ y h2 i2, h3, h4, k.at r (d := .bl _) rfl h5⟩
end
end HD
namespace HD
theorem units1 {u c : Nat} (h : u + 64 < c) : u + 1 < c := by omega
end HD
/-! HD21: for i, x in enumerate(xs), a list or a tuple. -/
namespace PySem
open AutoSeq1 (wpAny_loadPart')
set_option maxHeartbeats 1000000 in
theorem meets_enumerate_newB1 {v : Value} {o : Obj} {H : Heap → Prop} (B : Begins v o H) :
    Meets (Builtin.«enumerate.__new__» ⟨[.type "enumerate", v], []⟩) (fun _ R s => H s.heap ∧
      R (.ok (.ret (.ref (s.heap.push o).objs.size))) { s with heap := (s.heap.push o).push { cls := .type "enumerate", data := .fields #[.none, .bool false, .ref s.heap.objs.size, rawInt 0, .none, .none] } }) :=
  .of_wp fun prog w A R s h => by
    obtain ⟨hp, g, d, tk, os⟩ := s; obtain ⟨h1, h⟩ := h
    have hsub := sub_enumerate
    have q1 : ∀ {A' : Around} {E : Value → Shared → Prop} {Q : Value → Shared → Prop}, Q (.ref hp.objs.size) ⟨hp.push o, g, d, tk, os⟩ → wpAny (model prog w) A' (pyIter v) Q E ⟨hp, g, d, tk, os⟩ :=
      fun q => B.iter prog w _ _ ⟨hp, g, d, tk, os⟩ _ h1 q
    wp_walk using q1
    refine wpAny_stack_any fun st => wpAny_pure ?_
    split
    · rename_i c _ _ _ _ _
      cases (c == Value.type "enumerate")
      · wp_walk using q1
        exact ⟨_, rfl, h⟩
      · wp_walk using q1
        exact ⟨_, rfl, h⟩
    · wp_walk using q1
      exact ⟨_, rfl, h⟩
section
variable {prog : Program} {w : World} {A : Around} {E : Value → Shared → Prop} {s : Shared}
theorem enum_begins1 {v : Value} {o : Obj} {H : Heap → Prop} {Q : Value → Shared → Prop} (B : Begins v o H) (h1 : H s.heap)
    (h : ∀ h', IsEnum h' (s.heap.objs.size + 1) s.heap.objs.size 0 .none → h'.get? s.heap.objs.size = some o → h'.objs.size = s.heap.objs.size + 2 →
      (∀ b o, s.heap.get? b = some o → h'.get? b = some o) → Q (.ref (s.heap.objs.size + 1)) { s with heap := h' }) :
    wpAny (model prog w) A (call (.type "enumerate") [v]) Q E s := by
  refine callType_new F.called_enumerate (by decide) (F.typeCall_enumerate_1 _) (F.newCall_enumerate_1 _) (fun obj => F.args_object_init_2 obj _) F.entry_enumerate_new
    (meets_enumerate_newB1 B) ⟨h1, ?_⟩
  have hz : (s.heap.push o).objs.size = s.heap.objs.size + 1 := Heap.size_push ..
  show _ ∧ _
  rw [hz]
  have he : IsEnum ((s.heap.push o).push { cls := .type "enumerate", data := .fields #[.none, .bool false, .ref s.heap.objs.size, rawInt 0, .none, .none] }) (s.heap.objs.size + 1) s.heap.objs.size 0 .none := by
    have := Heap.get?_push_size (s.heap.push o) (o := { cls := .type "enumerate", data := .fields #[.none, .bool false, .ref s.heap.objs.size, rawInt 0, .none, .none] }) rfl
    rw [hz] at this; exact this
  refine ⟨⟨_, he, rfl⟩, h _ he (Heap.get?_push_of_some _ (Heap.get?_push_size _ B.free)) (by rw [Heap.size_push, hz]) fun b o x => Heap.get?_push_of_some _ (Heap.get?_push_of_some _ x)⟩
theorem next_enum_endT {e it l : Addr} {i : Nat} {items : Array Value} {old : Value} {Q : Option Value → Shared → Prop} (hh : A.handled = none)
    (he : IsEnum s.heap e it i old) (hit : s.heap.IsTupleIter it l i) (hl : s.heap.IsTuple l items) (hx : items[i]? = none)
    (hQ : ∀ h', Heap.ExtBut it s.heap h' → Q none { s with heap := h' }) : wpAny (model prog w) A (pyNext (.ref e)) Q E s := by
  have hT : s.TypeIs (.ref e) "enumerate" := ⟨_, he, rfl⟩
  unfold pyNext
  refine wpAny_bind (wpAny_attempt (wpAny_callSpecial?_slot (name := Str.ofString "__next__") hT F.slot_enumerate_next
    (wpAny_call_entry F.slot_enumerate_next hT F.entry_enumerate_next ?_ (F.args_enumerate_next_1 _))))
  show wpAny _ _ (field (.ref e) 2 >>= _) _ _ _
  refine wpAny_bind (wpAny_field he rfl (x := .ref it) rfl ?_)
  refine wpAny_bind (wpAny_nextOf_tuple_end hh hit hl hx fun h' x he' hx' => ?_)
  obtain ⟨o, ho, hc⟩ := hx'
  refine wpAny_bind (wpAny_isInstance (T := "StopIteration") (b := true) ⟨o, ho, hc⟩ isSubtype_stop ?_)
  exact wpAny_pure (hQ _ he')
end
end PySem
namespace HD
open PySem PySem.Spec PyProof.Rows L2
def IteT (K : PySem.W.Frag) (a : Addr) : It :=
  ⟨fun i H => ∃ (xs : List V) (x : V), SqT K H a xs ∧ xs[i]? = some x, fun i H v H' => ∃ T x, v = .ref T ∧ H T = none ∧ H' = upd H T (.tup [.int (i : Nat), x]) ∧ ∀ xs, SqT K H a xs → xs[i]? = some x, fun i H => ∃ xs : List V, SqT K H a xs ∧ xs.length ≤ i⟩
theorem turn_enumT {P : Program} {w : World} {K : PySem.W.Frag} {elts : List Expr} {kk : Nat} {tpos : Pos} (a e it : Addr) :
    Turn P w K (.Tuple elts kk tpos) (IteT K a) [e, it] e (fun i h => (∃ old, IsEnum h e it ((i : Nat) : Int) old) ∧ h.IsTupleIter it a i ∧ e ≠ it ∧ a ≠ it ∧ e ≠ a) where
  mem := by simp
  obj := fun i h st b hb => by
    obtain ⟨⟨old, he⟩, ⟨o, ho, hc, hd⟩, _⟩ := st
    have e' : b = e ∨ b = it := by simpa using hb
    rcases e' with z | z
    · rw [z]; exact ⟨_, he, fun v q => nomatch q⟩
    · rw [z]; exact ⟨o, ho, fun v q => by rw [hd] at q; cases q⟩
  keep := fun i h h' st k => let ⟨⟨old, he⟩, hi, hne⟩ := st; ⟨⟨old, k e (by simp) _ he⟩, hi.at fun o q => k it (by simp) o q, hne⟩
  item := by
    intro X hP hw hK hc i pins s σ H E I hf st hg
    subst hP hw hK
    obtain ⟨⟨old, he⟩, hit, hne, hai, hea⟩ := st
    obtain ⟨xs, x, hq, hx⟩ := hg
    obtain ⟨its, rv, p, hz⟩ := I.tuple hq
    obtain ⟨u, hu, ru⟩ := rv.get hx
    have hel : e < s.heap.objs.size := Heap.lt_size he
    have hil : it < s.heap.objs.size := by obtain ⟨_, q, _⟩ := hit; exact Heap.lt_size q
    have hlt : i < its.toArray.size := by
      have := (List.getElem?_eq_some_iff.mp hu).1
      simpa using this
    refine wpAny_pyNext_enum_itemD (Draws.tuple (A := X.A.in1) (I.ok.hd hc) it a hai its.toArray) he ⟨hit, p⟩ hlt hne (by simp [hne, hea]) fun x' h' tk hx' ho hst hT hsz hk => ?_
    have ex : x' = u := by
      have h1 : its.toArray[i]? = some x' := hx'
      have h2 : its.toArray[i]? = some u := by simpa using hu
      exact Option.some.inj (h1.symm.trans h2)
    subst ex
    obtain ⟨hit', _⟩ := hst
    refine ⟨_, rfl, wpAny_letOwnedTupleGo_enum (s := { s with heap := h', toks := tk + 1 }) ho fun h'' he' sb => ?_⟩
    have hT2 : h''.get? s.heap.objs.size = some { cls := .type "tuple", data := .seq #[.int i tk, x'] } := (sb.2 _ (Nat.ne_of_gt hel)).trans hT
    have new : ObjOk X.prog X.w (upd H s.heap.objs.size (.tup [.int (i : Nat), x])) h'' s.heap.objs.size (.tup [.int (i : Nat), x]) :=
      ⟨by show 2 ≤ sizeLine; decide, [.int i tk, x'], .cons ⟨_, rfl⟩ (.cons ru .nil), ⟨_, hT2, rfl, _, rfl⟩⟩
    have I1 : Inv X pins σ (upd H s.heap.objs.size (.tup [.int (i : Nat), x])) { s with heap := h'', toks := tk + 1 } :=
      I.turnedNew (t' := tk + 1) (ch := [e, it]) (fun b ob hb q => (sb.2 b (fun z => hb (by simp [z]))).trans (hk b ob (fun z => hb (by simp [z])) (fun z => hb (by simp [z])) q)) hf (Nat.le_refl _) new
    refine ⟨.ref s.heap.objs.size, _, I1, rfl, ⟨_, x, rfl, I.hok.fresh (Nat.le_refl _), rfl, fun ys hy => by rw [I.tuple_inj hy hq]; exact hx⟩, ⟨⟨x', ?_⟩, hit'.at fun o q => (sb.2 it (Ne.symm hne)).trans q, hne, hai, hea⟩, fun b hb => ?_⟩
    · have e1 : ((i + 1 : Nat) : Int) = (i : Int) + 1 := by omega
      rw [e1]; exact he'
    · have hb' : b < s.heap.objs.size := by
        have e' : b = e ∨ b = it := by simpa using hb
        rcases e' with z | z
        · rw [z]; exact hel
        · rw [z]; exact hil
      rw [upd_ne (Nat.ne_of_lt hb')]
      exact (hf b hb).1
  done := by
    intro X hP hw hK hc i pins s σ H E I hf st hg
    subst hP hw hK
    obtain ⟨⟨old, he⟩, hit, hne, hai, hea⟩ := st
    obtain ⟨xs, hq, hx⟩ := hg
    obtain ⟨its, rv, p, hz⟩ := I.tuple hq
    obtain ⟨f0, f1, f2, f3, f4, f5⟩ := hf it (by simp)
    have hl := rv.length
    exact next_enum_endT (I.ok.hd hc) he hit p (by simp; omega) fun h' eb => ⟨rfl, I.turned (t' := s.toks) (fun b o hb q => eb b o hb q) f0 f1 f3 f4 f5⟩
  self := fun A i s Q E st h => let ⟨⟨_, he⟩, _⟩ := st; wpAny_pyIter_enum he h
def iEnumA (K : PySem.W.Frag) (ta : TA) : TI := fun σ H R => ta σ H fun vs H1 => ∃ a xs, vs = [.ref a] ∧ ((SqL K H1 a xs ∧ R (Ite K a) H1) ∨ (SqT K H1 a xs ∧ R (IteT K a) H1))
theorem pi_enumA {X : Cx} {e : Expr} {ta : TA} {p pos tpos : Pos} {elts : List Expr} {kk : Nat} (hg : Gl X "enumerate") (hm : X.mg "enumerate" = none) (ha : PA X [e] ta) (hs : starEach [e] X.env = [(false, eval e X.env)] := by rfl) :
    PI X (.Tuple elts kk tpos) (.Call (.Name "enumerate" p) [e] [] pos) (iEnumA X.K ta) := by
  refine ⟨fun pins s σ H R I h => ?_⟩
  refine Call_ (ld_blt I hg hm boot_enumerate (PyProof.Rows.callWith_type1 (thn (ha.run pos pins s σ H _ I h) fun us s1 ⟨vs, H1, I1, r1, q1⟩ => ?_) hs rfl))
  obtain ⟨a, xs, ex, q⟩ := q1
  subst ex
  cases r1 with
  | cons r rr =>
    cases rr
    cases r
    have fp : ∀ b ∈ [s1.heap.objs.size + 1, s1.heap.objs.size], s1.heap.objs.size ≤ b := fun b hb => by
      have e' : b = s1.heap.objs.size + 1 ∨ b = s1.heap.objs.size := by simpa using hb
      rcases e' with z | z
      · rw [z]; exact Nat.le_add_right _ _
      · rw [z]; exact Nat.le_refl _
    rcases q with ⟨hq, q⟩ | ⟨hq, q⟩
    · obtain ⟨its, rv, p', hz⟩ := I1.list hq
      refine call_enumerate_list p'.isList fun h' he hit hsz hk => wpAny_pyIter_enum he ?_
      have I2 : Inv X pins σ H1 { s1 with heap := h' } := I1.kept (t' := s1.toks) hk
      exact ⟨s1.heap.objs.size + 1, [s1.heap.objs.size + 1, s1.heap.objs.size], _, _, H1, rfl, I2, turn_enum a (s1.heap.objs.size + 1) s1.heap.objs.size, ⟨⟨.none, he⟩, hit, Nat.succ_ne_self _⟩, fun b hb => I1.fpOk (fp b hb) (I1.hok.fresh (fp b hb)), q⟩
    · obtain ⟨its, rv, p', hz⟩ := I1.tuple hq
      have al : a < s1.heap.objs.size := by
        obtain ⟨o, ho, _⟩ := p'
        exact Heap.lt_size ho
      refine enum_begins1 (begins_tuple a its.toArray) p' fun h' he hit hsz hk => wpAny_pyIter_enum he ?_
      have I2 : Inv X pins σ H1 { s1 with heap := h' } := I1.kept (t' := s1.toks) hk
      exact ⟨s1.heap.objs.size + 1, [s1.heap.objs.size + 1, s1.heap.objs.size], _, _, H1, rfl, I2, turn_enumT a (s1.heap.objs.size + 1) s1.heap.objs.size, ⟨⟨.none, he⟩, ⟨_, hit, rfl, rfl⟩, Nat.succ_ne_self _, Nat.ne_of_lt al, Nat.ne_of_gt (Nat.lt_succ_of_lt al)⟩, fun b hb => I1.fpOk (fp b hb) (I1.hok.fresh (fp b hb)), q⟩
def ItE (K : PySem.W.Frag) (k : Bool) (a : Addr) : It := match k with
  | true => IteT K a
  | false => Ite K a
section
variable {K : PySem.W.Frag} {a : Addr} {i : Nat} {H : Hp}
theorem ItE.go {k : Bool} {xs : List V} {x : V} (qx : Sq K k H a xs) (ex : xs[i]? = some x) : (ItE K k a).go i H := by
  cases k
  · exact ⟨xs, x, qx, ex⟩
  · exact ⟨xs, x, qx, ex⟩
theorem ItE.stop {k : Bool} {xs : List V} (qx : Sq K k H a xs) (e : xs.length ≤ i) : (ItE K k a).stop i H := by
  cases k
  · exact ⟨xs, qx, e⟩
  · exact ⟨xs, qx, e⟩
theorem ItE.yld {k : Bool} {v : V} {H' : Hp} (h : (ItE K k a).yld i H v H') : ∃ T x, v = .ref T ∧ H T = none ∧ H' = upd H T (.tup [.int (i : Nat), x]) ∧ ∀ xs, Sq K k H a xs → xs[i]? = some x := by
  cases k
  · exact h
  · exact h
end
section
variable {X : Cx} {W : WX} {pos p p0 tpos : Pos}
def wForE (wa : WA) (wg : WG) (wb : WS) : WS := fun R E δ μ => wa R δ μ fun ds μ1 => match ds with
  | [d1] => ∃ (xs : List D) (Pv : Nat → En → Sto → Prop), Pv 0 δ μ1 ∧ (∀ i δ' μ', Pv i δ' μ' → itemsOf μ' d1 = some xs) ∧
    (∀ i x δ' μ', xs[i]? = some x → Pv i δ' μ' → wg R (.tup [.int (i : Nat), x]) δ' μ' fun δ2 μ2 => wb R { E with nx := Pv (i + 1), ct := Pv (i + 1), bk := E.nx } δ2 μ2) ∧ ∀ δ' μ', Pv xs.length δ' μ' → E.nx δ' μ'
  | _ => False
theorem qs_forE {elts : List Expr} {kk : Nat} {e : Expr} {body : List Stmt} {wa : WA} {wg : WG} {wb : WS} (hp : PassesOwn (model X.prog X.w) X.A X.env X.xe) (hc : X.calm = true) (hg : Gl X "enumerate") (hm : X.mg "enumerate" = none) (ha : QA X W [e] wa) (hgt : QG X W (.Tuple elts kk tpos) wg) (hb : QSs X W body wb)
    (hst : starEach [e] X.env = [(false, eval e X.env)] := by rfl)
    (hs : ∀ x, foldedSetIterable (.Call (.Name "enumerate" p0) [e] [] p) X.env x = pure x := by intro _; rfl) : QS X W (.For (.Tuple elts kk tpos) (.Call (.Name "enumerate" p0) [e] [] p) body [] pos) (wForE wa wg wb) := by
  obtain ⟨tl, l1, l2⟩ := ha
  obtain ⟨g, g1, g2⟩ := hgt
  obtain ⟨tb, b1, b2⟩ := hb
  refine ⟨_, ps_for hp hc (pi_enumA hg hm l1 hst) g1 b1 hs, fun R ι μ δ σ H E D c h l => l2 R ι μ δ σ H _ _ c h fun vs ds ι1 μ1 H1 s1 r1 i1 q1 => ?_⟩
  split at q1
  · rename_i d1
    obtain ⟨xs, Pv, h0, hl, ht, hd⟩ := q1
    obtain ⟨v, ev, iv⟩ := isAll1 i1
    have e1 := hl 0 δ μ1 h0
    obtain ⟨a, us0, rfl, qa0, ta0⟩ := items_seq r1 iv e1
    have main : ∃ Wv : Nat → Nat → L2.St → Hp → Prop, (∃ m, Wv 0 m σ H1) ∧ ∀ i m σ H, Wv i m σ H →
      ((ItE X.K (isTup d1) a).stop i H ∧ D.nx σ H) ∨ ((ItE X.K (isTup d1) a).go i H ∧ ∃ N : L2.St → Hp → Prop, (∀ σ' H', N σ' H' → ∃ m', m' < m ∧ Wv (i + 1) m' σ' H') ∧ ∀ x H', (ItE X.K (isTup d1) a).yld i H x H' → g x σ H' fun σ2 H2 => tb { D with nx := N, ct := N, bk := D.nx } σ2 H2) := by
      refine ⟨fun i m σ' H' => m = xs.length - i ∧ i ≤ xs.length ∧ ∃ ι' μ' δ', Stp ι1 H1 ι' H' ∧ Rel X.K ι' μ' H' ∧ EnvIs X.K ι' H' δ' σ' ∧ Pv i δ' μ',
        ⟨xs.length, rfl, Nat.zero_le _, ι1, μ1, δ, Stp.refl _ _, r1, c.env.stp s1, h0⟩, fun i m σ' H' hw => ?_⟩
      obtain ⟨em, hle, ι', μ', δ', s', r', e', w'⟩ := hw
      have f1 := hl i δ' μ' w'
      obtain ⟨a', us, ea, qa, ta⟩ := items_seq r' (Is.stp s' _ _ iv) f1
      cases ea
      by_cases hx : i < xs.length
      · obtain ⟨vx, hvx, ix⟩ := ta.get (i := i) (d := xs[i]) (List.getElem?_eq_getElem hx)
        refine .inr ⟨ItE.go qa hvx, fun σ2 H2 => ∃ ι2 μ2 δ2, Stp ι1 H1 ι2 H2 ∧ Rel X.K ι2 μ2 H2 ∧ EnvIs X.K ι2 H2 δ2 σ2 ∧ Pv (i + 1) δ2 μ2, fun σ2 H2 z => ⟨xs.length - (i + 1), by omega, rfl, hx, z⟩, fun x H2 hx' => ?_⟩
        obtain ⟨T, x', rfl, nT, rfl, fx⟩ := ItE.yld hx'
        have ex : x' = vx := Option.some.inj ((fx _ qa).symm.trans hvx)
        subst ex
        have sn : Stp ι' H' ι' (upd H' T (.tup [.int (i : Nat), x'])) := Stp.new nT
        refine g2 R ι' μ' δ' σ' _ (.ref T) (.tup [.int (i : Nat), xs[i]]) _ _ ⟨r'.new nT, e'.stp sn, c.xl.stp ((s1.trans s').trans sn)⟩ ⟨T, [.int (i : Nat), x'], rfl, SqT.of upd_same, .int (i : Nat), [x'], rfl, rfl, x', [], rfl, Is.stp sn _ _ ix, rfl⟩ (ht i xs[i] δ' μ' (List.getElem?_eq_getElem hx) w') fun ι2 μ2 H3 δ2 σ2 s2 r2 e2 q2 => ?_
        refine b2 R ι2 μ2 δ2 σ2 H3 _ _ ⟨r2, e2, c.xl.stp (((s1.trans s').trans sn).trans s2)⟩ q2 ?_
        have lk := l.stp (((s1.trans s').trans sn).trans s2)
        exact ⟨fun ι3 μ3 H4 δ3 σ3 s3 r3 e3 q3 => ⟨ι3, μ3, δ3, ((s'.trans sn).trans s2).trans s3, r3, e3, q3⟩, lk.rt, lk.nx,
          fun ι3 μ3 H4 δ3 σ3 s3 r3 e3 q3 => ⟨ι3, μ3, δ3, ((s'.trans sn).trans s2).trans s3, r3, e3, q3⟩⟩
      · have ei : i = xs.length := by omega
        subst ei
        refine .inl ⟨ItE.stop qa ?_, l.nx ι' μ' H' δ' σ' (s1.trans s') r' e' (hd δ' μ' w')⟩
        rw [ta.length]
        exact Nat.le_refl _
    refine ⟨a, us0, ev, ?_⟩
    cases hb' : isTup d1 with
    | false =>
      rw [hb'] at qa0 main
      exact .inl ⟨qa0, main⟩
    | true =>
      rw [hb'] at qa0 main
      exact .inr ⟨qa0, main⟩
  · exact q1.elim
end
end HD
/-! HD22: [elt for x in xs for y in ys if ..], lists or tuples. -/
namespace HD
open PySem PySem.Spec PyProof.Rows L2
section
variable {X : Cx} {W : WX} {pos : Pos} {elt iter iter2 : Expr} {ifs2 : List Expr} {scope : Scope} {x y : Str} {i j : Nat} {wt : WT} {we w2 : WE}
def wLcLL (i j : Nat) (wl w2 : WE) (wt : WT) (we : WE) : WE := fun R δ μ P => wl R δ μ fun d μ1 => ∃ xs, itemsOf μ1 d = some xs ∧ ∃ Pv : Nat → List D → Sto → Prop, Pv 0 [] (μ1 ++ [.lst []]) ∧
  (∀ (m : Nat) acc μ', m < xs.length → cell μ' μ1.length = some (.lst acc) → Pv m acc μ' → itemsOf μ' d = some xs ∧
    w2 R0 (put (put δ j none) i (some (xs.getD m .non))) μ' fun d2 μ2 => ∃ ys, itemsOf μ2 d2 = some ys ∧ ∃ Pw : Nat → List D → Sto → Prop, (cell μ2 μ1.length = some (.lst acc) ∧ Pw 0 acc μ2) ∧
      (∀ (k : Nat) acc' μ3, k < ys.length → cell μ3 μ1.length = some (.lst acc') → Pw k acc' μ3 → itemsOf μ3 d2 = some ys ∧ lcTurn j μ1.length wt we (put (put δ j none) i (some (xs.getD m .non))) (ys.getD k .non) acc' μ3 (Pw (k + 1))) ∧
      ∀ acc' μ3, cell μ3 μ1.length = some (.lst acc') → Pw ys.length acc' μ3 → itemsOf μ3 d2 = some ys ∧ Pv (m + 1) acc' μ3) ∧
  ∀ acc μ', cell μ' μ1.length = some (.lst acc) → Pv xs.length acc μ' → itemsOf μ' d = some xs ∧ P (.ref μ1.length) μ'
theorem re_lcLL {K : PySem.W.Frag} {tl t2 : TE} {tt tt0 : TT} {te : TE} {wl : WE} (ne : i ≠ j) (l2 : RE K W tl wl) (r2 : RE K W0 t2 w2) (h0 : RT K W0 tt0 wYes) (ht : RT K W0 tt wt) (he : RE K W0 te we) : RE K W (tLc2 (iAny K tl) (gName i) tt0 (iAny K t2) (gName j) tt te [i, j] [j]) (wLcLL i j wl w2 wt we) := by
  refine fun R ι μ δ σ H P Q c h kt => l2 R ι μ δ σ H _ _ c h fun v d ι1 μ1 H1 s1 r1 i1 q1 => ?_
  obtain ⟨xs, ex, Pv, p0, hturn, hd⟩ := q1
  obtain ⟨a, ys, ev, hq, ha⟩ := items_seq r1 i1 ex
  subst ev
  refine ⟨a, isTup d, rfl, ⟨ys, hq⟩, fun Dd hD => ?_⟩
  have rel0 : Rel K (ι1 ++ [Dd]) (μ1 ++ [.lst []]) (upd H1 Dd (.lst [])) := r1.pushLst (ds := []) hD rfl
  have kD : (ι1 ++ [Dd])[μ1.length]? = some Dd := by
    rw [← r1.len, List.getElem?_append_right (Nat.le_refl _), Nat.sub_self]
    rfl
  refine ⟨fun m n H' => n = xs.length - m ∧ m ≤ xs.length ∧ ∃ ι' μ' acc, Stp (ι1 ++ [Dd]) (upd H1 Dd (.lst [])) ι' H' ∧ Rel K ι' μ' H' ∧ cell μ' μ1.length = some (.lst acc) ∧ Pv m acc μ',
    ⟨xs.length, rfl, Nat.zero_le _, ι1 ++ [Dd], _, [], Stp.refl _ _, rel0, cell_new μ1 _ [], p0⟩, fun m n H' z => ?_⟩
  obtain ⟨hn, hle, ι', μ', acc, s', r', hc', hp⟩ := z
  have full := (s1.trans (Stp.push (o := .lst []) hD)).trans s'
  have is' := Is.stp ((Stp.push (o := .lst []) hD).trans s') _ _ i1
  by_cases hlt : m < xs.length
  · obtain ⟨hok, hl⟩ := hturn m acc μ' hlt hc' hp
    obtain ⟨a', ys', ev, hq', ha'⟩ := items_seq r' is' hok
    cases ev
    obtain ⟨y, hy, iy⟩ := ha'.get (i := m) (d := xs[m]) (List.getElem?_eq_getElem hlt)
    refine .inr ⟨ItA.go hq' hy, fun H2 => ∃ ι2 μ2 acc, Stp (ι1 ++ [Dd]) (upd H1 Dd (.lst [])) ι2 H2 ∧ Rel K ι2 μ2 H2 ∧ cell μ2 μ1.length = some (.lst acc) ∧ Pv (m + 1) acc μ2, fun H2 z => ⟨xs.length - (m + 1), by omega, rfl, hlt, z⟩, fun w H2 hw => ?_⟩
    obtain ⟨eH, fx⟩ := ItA.yld hw
    subst eH
    have ew : w = y := Option.some.inj ((fx _ hq').symm.trans hy)
    subst ew
    have eg : xs.getD m .non = xs[m] := by
      rw [List.getD_eq_getElem?_getD, List.getElem?_eq_getElem hlt]
      rfl
    rw [eg] at hl
    have hσ : (wipe σ [i, j]).set i (some w) = ((σ.set j none)).set i (some w) := by
      show (((σ.set j none).set i none)).set i (some w) = _
      rw [List.set_set]
    have env : EnvIs K ι' H2 (put (put δ j none) i (some xs[m])) ((wipe σ [i, j]).set i (some w)) := by
      rw [hσ]
      exact ((c.env.stp full).drop none).put iy
    refine ⟨?_, ?_⟩
    · show (((wipe σ [i, j]).set i (some w)).set j none).set i none = ((σ.set j none).set i none)
      rw [hσ, List.set_comm _ _ ne, List.set_set, List.set_set]
    refine h0 R0 ι' μ' _ _ H2 (fun b μ2 => b = true ∧ μ2 = μ') _ ⟨r', env, xl0⟩ ⟨rfl, rfl⟩ fun b ι2 μ2 H3 s2 r2' q2 => ?_
    obtain ⟨rfl, rfl⟩ := q2
    rw [if_pos rfl]
    refine r2 R0 ι2 _ _ _ H3 _ _ ⟨r2', env.stp s2, xl0⟩ hl fun v2 d2 ι3 μ3 H4 s3 r3 i3 q3 => ?_
    obtain ⟨zs, ez, Pw, ⟨hcw, pw0⟩, wturn, wd⟩ := q3
    obtain ⟨b2, ws, ev2, hq2, hb2⟩ := items_seq r3 i3 ez
    subst ev2
    refine ⟨b2, isTup d2, rfl, ⟨ws, hq2⟩, ?_⟩
    refine ⟨fun k n H' => n = zs.length - k ∧ k ≤ zs.length ∧ ∃ ι4 μ4 acc', Stp ι3 H4 ι4 H' ∧ Rel K ι4 μ4 H' ∧ cell μ4 μ1.length = some (.lst acc') ∧ Pw k acc' μ4,
      ⟨zs.length, rfl, Nat.zero_le _, ι3, μ3, acc, Stp.refl _ _, r3, hcw, pw0⟩, fun k n H' z => ?_⟩
    obtain ⟨_, hle2, ι4, μ4, acc', s4, r4, hc4, hp4⟩ := z
    have i4 := Is.stp s4 _ _ i3
    by_cases hlt2 : k < zs.length
    · obtain ⟨hok2, hl2⟩ := wturn k acc' μ4 hlt2 hc4 hp4
      obtain ⟨b', ws', ev3, hq3, hb3⟩ := items_seq r4 i4 hok2
      cases ev3
      obtain ⟨y2, hy2, iy2⟩ := hb3.get (i := k) (d := zs[k]) (List.getElem?_eq_getElem hlt2)
      refine .inr ⟨ItA.go hq3 hy2, fun H5 => ∃ ι5 μ5 acc5, Stp ι3 H4 ι5 H5 ∧ Rel K ι5 μ5 H5 ∧ cell μ5 μ1.length = some (.lst acc5) ∧ Pw (k + 1) acc5 μ5, fun H5 z => ⟨zs.length - (k + 1), by omega, rfl, hlt2, z⟩, fun w5 H5 hw5 => ?_⟩
      obtain ⟨eH5, fx5⟩ := ItA.yld hw5
      subst eH5
      have ew5 : w5 = y2 := Option.some.inj ((fx5 _ hq3).symm.trans hy2)
      subst ew5
      have eg2 : zs.getD k .non = zs[k] := by
        rw [List.getD_eq_getElem?_getD, List.getElem?_eq_getElem hlt2]
        rfl
      rw [eg2] at hl2
      have kD4 : ι4[μ1.length]? = some Dd := s4.ext _ _ (s3.ext _ _ (s2.ext _ _ (s'.ext _ _ kD)))
      refine lc_turn ht he r4 ((env.stp s2).stp (s3.trans s4)) iy2 kD4 hl2 fun acc5 ι5 μ5 H6 s5 r5 hc5 hn5 => ?_
      exact ⟨ι5, μ5, acc5, s4.trans s5, r5, hc5, hn5⟩
    · have em : k = zs.length := by omega
      subst em
      obtain ⟨hok2, hP2⟩ := wd acc' μ4 hc4 hp4
      obtain ⟨b', ws', ev3, hq3, hb3⟩ := items_seq r4 i4 hok2
      cases ev3
      refine .inl ⟨ItA.stop hq3 (by rw [hb3.length]; exact Nat.le_refl _), ?_⟩
      exact ⟨ι4, μ4, acc', ((s'.trans s2).trans s3).trans s4, r4, hc4, hP2⟩
  · have em : m = xs.length := by omega
    subst em
    obtain ⟨hok, hP⟩ := hd acc μ' hc' hp
    obtain ⟨a', ys', ev, hq', ha'⟩ := items_seq r' is' hok
    cases ev
    refine .inl ⟨ItA.stop hq' (by rw [ha'.length]; exact Nat.le_refl _), ?_⟩
    exact kt (.ref Dd) (.ref μ1.length) ι' μ' H' full r' ⟨Dd, s'.ext _ _ kD, rfl⟩ hP
theorem q_lcLL {px py : Pos} {wl : WE} (ne : i ≠ j) (hc : X.calm = true) (hN : X.N.Nodup) (hi : QE X W iter wl) (ok : BlkOk X.N X.env.scope scope [(x, i), (y, j)])
    (hg : ∀ (s : Shared) (H : Hp) (C : Addr) (cl : List (Str × Addr)) (fp : List Addr), PG (X.blk s H scope (compEnvC scope cl C X.env) fp) (.Name x px) (gName i))
    (hi2 : ∃ t2, RE X.K W0 t2 w2 ∧ ∀ (s : Shared) (H : Hp) (C : Addr) (cl : List (Str × Addr)) (fp : List Addr), PE (X.blk s H scope (compEnvC scope cl C X.env) fp) iter2 t2)
    (hg2 : ∀ (s : Shared) (H : Hp) (C : Addr) (cl : List (Str × Addr)) (fp : List Addr), PG (X.blk s H scope (compEnvC scope cl C X.env) fp) (.Name y py) (gName j))
    (ht0 : ∃ tt, RT X.K W0 tt wYes ∧ ∀ (s : Shared) (H : Hp) (C : Addr) (cl : List (Str × Addr)) (fp : List Addr), PTs (X.blk s H scope (compEnvC scope cl C X.env) fp) [] tt)
    (ht : ∃ tt, RT X.K W0 tt wt ∧ ∀ (s : Shared) (H : Hp) (C : Addr) (cl : List (Str × Addr)) (fp : List Addr), PTs (X.blk s H scope (compEnvC scope cl C X.env) fp) ifs2 tt)
    (he : ∃ te, RE X.K W0 te we ∧ ∀ (s : Shared) (H : Hp) (C : Addr) (cl : List (Str × Addr)) (fp : List Addr), PE (X.blk s H scope (compEnvC scope cl C X.env) fp) elt te)
    (hs : ∀ z, foldedSetIterable iter X.env z = pure z := by intro _; rfl) (hs1 : ∀ env z, foldedSetIterable iter2 env z = pure z := by intro _ _; rfl) :
    QE X W (.ListComp elt [⟨.Name x px, iter, [], 0⟩, ⟨.Name y py, iter2, ifs2, 0⟩] scope pos) (wLcLL i j wl w2 wt we) := by
  obtain ⟨tl, l1, l2⟩ := hi
  obtain ⟨t2, r2, r1⟩ := hi2
  obtain ⟨tt0, z2, z1⟩ := ht0
  obtain ⟨tt, t2', t1'⟩ := ht
  obtain ⟨te, e2, e1⟩ := he
  exact ⟨_, pe_lc2 (own := [(x, i), (y, j)]) (vs1 := [j]) hc hN (pi_any l1) ok (by simp) hg z1 (fun s H C cl fp => pi_any (r1 s H C cl fp)) hg2 t1' e1 hs hs1, re_lcLL ne l2 r2 z2 t2' e2⟩
end
end HD
namespace HD
open PySem PySem.Spec PyProof.Rows L2
section
variable {X : Cx} {W : WX} {pos : Pos} {elt iter iter2 : Expr} {ifs2 : List Expr} {scope : Scope} {x y : Str} {i j : Nat} {wt : WT} {we w2 : WE}
theorem qe_lcLL {px py : Pos} {wl : WE} (ne : i ≠ j) (hc : X.calm = true) (hN : X.N.Nodup) (hi : QE X W iter wl) (ok : BlkOk X.N X.env.scope scope [(x, i), (y, j)])
    (hg : ∀ (s : Shared) (H : Hp) (C : Addr) (cl : List (Str × Addr)) (fp : List Addr), PG (X.blk s H scope (compEnvC scope cl C X.env) fp) (.Name x px) (gName i))
    (hi2 : ∀ (s : Shared) (H : Hp) (C : Addr) (cl : List (Str × Addr)) (fp : List Addr), QE (X.blk s H scope (compEnvC scope cl C X.env) fp) W0 iter2 w2)
    (hg2 : ∀ (s : Shared) (H : Hp) (C : Addr) (cl : List (Str × Addr)) (fp : List Addr), PG (X.blk s H scope (compEnvC scope cl C X.env) fp) (.Name y py) (gName j))
    (ht0 : ∀ (s : Shared) (H : Hp) (C : Addr) (cl : List (Str × Addr)) (fp : List Addr), QTs (X.blk s H scope (compEnvC scope cl C X.env) fp) W0 [] wYes)
    (ht : ∀ (s : Shared) (H : Hp) (C : Addr) (cl : List (Str × Addr)) (fp : List Addr), QTs (X.blk s H scope (compEnvC scope cl C X.env) fp) W0 ifs2 wt)
    (he : ∀ (s : Shared) (H : Hp) (C : Addr) (cl : List (Str × Addr)) (fp : List Addr), QE (X.blk s H scope (compEnvC scope cl C X.env) fp) W0 elt we)
    (hs : ∀ z, foldedSetIterable iter X.env z = pure z := by intro _; rfl) (hs1 : ∀ env z, foldedSetIterable iter2 env z = pure z := by intro _ _; rfl) :
    QE X W (.ListComp elt [⟨.Name x px, iter, [], 0⟩, ⟨.Name y py, iter2, ifs2, 0⟩] scope pos) (wLcLL i j wl w2 wt we) :=
  q_lcLL ne hc hN hi ok hg ⟨rdE X.K W0 w2, re_rd, fun s H C cl fp => QE.canon (hi2 s H C cl fp)⟩ hg2 ⟨rdT X.K W0 wYes, rt_rd, fun s H C cl fp => QTs.canon (ht0 s H C cl fp)⟩ ⟨rdT X.K W0 wt, rt_rd, fun s H C cl fp => QTs.canon (ht s H C cl fp)⟩ ⟨rdE X.K W0 we, re_rd, fun s H C cl fp => QE.canon (he s H C cl fp)⟩ hs hs1
/-- y = [.. for x in xs for y in ys if ..] -/
theorem qs_setLcLL {k : Nat} {z : Str} {pz px py spos : Pos} {wl : WE} (ne : i ≠ j) (hc : X.calm = true) (hN : X.N.Nodup) (hi : QE X W iter wl) (ok : BlkOk X.N X.env.scope scope [(x, i), (y, j)])
    (hg : ∀ (s : Shared) (H : Hp) (C : Addr) (cl : List (Str × Addr)) (fp : List Addr), PG (X.blk s H scope (compEnvC scope cl C X.env) fp) (.Name x px) (gName i))
    (hi2 : ∀ (s : Shared) (H : Hp) (C : Addr) (cl : List (Str × Addr)) (fp : List Addr), QE (X.blk s H scope (compEnvC scope cl C X.env) fp) W0 iter2 w2)
    (hg2 : ∀ (s : Shared) (H : Hp) (C : Addr) (cl : List (Str × Addr)) (fp : List Addr), PG (X.blk s H scope (compEnvC scope cl C X.env) fp) (.Name y py) (gName j))
    (ht0 : ∀ (s : Shared) (H : Hp) (C : Addr) (cl : List (Str × Addr)) (fp : List Addr), QTs (X.blk s H scope (compEnvC scope cl C X.env) fp) W0 [] wYes)
    (ht : ∀ (s : Shared) (H : Hp) (C : Addr) (cl : List (Str × Addr)) (fp : List Addr), QTs (X.blk s H scope (compEnvC scope cl C X.env) fp) W0 ifs2 wt)
    (he : ∀ (s : Shared) (H : Hp) (C : Addr) (cl : List (Str × Addr)) (fp : List Addr), QE (X.blk s H scope (compEnvC scope cl C X.env) fp) W0 elt we)
    (hy : X.N[k]? = some z) (hyl : X.env.scope.names.lookup z = some .local)
    (hsw : swapsWith (.ListComp elt [⟨.Name x px, iter, [], 0⟩, ⟨.Name y py, iter2, ifs2, 0⟩] scope pos) (some (.Name z pz)) spos.line X.env = pure true)
    (hs : ∀ z, foldedSetIterable iter X.env z = pure z := by intro _; rfl) (hs1 : ∀ env z, foldedSetIterable iter2 env z = pure z := by intro _ _; rfl) :
    QS X W (.Assign [.Name z pz] (.ListComp elt [⟨.Name x px, iter, [], 0⟩, ⟨.Name y py, iter2, ifs2, 0⟩] scope pos) spos) (wAsg (wLcLL i j wl w2 wt we) (wgName k)) := by
  obtain ⟨tl, l1, l2⟩ := hi
  exact ⟨_, ps_setLc2 (own := [(x, i), (y, j)]) (vs1 := [j]) hc hN hy hyl hsw (pi_any l1) ok (fun q hq => List.mem_cons_of_mem _ hq) hg (fun s H C cl fp => QTs.canon (ht0 s H C cl fp)) (fun s H C cl fp => pi_any (QE.canon (hi2 s H C cl fp))) hg2 (fun s H C cl fp => QTs.canon (ht s H C cl fp)) (fun s H C cl fp => QE.canon (he s H C cl fp)) hs hs1, rs_asg (re_lcLL ne l2 re_rd rt_rd rt_rd re_rd) (rg_name k)⟩
end
end HD
/-! HD23: xs.pop(), xs.pop(k). -/
namespace HD
open PySem PySem.Spec PyProof.Rows L2
section
variable {X : Cx} {W : WX} {o e : Expr} {wo we : WE} {apos cpos : Pos}
def wPop0 (wo : WE) : WE := fun R δ μ P => wo R δ μ fun x μ1 => match x with
  | .ref k => match lstAt μ1 k with
    | some xs => match xs[xs.length - 1]? with
      | some d => P d (μ1.set k (.lst xs.dropLast))
      | none => False
    | none => False
  | _ => False
theorem q_pop0 (ho : QE X W o wo)
    (hbase : attributeBase o "pop" X.env (eval o X.env) = eval o X.env := by rfl) (hline : (apos.endLine == cpos.line) = true := by rfl) :
    QE X W (.Call (.Attribute o "pop" apos) [] [] cpos) (wPop0 wo) := by
  obtain ⟨to, o1, o2⟩ := ho
  refine ⟨_, pe_bm0 PySem.F.plainAttrs_list PySem.F.slot_list_pop PySem.F.type_list_pop mt_pop o1 hbase hline, fun R ι μ δ σ H P Q c h k => o2 R ι μ δ σ H _ _ c h fun v x ι1 μ1 H1 s1 r1 i1 q1 => ?_⟩
  cases x with
  | ref n =>
    cases hxs : lstAt μ1 n with
    | none =>
      simp only [hxs] at q1
    | some xs =>
      simp only [hxs] at q1
      cases hd : xs[xs.length - 1]? with
      | none =>
        simp only [hd] at q1
      | some d =>
        simp only [hd] at q1
        obtain ⟨a, ea, ev⟩ := i1
        subst ev
        obtain ⟨b, us, eb, hb, hall⟩ := r1.lst hxs
        rw [ea] at eb
        obtain rfl : a = b := Option.some.inj eb
        obtain ⟨y, hy, iy⟩ := hall.get hd
        refine ⟨.inl ⟨rfl, us, SqL.of hb⟩, a, us, y, rfl, rfl, hb, by rw [hall.length]; exact hy, ?_⟩
        have dl : IsAll X.K ι1 H1 xs.dropLast us.dropLast := by
          rw [List.dropLast_eq_take, List.dropLast_eq_take, hall.length]
          exact hall.take _
        exact k y d ι1 _ _ (s1.trans (Stp.wr hb)) (r1.write (lstAt_cell hxs) ea hb dl) (Is.stp (Stp.wr hb) _ _ iy) q1
  | _ => exact q1.elim
def wPop1 (wo we : WE) : WE := fun R δ μ P => wo R δ μ fun x μ1 => match x with
  | .ref n => (∃ ys, lstAt μ1 n = some ys) ∧ we R δ μ1 fun d μ2 => ∃ (k : Nat) (xs : List D) (z : D), d = .int (k : Int) ∧ lstAt μ2 n = some xs ∧ k < 1000 ∧ xs[k]? = some z ∧ P z (μ2.set n (.lst (xs.eraseIdx k)))
  | _ => False
theorem q_pop1 (ho : QE X W o wo) (he : QE X W e we)
    (hbase : attributeBase o "pop" X.env (eval o X.env) = eval o X.env := by rfl)
    (hfew : ((backTo cpos (starEach (e :: []) X.env)).all (fun x => !x.1) && (backToKw cpos (keywordEach [] X.env)).all (fun x => x.1.isSome)
      && decide ((e :: ([] : List Expr)).length + ([] : List Keyword).length + (if ([] : List Keyword).isEmpty then 0 else 1) < 30)) = true := by rfl)
    (hline : (apos.endLine == cpos.line) = true := by rfl) (hs : starEach (e :: []) X.env = (false, eval e X.env) :: starEach [] X.env := by rfl) (hplain : (backTo cpos (starEach [] X.env)).any (·.1) = false := by rfl) :
    QE X W (.Call (.Attribute o "pop" apos) [e] [] cpos) (wPop1 wo we) := by
  obtain ⟨to, o1, o2⟩ := ho
  obtain ⟨te, e1, e2⟩ := he
  refine ⟨_, pe_bm PySem.F.plainAttrs_list PySem.F.slot_list_pop PySem.F.type_list_pop mt_popAt o1 (pa_cons e1 pa_nil hs) hbase hfew hline hs hplain, fun R ι μ δ σ H P Q c h k => o2 R ι μ δ σ H _ _ c h fun v x ι1 μ1 H1 s1 r1 i1 q1 => ?_⟩
  cases x with
  | ref n =>
    obtain ⟨⟨ys, hys⟩, q1⟩ := q1
    obtain ⟨a, ea, ev⟩ := i1
    subst ev
    obtain ⟨a', zs, ea', hz, _⟩ := r1.lst hys
    rw [ea] at ea'
    obtain rfl : a = a' := Option.some.inj ea'
    refine ⟨.inl ⟨rfl, zs, SqL.of hz⟩, e2 R ι1 μ1 δ σ H1 _ _ (c.stp s1 r1) q1 fun u d ι2 μ2 H2 s2 r2 i2 q2 => ?_⟩
    obtain ⟨kk, xs, z, rfl, hxs, hk, hzz, q2⟩ := q2
    obtain ⟨b, us, eb, hb, hall⟩ := r2.lst hxs
    have ea2 := s2.ext n a ea
    rw [ea2] at eb
    obtain rfl : a = b := Option.some.inj eb
    obtain ⟨y, hy, iy⟩ := hall.get hzz
    have eu : u = .int (kk : Int) := i2
    have kl : kk < us.length := (List.getElem?_eq_some_iff.mp hy).1
    have er : IsAll X.K ι2 H2 (xs.eraseIdx kk) (us.eraseIdx kk) := by
      rw [List.eraseIdx_eq_take_drop_succ, List.eraseIdx_eq_take_drop_succ]
      exact (hall.take _).app (hall.drop _)
    refine ⟨a, us, (kk : Int), kk, y, rfl, by rw [eu], hb, by omega, by omega, ?_, hy, k y z ι2 _ _ ((s1.trans s2).trans (Stp.wr hb)) (r2.write (lstAt_cell hxs) ea2 hb er) (Is.stp (Stp.wr hb) _ _ iy) q2⟩
    unfold seqIndex?
    have n0 : ¬ ((kk : Int) < 0) := by omega
    have c0 : (decide (0 ≤ (kk : Int)) && decide ((kk : Int) < (us.length : Int))) = true := by
      rw [Bool.and_eq_true, decide_eq_true_eq, decide_eq_true_eq]
      omega
    simp only [n0, if_false]
    rw [if_pos c0, Int.toNat_natCast]
  | _ => exact q1.elim
end
end HD
/-! math.lcm -/
namespace HD
open PySem PySem.Spec PyProof.Rows L2
section
variable {X : Cx}
def rLcm : List V → Hp → VK → Prop := fun vs H Q => ∃ a b : Int, vs = [.int a, .int b] ∧ a.natAbs < 2 ^ 64 ∧ b.natAbs < 2 ^ 64 ∧ Q (.int ((Nat.lcm a.natAbs b.natAbs : Nat) : Int)) H
theorem cr_lcm : CallR X (.builtin "math.lcm") rLcm := by
  intro pins s σ H vs us Q I r h
  obtain ⟨a, b, rfl, ha, hb, q⟩ := h
  obtain ⟨t, u, rfl⟩ := Vals.int2 r
  have one : Nat.lcm 1 a.natAbs = a.natAbs := by simp [Nat.lcm]
  refine PySem.W.mg_lcm_v (c := ((Nat.lcm a.natAbs b.natAbs : Nat) : Int)) ha hb (by rw [one]) ?_ ⟨.int _, H, I.tok _, ⟨_, rfl⟩, q⟩
  rw [Int.natAbs_natCast]
  have le : Nat.lcm a.natAbs b.natAbs ≤ a.natAbs * b.natAbs := by
    unfold Nat.lcm
    exact Nat.div_le_self _ _
  have lt : a.natAbs * b.natAbs < 2 ^ 128 := by
    have e : (2 : Nat) ^ 128 = 2 ^ 64 * 2 ^ 64 := by rw [← Nat.pow_add]
    rw [e]
    exact Nat.lt_of_le_of_lt (Nat.mul_le_mul (Nat.le_of_lt ha) (Nat.le_refl _)) (Nat.mul_lt_mul_of_pos_left hb (Nat.two_pow_pos 64))
  by_cases z : Nat.lcm a.natAbs b.natAbs = 0
  · rw [z]
    decide
  · have := (Nat.log2_lt z).mpr (Nat.lt_of_le_of_lt le lt)
    exact Nat.lt_of_lt_of_le this (by decide)
def wLcm : WB := fun ds μ P => ints2 (fun i j => i.natAbs < 2 ^ 64 ∧ j.natAbs < 2 ^ 64 ∧ P (.int ((Nat.lcm i.natAbs j.natAbs : Nat) : Int)) μ) ds
theorem qb_lcm : QB X (.builtin "math.lcm") wLcm := ⟨_, cr_lcm, fun ι μ H vs ds P Q r i h k => by
  obtain ⟨n, m, e, h1, h2, q⟩ := ints2_of h
  subst e
  obtain ⟨v, u, e1, iv, iu⟩ := isAll2 i
  have iv' : v = .int n := iv
  have iu' : u = .int m := iu
  subst iv' iu'
  exact ⟨n, m, e1, h1, h2, k.at r (d := .int _) rfl q⟩⟩
end
end HD
/-! HD24: [.. for x, y in zip(xs, ys)]. -/
namespace HD
open PySem PySem.Spec PyProof.Rows L2
def wLcZ (is : List Nat) (wa : WA) (wt : WT) (we : WE) : WE := fun R δ μ P => wa R δ μ fun ds μ1 => match ds with
  | [d1, d2] => ∃ xs ys, isTup d1 = isTup d2 ∧ itemsOf μ1 d1 = some xs ∧ itemsOf μ1 d2 = some ys ∧ lcAllT is wt we δ (min xs.length ys.length) (fun m => .tup [xs.getD m .non, ys.getD m .non]) (fun μ' => itemsOf μ' d1 = some xs ∧ itemsOf μ' d2 = some ys) μ1 P
  | _ => False
section
variable {X : Cx} {W : WX} {pos p spos : Pos} {elt : Expr} {ifs : List Expr} {scope : Scope} {own : List (Str × Nat)} {is : List Nat} {n : Nat} {wt : WT} {we : WE}
theorem re_lcZ {K : PySem.W.Frag} {tl : TA} {tt : TT} {te : TE} {wl : WA} {own : List Nat} (l2 : RA K W tl wl) (t2 : RT K W0 tt wt) (e2 : RE K W0 te we) (hn : is.length = n) (h1 : ∀ i ∈ is, i ∈ own) (h1' : ∀ i ∈ own, i ∈ is) :
    RE K W (tLc (RZ.iZipA K tl) (gTup K n (gNames is)) tt te own) (wLcZ is wl wt we) := by
  refine fun R ι μ δ σ H P Q c h kt => l2 R ι μ δ σ H _ _ c h fun vs ds ι1 μ1 H1 s1 r1 i1 q1 => ?_
  split at q1
  · rename_i d1 d2
    obtain ⟨xs, ys, hk, ex, ey, Pv, p0, hturn, hd⟩ := q1
    obtain ⟨v, u, ev, iv, iu⟩ := isAll2 i1
    obtain ⟨a, us0, rfl, qa0, ta0⟩ := items_seq r1 iv ex
    obtain ⟨b, ws0, rfl, qb0, tb0⟩ := items_seq r1 iu ey
    rw [← hk] at qb0
    have main : ∀ Dd, H1 Dd = none → ∃ Wv : Nat → Nat → Hp → Prop, (∃ m, Wv 0 m (upd H1 Dd (.lst []))) ∧ ∀ i m H, Wv i m H →
      ((ItZ K (isTup d1) a b).stop i H ∧ Q (.ref Dd) H) ∨ ((ItZ K (isTup d1) a b).go i H ∧ ∃ Nx : Hp → Prop, (∀ H', Nx H' → ∃ m', m' < m ∧ Wv (i + 1) m' H') ∧ ∀ x H', (ItZ K (isTup d1) a b).yld i H x H' →
        gTup K n (gNames is) x (wipe σ own) H' fun σ2 H2 => wipe σ2 own = wipe σ own ∧ tt σ2 H2 fun b H3 => if b = true then te σ2 H3 fun y H4 => ∃ acc, H4 Dd = some (.lst acc) ∧ acc.length < sizeLine ∧ Nx (upd H4 Dd (.lst (acc ++ [y]))) else Nx H3) := by
      intro Dd hD
      have rel0 : Rel K (ι1 ++ [Dd]) (μ1 ++ [.lst []]) (upd H1 Dd (.lst [])) := r1.pushLst (ds := []) hD rfl
      have kD : (ι1 ++ [Dd])[μ1.length]? = some Dd := by
        rw [← r1.len, List.getElem?_append_right (Nat.le_refl _), Nat.sub_self]
        rfl
      refine ⟨fun m n H' => n = min xs.length ys.length - m ∧ m ≤ min xs.length ys.length ∧ ∃ ι' μ' acc, Stp (ι1 ++ [Dd]) (upd H1 Dd (.lst [])) ι' H' ∧ Rel K ι' μ' H' ∧ cell μ' μ1.length = some (.lst acc) ∧ Pv m acc μ',
        ⟨min xs.length ys.length, rfl, Nat.zero_le _, ι1 ++ [Dd], _, [], Stp.refl _ _, rel0, cell_new μ1 _ [], p0⟩, fun m n' H' z => ?_⟩
      obtain ⟨hn', hle, ι', μ', acc, s', r', hc', hp⟩ := z
      have full := (s1.trans (Stp.push (o := .lst []) hD)).trans s'
      have is1 := Is.stp ((Stp.push (o := .lst []) hD).trans s') _ _ iv
      have is2 := Is.stp ((Stp.push (o := .lst []) hD).trans s') _ _ iu
      by_cases hlt : m < min xs.length ys.length
      · obtain ⟨⟨ok1, ok2⟩, hl⟩ := hturn m acc μ' hlt hc' hp
        obtain ⟨a', us, ea, qa, ta⟩ := items_seq r' is1 ok1
        obtain ⟨b', ws, eb, qb, tb⟩ := items_seq r' is2 ok2
        cases ea
        cases eb
        rw [← hk] at qb
        have hx : m < xs.length := Nat.lt_of_lt_of_le hlt (Nat.min_le_left _ _)
        have hy : m < ys.length := Nat.lt_of_lt_of_le hlt (Nat.min_le_right _ _)
        obtain ⟨vx, hvx, ix⟩ := ta.get (i := m) (d := xs[m]) (List.getElem?_eq_getElem hx)
        obtain ⟨vy, hvy, iy⟩ := tb.get (i := m) (d := ys[m]) (List.getElem?_eq_getElem hy)
        refine .inr ⟨ItZ.go qa qb hvx hvy, fun H2 => ∃ ι2 μ2 acc, Stp (ι1 ++ [Dd]) (upd H1 Dd (.lst [])) ι2 H2 ∧ Rel K ι2 μ2 H2 ∧ cell μ2 μ1.length = some (.lst acc) ∧ Pv (m + 1) acc μ2, fun H2 z => ⟨min xs.length ys.length - (m + 1), by omega, rfl, hlt, z⟩, fun w H2 hw => ?_⟩
        obtain ⟨T, x', y', rfl, nT, rfl, fx, fy⟩ := ItZ.yld hw
        have ex' : x' = vx := Option.some.inj ((fx _ qa).symm.trans hvx)
        have ey' : y' = vy := Option.some.inj ((fy _ qb).symm.trans hvy)
        subst ex' ey'
        have sn : Stp ι' H' ι' (upd H' T (.tup [x', y'])) := Stp.new nT
        have eg : xs.getD m .non = xs[m] := by
          rw [List.getD_eq_getElem?_getD, List.getElem?_eq_getElem hx]
          rfl
        have eg2 : ys.getD m .non = ys[m] := by
          rw [List.getD_eq_getElem?_getD, List.getElem?_eq_getElem hy]
          rfl
        have hl' : lcTurnT is μ1.length wt we δ (.tup [xs.getD m .non, ys.getD m .non]) acc μ' (Pv (m + 1)) := hl
        rw [eg, eg2] at hl'
        refine lc_turnT t2 e2 hn h1 h1' (r'.new nT) (c.env.stp (full.trans sn)) (x := .tup [xs[m], ys[m]]) (v := .ref T) ⟨T, [x', y'], rfl, SqT.of upd_same, x', [y'], rfl, Is.stp sn _ _ ix, y', [], rfl, Is.stp sn _ _ iy, rfl⟩ (sn.ext _ _ (s'.ext _ _ kD)) hl' fun acc' ι2 μ2 H2 s2 r2 hc2 hn2 => ?_
        exact ⟨ι2, μ2, acc', (s'.trans sn).trans s2, r2, hc2, hn2⟩
      · have em : m = min xs.length ys.length := by omega
        subst em
        obtain ⟨⟨ok1, ok2⟩, hP⟩ := hd acc μ' hc' hp
        obtain ⟨a', us, ea, qa, ta⟩ := items_seq r' is1 ok1
        obtain ⟨b', ws, eb, qb, tb⟩ := items_seq r' is2 ok2
        cases ea
        cases eb
        rw [← hk] at qb
        refine .inl ⟨ItZ.stop qa qb ?_, kt (.ref Dd) (.ref μ1.length) ι' μ' H' full r' ⟨Dd, s'.ext _ _ kD, rfl⟩ hP⟩
        rw [ta.length, tb.length]
        omega
    refine ⟨a, b, us0, ws0, ev, ?_⟩
    cases hb' : isTup d1 with
    | false =>
      rw [hb'] at qa0 qb0 main
      exact .inl ⟨qa0, qb0, main⟩
    | true =>
      rw [hb'] at qa0 qb0 main
      exact .inr ⟨qa0, qb0, main⟩
  · exact q1.elim
theorem qe_lcZ {e e2 : Expr} {p0 : Pos} {es : List Expr} {k : Nat} {px : Pos} {wl : WA} (hc : X.calm = true) (hN : X.N.Nodup) (hgz : Gl X "zip") (hmz : X.mg "zip" = none) (hi : QA X W [e, e2] wl) (ok : BlkOk X.N X.env.scope scope own)
    (hg : ∀ (s : Shared) (H : Hp) (C : Addr) (cl : List (Str × Addr)) (fp : List Addr), TNs (X.blk s H scope (compEnvC scope cl C X.env) fp) es is)
    (ht : ∀ (s : Shared) (H : Hp) (C : Addr) (cl : List (Str × Addr)) (fp : List Addr), QTs (X.blk s H scope (compEnvC scope cl C X.env) fp) W0 ifs wt)
    (he : ∀ (s : Shared) (H : Hp) (C : Addr) (cl : List (Str × Addr)) (fp : List Addr), QE (X.blk s H scope (compEnvC scope cl C X.env) fp) W0 elt we)
    (h1 : ∀ i ∈ is, i ∈ own.map (·.2)) (h1' : ∀ i ∈ own.map (·.2), i ∈ is)
    (hst : starEach [e, e2] X.env = (false, eval e X.env) :: starEach [e2] X.env := by rfl) (hpl : (backTo p (starEach [e2] X.env)).any (·.1) = false := by rfl)
    (hs : ∀ z, foldedSetIterable (.Call (.Name "zip" p0) [e, e2] [] p) X.env z = pure z := by intro _; rfl) :
    QE X W (.ListComp elt [⟨.Tuple es k px, .Call (.Name "zip" p0) [e, e2] [] p, ifs, 0⟩] scope pos) (wLcZ is wl wt we) := by
  obtain ⟨tl, l1, l2⟩ := hi
  exact ⟨_, pe_lc (own := own) hc hN (RZ.pi_zipA hgz hmz l1 hst hpl) ok (fun s H C cl fp => pg_tup (X := X.blk s H scope (compEnvC scope cl C X.env) fp) hc (hg s H C cl fp).pg.1 (hg s H C cl fp).pg.2.1 (hg s H C cl fp).pg.2.2) (fun s H C cl fp => QTs.canon (ht s H C cl fp)) (fun s H C cl fp => QE.canon (he s H C cl fp)) hs, re_lcZ l2 rt_rd re_rd rfl h1 h1'⟩
/-- y = [.. for x, y in zip(xs, ys)] -/
theorem qs_setLcZ {e e2 : Expr} {p0 : Pos} {es : List Expr} {k kk : Nat} {px py : Pos} {y : Str} {wl : WA} (hc : X.calm = true) (hN : X.N.Nodup) (hgz : Gl X "zip") (hmz : X.mg "zip" = none) (hi : QA X W [e, e2] wl) (ok : BlkOk X.N X.env.scope scope own)
    (hg : ∀ (s : Shared) (H : Hp) (C : Addr) (cl : List (Str × Addr)) (fp : List Addr), TNs (X.blk s H scope (compEnvC scope cl C X.env) fp) es is)
    (ht : ∀ (s : Shared) (H : Hp) (C : Addr) (cl : List (Str × Addr)) (fp : List Addr), QTs (X.blk s H scope (compEnvC scope cl C X.env) fp) W0 ifs wt)
    (he : ∀ (s : Shared) (H : Hp) (C : Addr) (cl : List (Str × Addr)) (fp : List Addr), QE (X.blk s H scope (compEnvC scope cl C X.env) fp) W0 elt we)
    (h1 : ∀ i ∈ is, i ∈ own.map (·.2)) (h1' : ∀ i ∈ own.map (·.2), i ∈ is)
    (hy : X.N[k]? = some y) (hyl : X.env.scope.names.lookup y = some .local)
    (hsw : swapsWith (.ListComp elt [⟨.Tuple es kk px, .Call (.Name "zip" p0) [e, e2] [] p, ifs, 0⟩] scope pos) (some (.Name y py)) spos.line X.env = pure true)
    (hst : starEach [e, e2] X.env = (false, eval e X.env) :: starEach [e2] X.env := by rfl) (hpl : (backTo p (starEach [e2] X.env)).any (·.1) = false := by rfl)
    (hs : ∀ z, foldedSetIterable (.Call (.Name "zip" p0) [e, e2] [] p) X.env z = pure z := by intro _; rfl) :
    QS X W (.Assign [.Name y py] (.ListComp elt [⟨.Tuple es kk px, .Call (.Name "zip" p0) [e, e2] [] p, ifs, 0⟩] scope pos) spos) (wAsg (wLcZ is wl wt we) (wgName k)) := by
  obtain ⟨tl, l1, l2⟩ := hi
  exact ⟨_, ps_setLc (own := own) hc hN hy hyl hsw (RZ.pi_zipA hgz hmz l1 hst hpl) ok (fun s H C cl fp => pg_tup (X := X.blk s H scope (compEnvC scope cl C X.env) fp) hc (hg s H C cl fp).pg.1 (hg s H C cl fp).pg.2.1 (hg s H C cl fp).pg.2.2) (fun s H C cl fp => QTs.canon (ht s H C cl fp)) (fun s H C cl fp => QE.canon (he s H C cl fp)) hs, rs_asg (re_lcZ l2 rt_rd re_rd rfl h1 h1') (rg_name k)⟩
end
end HD
/-! HD25: for a, b in zip(xs, ys) of a list and a tuple, in either order. -/
namespace HD
open PySem PySem.Spec PyProof.Rows L2
def seqIs (k : Bool) (h : Heap) (a : Addr) (its : Array Value) : Prop := match k with
  | true => h.IsTuple a its
  | false => h.IsList a its
def itIs (k : Bool) (h : Heap) (it a : Addr) (i : Nat) : Prop := match k with
  | true => h.IsTupleIter it a i
  | false => h.IsListIter it a i
theorem seqIs.at {k : Bool} {h h' : Heap} {a : Addr} {its : Array Value} (p : seqIs k h a its) (q : ∀ o, h.get? a = some o → h'.get? a = some o) : seqIs k h' a its := by
  cases k
  · exact Heap.IsList.at p q
  · exact Heap.IsTuple.at p q
theorem itIs.at {k : Bool} {h h' : Heap} {it a : Addr} {i : Nat} (p : itIs k h it a i) (q : ∀ o, h.get? it = some o → h'.get? it = some o) : itIs k h' it a i := by
  cases k
  · exact Heap.IsListIter.at p q
  · exact Heap.IsTupleIter.at p q
theorem itIs.obj {k : Bool} {h : Heap} {it a : Addr} {i : Nat} (p : itIs k h it a i) : ∃ o, h.get? it = some o ∧ ∀ v, o.data ≠ .seq v := by
  cases k
  · obtain ⟨o, e, _, d⟩ := p
    exact ⟨o, e, fun v q => by rw [d] at q; cases q⟩
  · obtain ⟨o, e, _, d⟩ := p
    exact ⟨o, e, fun v q => by rw [d] at q; cases q⟩
theorem seqIs.lt {k : Bool} {h : Heap} {a : Addr} {its : Array Value} (p : seqIs k h a its) : a < h.objs.size := by
  cases k
  · obtain ⟨o, ho, _⟩ := p
    exact Heap.lt_size ho
  · obtain ⟨o, ho, _⟩ := p
    exact Heap.lt_size ho
theorem draws_k {prog : Program} {w : World} {A : Around} (hh : A.handled = none) (k : Bool) (it a : Addr) (hne : a ≠ it) (items : Array Value) :
    Draws prog w A it [it, a] items.size (fun i v => items[i]? = some v) (fun i h => itIs k h it a i ∧ seqIs k h a items) := by
  cases k
  · exact Draws.list hh it a hne items
  · exact Draws.tuple hh it a hne items
theorem seq_vals {X : Cx} {pins : List (Addr × Obj)} {σ : L2.St} {H : Hp} {s : Shared} (I : Inv X pins σ H s) {k : Bool} {a : Addr} {xs : List V} (q : Sq X.K k H a xs) : ∃ its, Vals xs its ∧ seqIs k s.heap a its.toArray := by
  cases k
  · obtain ⟨its, rv, p, _⟩ := I.list q
    exact ⟨its, rv, p.isList⟩
  · obtain ⟨its, rv, p, _⟩ := I.tuple q
    exact ⟨its, rv, p⟩
theorem seq_inj {X : Cx} {pins : List (Addr × Obj)} {σ : L2.St} {H : Hp} {s : Shared} (I : Inv X pins σ H s) {k : Bool} {a : Addr} {xs ys : List V} (q : Sq X.K k H a xs) (q' : Sq X.K k H a ys) : xs = ys := by
  cases k
  · exact I.list_inj q q'
  · exact I.tuple_inj q q'
def ItM (K : PySem.W.Frag) (k1 k2 : Bool) (a b : Addr) : It :=
  ⟨fun i H => ∃ (xs ys : List V) (x y : V), Sq K k1 H a xs ∧ Sq K k2 H b ys ∧ xs[i]? = some x ∧ ys[i]? = some y,
    fun i H v H' => ∃ T x y, v = .ref T ∧ H T = none ∧ H' = upd H T (.tup [x, y]) ∧ (∀ xs, Sq K k1 H a xs → xs[i]? = some x) ∧ ∀ ys, Sq K k2 H b ys → ys[i]? = some y,
    fun i H => ∃ xs ys : List V, Sq K k1 H a xs ∧ Sq K k2 H b ys ∧ i ≤ xs.length ∧ i ≤ ys.length ∧ (i = xs.length ∨ i = ys.length)⟩
theorem turn_zipM {P : Program} {w : World} {K : PySem.W.Frag} {elts : List Expr} {kk : Nat} {tpos : Pos} {k1 k2 : Bool} {a b z TI TO i1 i2 : Addr} (S : ZipSep2 z TI TO i1 i2 [i1, a] [i2, b]) (n1 : a ≠ i1) (n2 : b ≠ i2) :
    Turn P w K (.Tuple elts kk tpos) (ItM K k1 k2 a b) [z, TI, TO, i1, i2] z (fun i h => IsZip h z TI TO .none ∧ IsTupOf2 h TI (.ref i1) (.ref i2) ∧ (∃ x y, IsTupOf2 h TO x y) ∧ itIs k1 h i1 a i ∧ itIs k2 h i2 b i) where
  mem := by simp
  obj := fun i h st c hc => by
    obtain ⟨hz, hTI, ⟨x, y, hTO⟩, h1, h2⟩ := st
    have e' : c = z ∨ c = TI ∨ c = TO ∨ c = i1 ∨ c = i2 := by simpa using hc
    rcases e' with q | q | q | q | q
    · rw [q]; exact ⟨_, hz, fun v q => nomatch q⟩
    · rw [q]; exact ⟨_, hTI, fun v q => nomatch q⟩
    · rw [q]; exact ⟨_, hTO, fun v q => nomatch q⟩
    · rw [q]
      cases k1
      · obtain ⟨o1, e1, _, d1⟩ := h1
        exact ⟨o1, e1, fun v q => by rw [d1] at q; cases q⟩
      · obtain ⟨o1, e1, _, d1⟩ := h1
        exact ⟨o1, e1, fun v q => by rw [d1] at q; cases q⟩
    · rw [q]
      cases k2
      · obtain ⟨o1, e1, _, d1⟩ := h2
        exact ⟨o1, e1, fun v q => by rw [d1] at q; cases q⟩
      · obtain ⟨o1, e1, _, d1⟩ := h2
        exact ⟨o1, e1, fun v q => by rw [d1] at q; cases q⟩
  keep := fun i h h' st k => by
    obtain ⟨hz, hTI, ⟨x, y, hTO⟩, h1, h2⟩ := st
    exact ⟨k z (by simp) _ hz, k TI (by simp) _ hTI, ⟨x, y, k TO (by simp) _ hTO⟩, h1.at fun o q => k i1 (by simp) o q, h2.at fun o q => k i2 (by simp) o q⟩
  item := by
    intro X hP hw hK hc i pins s σ H E I hf st hg
    subst hP hw hK
    obtain ⟨hz, hTI, ⟨x0, y0, hTO⟩, h1, h2⟩ := st
    obtain ⟨xs, ys, x, y, hqx, hqy, hx, hy⟩ := hg
    obtain ⟨its, rv, p⟩ := seq_vals I hqx
    obtain ⟨its2, rv2, p2⟩ := seq_vals I hqy
    obtain ⟨u, hu, ru⟩ := rv.get hx
    obtain ⟨u2, hu2, ru2⟩ := rv2.get hy
    have hzl : z < s.heap.objs.size := Heap.lt_size hz
    have hlt1 : i < its.toArray.size := by
      have := (List.getElem?_eq_some_iff.mp hu).1
      simpa using this
    have hlt2 : i < its2.toArray.size := by
      have := (List.getElem?_eq_some_iff.mp hu2).1
      simpa using this
    refine wpAny_pyNext_zipD2_item S (draws_k (A := X.A.in1) (I.ok.hd hc) k1 i1 a n1 its.toArray) (draws_k (A := X.A.in1) (I.ok.hd hc) k2 i2 b n2 its2.toArray) hz hTI hTO ⟨h1, p⟩ ⟨h2, p2⟩ hlt1 hlt2 fun x1 x2 h' tk hx1 hx2 z' TO' st1 st2 hT hsz hk => ?_
    have ex1 : x1 = u := by
      have e1 : its.toArray[i]? = some x1 := hx1
      have e2 : its.toArray[i]? = some u := by simpa using hu
      exact Option.some.inj (e1.symm.trans e2)
    have ex2 : x2 = u2 := by
      have e1 : its2.toArray[i]? = some x2 := hx2
      have e2 : its2.toArray[i]? = some u2 := by simpa using hu2
      exact Option.some.inj (e1.symm.trans e2)
    subst ex1 ex2
    obtain ⟨h1', _⟩ := st1
    obtain ⟨h2', _⟩ := st2
    refine ⟨_, rfl, wpAny_letOwnedTupleGo_zip (s := { s with heap := h', toks := tk }) z' fun h'' z'' sb => ?_⟩
    have hT2 : h''.get? s.heap.objs.size = some { cls := .type "tuple", data := .seq #[x1, x2] } := (sb.2 _ (Nat.ne_of_gt hzl)).trans hT
    have new : ObjOk X.prog X.w (upd H s.heap.objs.size (.tup [x, y])) h'' s.heap.objs.size (.tup [x, y]) :=
      ⟨by show 2 ≤ sizeLine; decide, [x1, x2], .cons ru (.cons ru2 .nil), ⟨_, hT2, rfl, _, rfl⟩⟩
    have I1 : Inv X pins σ (upd H s.heap.objs.size (.tup [x, y])) { s with heap := h'', toks := tk } :=
      I.turnedNew (t' := tk) (ch := [z, TI, TO, i1, i2]) (fun c o hb q => (sb.2 c (fun q' => hb (by simp [q']))).trans (hk c o (fun q' => hb (by simp [q'])) (fun q' => hb (by simp [q'])) (fun q' => hb (by simp [q'])) (fun q' => hb (by simp [q'])) q)) hf (Nat.le_refl _) new
    refine ⟨.ref s.heap.objs.size, _, I1, rfl, ⟨_, x, y, rfl, I.hok.fresh (Nat.le_refl _), rfl, fun l hl => by rw [seq_inj I hl hqx]; exact hx, fun l hl => by rw [seq_inj I hl hqy]; exact hy⟩, ⟨z'', ?_, ⟨x1, x2, ?_⟩, ?_, ?_⟩, fun c hcm => ?_⟩
    · exact (sb.2 _ S.TIz).trans (hk _ _ S.TIz S.TITO S.TIi1 S.TIi2 hTI)
    · exact (sb.2 _ S.TOz).trans TO'
    · exact h1'.at fun o q => (sb.2 _ S.zi1.symm).trans q
    · exact h2'.at fun o q => (sb.2 _ S.zi2.symm).trans q
    · have hlt : c < s.heap.objs.size := by
        have e' : c = z ∨ c = TI ∨ c = TO ∨ c = i1 ∨ c = i2 := by simpa using hcm
        rcases e' with q | q | q | q | q
        · rw [q]; exact hzl
        · rw [q]; exact Heap.lt_size hTI
        · rw [q]; exact Heap.lt_size hTO
        · rw [q]; obtain ⟨_, e1, _⟩ := h1.obj; exact Heap.lt_size e1
        · rw [q]; obtain ⟨_, e2, _⟩ := h2.obj; exact Heap.lt_size e2
      rw [upd_ne (Nat.ne_of_lt hlt)]
      exact (hf c hcm).1
  done := by
    intro X hP hw hK hc i pins s σ H E I hf st hg
    subst hP hw hK
    obtain ⟨hz, hTI, ⟨x0, y0, hTO⟩, h1, h2⟩ := st
    obtain ⟨xs, ys, hqx, hqy, le1, le2, hend⟩ := hg
    obtain ⟨its, rv, p⟩ := seq_vals I hqx
    obtain ⟨its2, rv2, p2⟩ := seq_vals I hqy
    have l1 := rv.length
    have l2 := rv2.length
    have s1 : its.toArray.size = xs.length := by simp; omega
    have s2 : its2.toArray.size = ys.length := by simp; omega
    refine wpAny_pyNext_zipD2_end S (draws_k (A := X.A.in1) (I.ok.hd hc) k1 i1 a n1 its.toArray) (draws_k (A := X.A.in1) (I.ok.hd hc) k2 i2 b n2 its2.toArray) hz hTI hTO ⟨h1, p⟩ ⟨h2, p2⟩ (by rw [s1]; exact le1) (by rw [s2]; exact le2) (by rw [s1, s2]; exact hend) fun h' tk hk => ⟨rfl, I.turnedL (t' := tk) (ch := [z, TI, TO, i1, i2]) (fun c o hb q =>
      hk c o (fun q' => hb (by simp [q'])) (fun q' => hb (by simp [q'])) (fun q' => hb (by simp [q'])) (fun q' => hb (by simp [q'])) q) hf⟩
  self := fun A i s Q E st h => wpAny_pyIter_zip st.1 h
theorem begins_k (k : Bool) (a : Addr) (its : Array Value) : ∃ o, Begins (.ref a) o (fun h => seqIs k h a its) ∧ ∀ (h : Heap) (it : Addr), h.get? it = some o → itIs k h it a 0 := by
  cases k
  · exact ⟨_, begins_list a its, fun h it q => ⟨_, q, rfl, rfl⟩⟩
  · exact ⟨_, begins_tuple a its, fun h it q => ⟨_, q, rfl, rfl⟩⟩
def iZipM (K : PySem.W.Frag) (ta : TA) : TI := fun σ H R => ta σ H fun vs H1 => ∃ a b xs ys k1 k2, vs = [.ref a, .ref b] ∧ Sq K k1 H1 a xs ∧ Sq K k2 H1 b ys ∧ R (ItM K k1 k2 a b) H1
theorem pi_zipM {X : Cx} {e e2 : Expr} {ta : TA} {p pos tpos : Pos} {elts : List Expr} {kk : Nat} (hg : Gl X "zip") (hm : X.mg "zip" = none) (ha : PA X [e, e2] ta)
    (hs : starEach [e, e2] X.env = (false, eval e X.env) :: starEach [e2] X.env := by rfl) (hpl : (backTo pos (starEach [e2] X.env)).any (·.1) = false := by rfl) :
    PI X (.Tuple elts kk tpos) (.Call (.Name "zip" p) [e, e2] [] pos) (iZipM X.K ta) := by
  refine ⟨fun pins s σ H R I h => ?_⟩
  refine Call_ (ld_blt I hg hm PyProof.Rows.boot_zip (PyProof.Rows.callWith_type1 (thn (ha.run pos pins s σ H _ I h) fun us s1 ⟨vs, H1, I1, r1, q1⟩ => ?_) hs hpl))
  obtain ⟨a, b, xs, ys, k1, k2, ex, hqx, hqy, q⟩ := q1
  subst ex
  cases r1 with
  | cons r rr =>
    cases rr with
    | cons r' rr =>
      cases rr
      cases r
      cases r'
      have fresh5 : ∀ c, c ∈ [s1.heap.objs.size + 4, s1.heap.objs.size + 2, s1.heap.objs.size + 3, s1.heap.objs.size, s1.heap.objs.size + 1] → FpOk X pins H1 c := fun c hcm => by
        have e' : c = s1.heap.objs.size + 4 ∨ c = s1.heap.objs.size + 2 ∨ c = s1.heap.objs.size + 3 ∨ c = s1.heap.objs.size ∨ c = s1.heap.objs.size + 1 := by simpa using hcm
        have hle : s1.heap.objs.size ≤ c := by
          rcases e' with z | z | z | z | z
          · rw [z]; exact Nat.le_add_right _ _
          · rw [z]; exact Nat.le_add_right _ _
          · rw [z]; exact Nat.le_add_right _ _
          · rw [z]; exact Nat.le_refl _
          · rw [z]; exact Nat.le_add_right _ _
        exact I1.fpOk hle (I1.hok.fresh hle)
      obtain ⟨its, rv, p1⟩ := seq_vals I1 hqx
      obtain ⟨its2, rv2, p2⟩ := seq_vals I1 hqy
      obtain ⟨o1, B1, g1⟩ := begins_k k1 a its.toArray
      obtain ⟨o2, B2, g2⟩ := begins_k k2 b its2.toArray
      refine zip_begins2 B1 B2 p1 p2 fun h' hz hTI hTO h1 h2 hsz hk => wpAny_pyIter_zip hz ?_
      have I2 : Inv X pins σ H1 { s1 with heap := h' } := I1.kept (t' := s1.toks) hk
      have al := p1.lt
      have bl := p2.lt
      exact ⟨s1.heap.objs.size + 4, [s1.heap.objs.size + 4, s1.heap.objs.size + 2, s1.heap.objs.size + 3, s1.heap.objs.size, s1.heap.objs.size + 1], _, _, H1, rfl, I2,
        turn_zipM (zip_sep2 (fp1 := [a]) (fp2 := [b]) (fun c hc => by rw [List.mem_singleton.mp hc]; exact al) (fun c hc => by rw [List.mem_singleton.mp hc]; exact bl)) (Nat.ne_of_lt al) (Nat.ne_of_lt (Nat.lt_succ_of_lt bl)), ⟨hz, hTI, ⟨_, _, hTO⟩, g1 _ _ h1, g2 _ _ h2⟩, fresh5, q⟩
section
variable {X : Cx} {W : WX} {pos p tpos p0 : Pos}
def wForM (wa : WA) (wg : WG) (wb : WS) : WS := fun R E δ μ => wa R δ μ fun ds μ1 => match ds with
  | [d1, d2] => ∃ (xs ys : List D) (Pv : Nat → En → Sto → Prop), Pv 0 δ μ1 ∧ (∀ i δ' μ', Pv i δ' μ' → itemsOf μ' d1 = some xs ∧ itemsOf μ' d2 = some ys) ∧
    (∀ i x y δ' μ', xs[i]? = some x → ys[i]? = some y → Pv i δ' μ' → wg R (.tup [x, y]) δ' μ' fun δ2 μ2 => wb R { E with nx := Pv (i + 1), ct := Pv (i + 1), bk := E.nx } δ2 μ2) ∧ ∀ δ' μ', Pv (min xs.length ys.length) δ' μ' → E.nx δ' μ'
  | _ => False
theorem qs_forM {elts : List Expr} {kk : Nat} {e e2 : Expr} {body : List Stmt} {wa : WA} {wg : WG} {wb : WS} (hp : PassesOwn (model X.prog X.w) X.A X.env X.xe) (hc : X.calm = true) (hg : Gl X "zip") (hm : X.mg "zip" = none) (ha : QA X W [e, e2] wa) (hgt : QG X W (.Tuple elts kk tpos) wg) (hb : QSs X W body wb)
    (hst : starEach [e, e2] X.env = (false, eval e X.env) :: starEach [e2] X.env := by rfl) (hpl : (backTo p (starEach [e2] X.env)).any (·.1) = false := by rfl)
    (hs : ∀ x, foldedSetIterable (.Call (.Name "zip" p0) [e, e2] [] p) X.env x = pure x := by intro _; rfl) : QS X W (.For (.Tuple elts kk tpos) (.Call (.Name "zip" p0) [e, e2] [] p) body [] pos) (wForM wa wg wb) := by
  obtain ⟨tl, l1, l2⟩ := ha
  obtain ⟨g, g1, g2⟩ := hgt
  obtain ⟨tb, b1, b2⟩ := hb
  refine ⟨_, ps_for hp hc (pi_zipM hg hm l1 hst hpl) g1 b1 hs, fun R ι μ δ σ H E D c h l => l2 R ι μ δ σ H _ _ c h fun vs ds ι1 μ1 H1 s1 r1 i1 q1 => ?_⟩
  split at q1
  · rename_i d1 d2
    obtain ⟨xs, ys, Pv, h0, hl, ht, hd⟩ := q1
    obtain ⟨v, u, ev, iv, iu⟩ := isAll2 i1
    obtain ⟨e1, e2⟩ := hl 0 δ μ1 h0
    obtain ⟨a, us0, rfl, qa0, ta0⟩ := items_seq r1 iv e1
    obtain ⟨b, ws0, rfl, qb0, tb0⟩ := items_seq r1 iu e2
    refine ⟨a, b, us0, ws0, _, _, ev, qa0, qb0, ?_⟩
    refine ⟨fun i m σ' H' => m = min xs.length ys.length - i ∧ i ≤ min xs.length ys.length ∧ ∃ ι' μ' δ', Stp ι1 H1 ι' H' ∧ Rel X.K ι' μ' H' ∧ EnvIs X.K ι' H' δ' σ' ∧ Pv i δ' μ',
      ⟨min xs.length ys.length, rfl, Nat.zero_le _, ι1, μ1, δ, Stp.refl _ _, r1, c.env.stp s1, h0⟩, fun i m σ' H' hw => ?_⟩
    obtain ⟨em, hle, ι', μ', δ', s', r', e', w'⟩ := hw
    obtain ⟨f1, f2⟩ := hl i δ' μ' w'
    obtain ⟨a', us, ea, qa, ta⟩ := items_seq r' (Is.stp s' _ _ iv) f1
    obtain ⟨b', ws, eb, qb, tb'⟩ := items_seq r' (Is.stp s' _ _ iu) f2
    cases ea
    cases eb
    by_cases hlt : i < min xs.length ys.length
    · have hx : i < xs.length := Nat.lt_of_lt_of_le hlt (Nat.min_le_left _ _)
      have hy : i < ys.length := Nat.lt_of_lt_of_le hlt (Nat.min_le_right _ _)
      obtain ⟨vx, hvx, ix⟩ := ta.get (i := i) (d := xs[i]) (List.getElem?_eq_getElem hx)
      obtain ⟨vy, hvy, iy⟩ := tb'.get (i := i) (d := ys[i]) (List.getElem?_eq_getElem hy)
      refine .inr ⟨⟨us, ws, vx, vy, qa, qb, hvx, hvy⟩, fun σ2 H2 => ∃ ι2 μ2 δ2, Stp ι1 H1 ι2 H2 ∧ Rel X.K ι2 μ2 H2 ∧ EnvIs X.K ι2 H2 δ2 σ2 ∧ Pv (i + 1) δ2 μ2, fun σ2 H2 z => ⟨min xs.length ys.length - (i + 1), by omega, rfl, hlt, z⟩, fun x H2 hx' => ?_⟩
      obtain ⟨T, x', y', rfl, nT, rfl, fx, fy⟩ := hx'
      have ex : x' = vx := Option.some.inj ((fx _ qa).symm.trans hvx)
      have ey : y' = vy := Option.some.inj ((fy _ qb).symm.trans hvy)
      subst ex ey
      have sn : Stp ι' H' ι' (upd H' T (.tup [x', y'])) := Stp.new nT
      refine g2 R ι' μ' δ' σ' _ (.ref T) (.tup [xs[i], ys[i]]) _ _ ⟨r'.new nT, e'.stp sn, c.xl.stp ((s1.trans s').trans sn)⟩ ⟨T, [x', y'], rfl, SqT.of upd_same, x', [y'], rfl, Is.stp sn _ _ ix, y', [], rfl, Is.stp sn _ _ iy, rfl⟩ (ht i xs[i] ys[i] δ' μ' (List.getElem?_eq_getElem hx) (List.getElem?_eq_getElem hy) w') fun ι2 μ2 H3 δ2 σ2 s2 r2 e2 q2 => ?_
      refine b2 R ι2 μ2 δ2 σ2 H3 _ _ ⟨r2, e2, c.xl.stp (((s1.trans s').trans sn).trans s2)⟩ q2 ?_
      have lk := l.stp (((s1.trans s').trans sn).trans s2)
      exact ⟨fun ι3 μ3 H4 δ3 σ3 s3 r3 e3 q3 => ⟨ι3, μ3, δ3, ((s'.trans sn).trans s2).trans s3, r3, e3, q3⟩, lk.rt, lk.nx,
        fun ι3 μ3 H4 δ3 σ3 s3 r3 e3 q3 => ⟨ι3, μ3, δ3, ((s'.trans sn).trans s2).trans s3, r3, e3, q3⟩⟩
    · have ei : i = min xs.length ys.length := by omega
      subst ei
      refine .inl ⟨⟨us, ws, qa, qb, ?_, ?_, ?_⟩, l.nx ι' μ' H' δ' σ' (s1.trans s') r' e' (hd δ' μ' w')⟩
      · rw [ta.length]
        exact Nat.min_le_left _ _
      · rw [tb'.length]
        exact Nat.min_le_right _ _
      · rw [ta.length, tb'.length]
        omega
  · exact q1.elim
end
end HD
/-! HD26: texts: methods, slices, signs, int(text), f-strings, a comprehension over the signs of a text, text * int. -/
namespace HD
open PySem PySem.Spec PyProof.Rows L2
section
variable {X : Cx} {W : WX} {o e : Expr} {wo we : WE} {apos pos : Pos}
/-- x.m(), x a text: what C asks and g gives -/
def wT0 (C : Str → Prop) (g : Str → D) (wo : WE) : WE := fun R δ μ P => wo R δ μ fun d μ1 => match d with
  | .str a => C a ∧ P (g a) μ1
  | _ => False
theorem q_t0 {id : String} {name : Str} {C : Str → Prop} {g : Str → D} {v : Str → V} (hv : ∀ (K : PySem.W.Frag) ι H a, Is K ι H (g a) (v a)) (slot : Slot "str" name id) (ty : typeOf (.builtin id) = pure (.type "method_descriptor"))
    (rule : MtR X id fun x xs H Q => ∃ a, x = .str a ∧ xs = [] ∧ C a ∧ Q (v a) H) (ho : QE X W o wo)
    (hbase : attributeBase o name X.env (eval o X.env) = eval o X.env := by rfl) (hline : (apos.endLine == pos.line) = true := by rfl) : QE X W (.Call (.Attribute o name apos) [] [] pos) (wT0 C g wo) := by
  obtain ⟨to, o1, o2⟩ := ho
  refine ⟨_, pe_m0 slot ty rule o1 hbase hline, fun R ι μ δ σ H P Q c h k => o2 R ι μ δ σ H _ _ c h fun x d ι1 μ1 H1 s1 r1 i1 q1 => ?_⟩
  cases d with
  | str a =>
    have ex : x = .str a := i1
    exact ⟨⟨a, ex⟩, a, ex, rfl, q1.1, k (v a) (g a) ι1 μ1 H1 s1 r1 (hv _ _ _ a) q1.2⟩
  | _ => exact q1.elim
/-- x.m(y), both texts -/
def wT1 (C : Str → Str → Prop) (g : Str → Str → D) (wo we : WE) : WE := fun R δ μ P => wo R δ μ fun d μ1 => match d with
  | .str a => we R δ μ1 fun f μ2 => match f with
    | .str b => C a b ∧ P (g a b) μ2
    | _ => False
  | _ => False
theorem q_t1 {id : String} {name : Str} {C : Str → Str → Prop} {g : Str → Str → D} {v : Str → Str → V} (hv : ∀ (K : PySem.W.Frag) ι H a b, Is K ι H (g a b) (v a b)) (slot : Slot "str" name id) (ty : typeOf (.builtin id) = pure (.type "method_descriptor"))
    (rule : MtR X id fun x xs H Q => ∃ a b, x = .str a ∧ xs = [.str b] ∧ C a b ∧ Q (v a b) H) (ho : QE X W o wo) (he : QE X W e we)
    (hs : starEach [e] X.env = [(false, eval e X.env)] := by rfl) (hbase : attributeBase o name X.env (eval o X.env) = eval o X.env := by rfl) (hline : (apos.endLine == pos.line) = true := by rfl) : QE X W (.Call (.Attribute o name apos) [e] [] pos) (wT1 C g wo we) := by
  obtain ⟨to, o1, o2⟩ := ho
  obtain ⟨te, e1, e2⟩ := he
  refine ⟨_, pe_m1 slot ty rule o1 e1 hs hbase hline, fun R ι μ δ σ H P Q c h k => o2 R ι μ δ σ H _ _ c h fun x d ι1 μ1 H1 s1 r1 i1 q1 => ?_⟩
  cases d with
  | str a =>
    have ex : x = .str a := i1
    refine ⟨⟨a, ex⟩, e2 R ι1 μ1 δ σ H1 _ _ (c.stp s1 r1) q1 fun y f ι2 μ2 H2 s2 r2 i2 q2 => ?_⟩
    cases f with
    | str b =>
      have ey : y = .str b := i2
      exact ⟨a, b, ex, by rw [ey], q2.1, k (v a b) (g a b) ι2 μ2 H2 (s1.trans s2) r2 (hv _ _ _ a b) q2.2⟩
    | _ => exact q2.elim
  | _ => exact q1.elim
/-- x.zfill(n) -/
def wZfill (wo we : WE) : WE := fun R δ μ P => wo R δ μ fun d μ1 => match d with
  | .str a => we R δ μ1 fun f μ2 => match f with
    | .int i => PadOk i = true ∧ P (.str (Txt.zfill a i)) μ2
    | _ => False
  | _ => False
theorem q_zfill (ho : QE X W o wo) (he : QE X W e we)
    (hs : starEach [e] X.env = [(false, eval e X.env)] := by rfl) (hbase : attributeBase o "zfill" X.env (eval o X.env) = eval o X.env := by rfl) (hline : (apos.endLine == pos.line) = true := by rfl) : QE X W (.Call (.Attribute o "zfill" apos) [e] [] pos) (wZfill wo we) := by
  obtain ⟨to, o1, o2⟩ := ho
  obtain ⟨te, e1, e2⟩ := he
  refine ⟨_, pe_m1 F.slot_str_zfill F.type_str_zfill mt_zfill o1 e1 hs hbase hline, fun R ι μ δ σ H P Q c h k => o2 R ι μ δ σ H _ _ c h fun x d ι1 μ1 H1 s1 r1 i1 q1 => ?_⟩
  cases d with
  | str a =>
    have ex : x = .str a := i1
    refine ⟨⟨a, ex⟩, e2 R ι1 μ1 δ σ H1 _ _ (c.stp s1 r1) q1 fun y f ι2 μ2 H2 s2 r2 i2 q2 => ?_⟩
    cases f with
    | int i =>
      have ey : y = .int i := i2
      exact ⟨a, i, ex, by rw [ey], q2.1, k (.str (Txt.zfill a i)) (.str (Txt.zfill a i)) ι2 μ2 H2 (s1.trans s2) r2 rfl q2.2⟩
    | _ => exact q2.elim
  | _ => exact q1.elim
/-- x.split(y): a new list of texts -/
def wSplitT (wo we : WE) : WE := fun R δ μ P => wo R δ μ fun d μ1 => match d with
  | .str a => we R δ μ1 fun f μ2 => match f with
    | .str b => (b.length == 0) = false ∧ a.length + 2 ≤ sizeLine ∧ P (.ref μ2.length) (μ2 ++ [.lst ((Txt.split a b).map D.str)])
    | _ => False
  | _ => False
theorem is_strs {K : PySem.W.Frag} {ι : List Addr} {H : Hp} : ∀ ys : List Str, IsAll K ι H (ys.map D.str) (ys.map V.str)
  | [] => rfl
  | y :: ys => ⟨.str y, ys.map V.str, rfl, rfl, is_strs ys⟩
theorem strs_is {K : PySem.W.Frag} {ι : List Addr} {H : Hp} : ∀ {ys : List Str} {vs : List V}, IsAll K ι H (ys.map D.str) vs → vs = ys.map V.str
  | [], _, h => h
  | y :: ys, _, h => by
    obtain ⟨v, r, e, i, t⟩ := h
    have i' : v = .str y := i
    rw [e, i', strs_is t]
    rfl
theorem q_splitT (ho : QE X W o wo) (he : QE X W e we)
    (hs : starEach [e] X.env = [(false, eval e X.env)] := by rfl) (hbase : attributeBase o "split" X.env (eval o X.env) = eval o X.env := by rfl) (hline : (apos.endLine == pos.line) = true := by rfl) : QE X W (.Call (.Attribute o "split" apos) [e] [] pos) (wSplitT wo we) := by
  obtain ⟨to, o1, o2⟩ := ho
  obtain ⟨te, e1, e2⟩ := he
  refine ⟨_, pe_split o1 e1 hs hbase hline, fun R ι μ δ σ H P Q c h k => o2 R ι μ δ σ H _ _ c h fun x d ι1 μ1 H1 s1 r1 i1 q1 => ?_⟩
  cases d with
  | str a =>
    have ex : x = .str a := i1
    refine ⟨⟨a, ex⟩, e2 R ι1 μ1 δ σ H1 _ _ (c.stp s1 r1) q1 fun y f ι2 μ2 H2 s2 r2 i2 q2 => ?_⟩
    cases f with
    | str b =>
      have ey : y = .str b := i2
      refine ⟨a, b, ex, by rw [ey], q2.1, q2.2.1, fun pn hp => ?_⟩
      exact k (.ref pn) (.ref μ2.length) (ι2 ++ [pn]) _ _ ((s1.trans s2).trans (Stp.push hp)) (r2.pushLst hp (is_strs _)) (is_pushed r2) q2.2.2
    | _ => exact q2.elim
  | _ => exact q1.elim
/-- x.join(ys): ys a list or a tuple of texts -/
def wJoinT (wo we : WE) : WE := fun R δ μ P => wo R δ μ fun d μ1 => match d with
  | .str a => we R δ μ1 fun f μ2 => ∃ ys : List Str, itemsOf μ2 f = some (ys.map D.str) ∧ (ys.map (·.length)).sum + ys.length * a.length ≤ 16777216 ∧ P (.str (Txt.join a ys)) μ2
  | _ => False
theorem q_joinT (ho : QE X W o wo) (he : QE X W e we)
    (hs : starEach [e] X.env = [(false, eval e X.env)] := by rfl) (hbase : attributeBase o "join" X.env (eval o X.env) = eval o X.env := by rfl) (hline : (apos.endLine == pos.line) = true := by rfl) : QE X W (.Call (.Attribute o "join" apos) [e] [] pos) (wJoinT wo we) := by
  obtain ⟨to, o1, o2⟩ := ho
  obtain ⟨te, e1, e2⟩ := he
  refine ⟨_, pe_join o1 e1 hs hbase hline, fun R ι μ δ σ H P Q c h k => o2 R ι μ δ σ H _ _ c h fun x d ι1 μ1 H1 s1 r1 i1 q1 => ?_⟩
  cases d with
  | str a =>
    have ex : x = .str a := i1
    refine ⟨⟨a, ex⟩, e2 R ι1 μ1 δ σ H1 _ _ (c.stp s1 r1) q1 fun y f ι2 μ2 H2 s2 r2 i2 q2 => ?_⟩
    obtain ⟨ys, hy, hz, q⟩ := q2
    obtain ⟨p, vs, ey, hq, ht⟩ := items_seq r2 i2 hy
    have ev := strs_is ht
    subst ev
    refine ⟨a, p, ys, ex, by rw [ey], ?_, hz, k (.str _) (.str (Txt.join a ys)) ι2 μ2 H2 (s1.trans s2) r2 rfl q⟩
    cases hk : isTup f with
    | false =>
      rw [hk] at hq
      exact .inl hq
    | true =>
      rw [hk] at hq
      exact .inr hq
  | _ => exact q1.elim
/-- x.partition(y) -/
def wPartT (wo we : WE) : WE := fun R δ μ P => wo R δ μ fun d μ1 => match d with
  | .str a => we R δ μ1 fun f μ2 => match f with
    | .str b => (b.length == 0) = false ∧ a.length ≤ sizeLine ∧ P (.tup [.str (Txt.partition a b).1, .str (Txt.partition a b).2.1, .str (Txt.partition a b).2.2]) μ2
    | _ => False
  | _ => False
theorem q_partT (ho : QE X W o wo) (he : QE X W e we)
    (hs : starEach [e] X.env = [(false, eval e X.env)] := by rfl) (hbase : attributeBase o "partition" X.env (eval o X.env) = eval o X.env := by rfl) (hline : (apos.endLine == pos.line) = true := by rfl) : QE X W (.Call (.Attribute o "partition" apos) [e] [] pos) (wPartT wo we) := by
  obtain ⟨to, o1, o2⟩ := ho
  obtain ⟨te, e1, e2⟩ := he
  refine ⟨_, pe_partition o1 e1 hs hbase hline, fun R ι μ δ σ H P Q c h k => o2 R ι μ δ σ H _ _ c h fun x d ι1 μ1 H1 s1 r1 i1 q1 => ?_⟩
  cases d with
  | str a =>
    have ex : x = .str a := i1
    refine ⟨⟨a, ex⟩, e2 R ι1 μ1 δ σ H1 _ _ (c.stp s1 r1) q1 fun y f ι2 μ2 H2 s2 r2 i2 q2 => ?_⟩
    cases f with
    | str b =>
      have ey : y = .str b := i2
      refine ⟨a, b, ex, by rw [ey], q2.1, q2.2.1, fun pn hp => ?_⟩
      exact k (.ref pn) (.tup [.str (Txt.partition a b).1, .str (Txt.partition a b).2.1, .str (Txt.partition a b).2.2]) ι2 μ2 _ ((s1.trans s2).trans (Stp.new hp)) (r2.new hp) ⟨pn, _, rfl, SqT.of upd_same, is_strs [_, _, _]⟩ q2.2.2
    | _ => exact q2.elim
  | _ => exact q1.elim
/-- x[lo:hi], x a text -/
def wSlT (wa : WE) (wl wh : WP) : WE := fun R δ μ P => wa R δ μ fun d μ1 => wl R δ μ1 fun lo μ2 => wh R δ μ2 fun hi μ3 => match d with
  | .str z => z.length ≤ sizeLine ∧ P (.str (cutS z lo hi)) μ3
  | _ => False
theorem q_sliceT {a : Expr} {wa : WE} {lo hi : Option Expr} {p2 : Pos} {wl wh : WP} (ha : QE X W a wa) (hl : QP X W lo wl) (hh : QP X W hi wh) : QE X W (.Subscript a (.Slice lo hi none p2) pos) (wSlT wa wl wh) := by
  obtain ⟨ta, a1, a2⟩ := ha
  obtain ⟨tl, l1, l2⟩ := hl
  obtain ⟨th, h1, h2⟩ := hh
  refine ⟨_, pe_slice sl_str a1 l1 h1, fun R ι μ δ σ H P Q c hw k => a2 R ι μ δ σ H _ _ c hw fun v d ι1 μ1 H1 s1 r1 i1 q1 => ?_⟩
  refine l2 R ι1 μ1 δ σ H1 _ _ (c.stp s1 r1) q1 fun lo' ι2 μ2 H2 s2 r2 q2 => h2 R ι2 μ2 δ σ H2 _ _ (c.stp (s1.trans s2) r2) q2 fun hi' ι3 μ3 H3 s3 r3 q3 => ?_
  cases d with
  | str z => exact ⟨z, i1, q3.1, (k.stp ((s1.trans s2).trans s3)).at r3 (d := .str _) rfl q3.2⟩
  | _ => exact q3.elim
/-- one sign in a text -/
def wInS : WO := fun d f μ P => match d, f with
  | .str x, .str z => ∃ c, x = ⟨#[c]⟩ ∧ P (.bl (decide (c ∈ z.cps.toList))) μ
  | _, _ => False
theorem qo_inS : QO X (compareOp .In) wInS := ⟨_, op_in_sign, fun ι μ H x y d f P Q r i1 i2 h k => by
  unfold wInS at h
  split at h
  · obtain ⟨c, e1, q⟩ := h
    subst e1
    exact ⟨c, _, i1, i2, k.at r (d := .bl _) rfl q⟩
  · exact h.elim⟩
/-- int(x), x a text -/
def wIntT : WB := fun ds μ P => match ds with
  | [.str a] => ∃ n, PySem.intText? a = some n ∧ a.length ≤ 640 ∧ P (.int n) μ
  | _ => False
theorem qb_intT : QB X (.type "int") wIntT := ⟨_, call_int_str, fun ι μ H vs ds P Q r i h k => by
  unfold wIntT at h
  split at h
  · obtain ⟨n, hn, hl, q⟩ := h
    obtain ⟨v, e1, iv⟩ := isAll1 i
    have iv' : v = .str _ := iv
    exact ⟨_, n, by rw [e1, iv'], hn, hl, k.at r (d := .int _) rfl q⟩
  · exact h.elim⟩
/-- x * n, x a text, n an int -/
def wMulS : WO := fun d f μ P => match d, f with
  | .str x, .int n => 2 ≤ n ∧ n ≤ 1000 ∧ 1 ≤ x.length ∧ x.length ≤ 1000 ∧ P (.str ⟨(List.replicate n.toNat x.cps).foldl (· ++ ·) #[]⟩) μ
  | _, _ => False
theorem rep_len (x : Array Nat) : ∀ (n : Nat) (a : Array Nat), ((List.replicate n x).foldl (· ++ ·) a).size = a.size + n * x.size
  | 0, a => by simp
  | n + 1, a => by
    rw [List.replicate_succ, List.foldl_cons, rep_len x n, Array.size_append, Nat.add_mul]
    omega
theorem op_mulS : OpR X (binaryOp .Mult) (fun x y H Q => ∃ (a : Str) (n : Int), x = .str a ∧ y = .int n ∧ (2 ≤ n ∧ n ≤ 1000 ∧ 1 ≤ a.length ∧ a.length ≤ 1000) ∧ Q (.str ⟨(List.replicate n.toNat a.cps).foldl (· ++ ·) #[]⟩) H) := by
  intro pins s σ H x y v u Q I rx ry h
  obtain ⟨a, n, rfl, rfl, ⟨h1, h2, h3, h4⟩, q⟩ := h
  obtain ⟨t, rfl⟩ := rx
  obtain ⟨t', rfl⟩ := ry
  have c : (n == 1 || a.length == 0) = false := by
    rw [Bool.or_eq_false_iff]
    exact ⟨beq_eq_false_iff_ne.mpr (by omega), beq_eq_false_iff_ne.mpr (by omega)⟩
  have sz : a.length * n.toNat ≤ 1000000 := by
    have := Nat.mul_le_mul h4 (show n.toNat ≤ 1000 by omega)
    omega
  refine PySem.P.mul_str ?_ ?_ ?_ ?_
  · rw [Bool.or_eq_false_iff]
    exact ⟨decide_eq_false (by omega), decide_eq_false (by omega)⟩
  · intro _ _ z
    have : ((2 : Int) ^ 63 - 1) / n ≥ ((2 : Int) ^ 63 - 1) / 1000 := by
      refine Int.le_ediv_of_mul_le (by omega) ?_
      have : ((2 : Int) ^ 63 - 1) / 1000 * n ≤ ((2 : Int) ^ 63 - 1) / 1000 * 1000 := Int.mul_le_mul_of_nonneg_left h2 (by decide)
      have : ((2 : Int) ^ 63 - 1) / 1000 * 1000 ≤ (2 : Int) ^ 63 - 1 := by decide
      omega
    have : ((2 : Int) ^ 63 - 1) / 1000 ≥ 1000000 := by decide
    omega
  · intro _ _
    show decide _ = false
    exact decide_eq_false (by show ¬ _ > sizeLine; have : 1000000 ≤ sizeLine := by decide
                              omega)
  · rw [if_neg (show ¬ n < 1 by omega), c]
    simp only [Bool.false_eq_true, if_false]
    refine ⟨?_, ?_⟩
    · have z : ((List.replicate n.toNat a.cps).foldl (· ++ ·) #[]).size = 0 + n.toNat * a.cps.size := rep_len a.cps n.toNat #[]
      have z2 : n.toNat * a.cps.size ≤ 1000 * 1000 := Nat.mul_le_mul (by omega) h4
      have z3 : 1000000 ≤ sizeLine := by decide
      show ((List.replicate n.toNat a.cps).foldl (· ++ ·) #[]).size ≤ sizeLine
      omega
    · exact ⟨.str _, H, I.tok _, ⟨_, rfl⟩, q⟩
theorem qo_mulS : QO X (binaryOp .Mult) wMulS := ⟨_, op_mulS, fun ι μ H x y d f P Q r i1 i2 h k => by
  unfold wMulS at h
  split at h
  · exact ⟨_, _, i1, i2, ⟨h.1, h.2.1, h.2.2.1, h.2.2.2.1⟩, k.at r (d := .str _) rfl h.2.2.2.2⟩
  · exact h.elim⟩
/-! f-strings -/
/-- {x}, a text or an int -/
def wFmt (we : WE) : WE := fun R δ μ P => we R δ μ fun d μ1 => match d with
  | .str y => y.length ≤ sizeLine ∧ P (.str y) μ1
  | .int i => i.natAbs.log2 < 1920 ∧ P (.str (toString i)) μ1
  | _ => False
theorem q_fmt (he : QE X W e we) : QE X W (.FormattedValue e (-1) none pos) (wFmt we) := by
  obtain ⟨te, e1, e2⟩ := he
  refine ⟨_, pe_fmt e1, fun R ι μ δ σ H P Q c h k => e2 R ι μ δ σ H _ _ c h fun x d ι1 μ1 H1 s1 r1 i1 q1 => ?_⟩
  cases d with
  | str y => exact .inl ⟨y, i1, q1.1, k (.str y) (.str y) ι1 μ1 H1 s1 r1 rfl q1.2⟩
  | int n => exact .inr ⟨n, i1, q1.1, k (.str (toString n)) (.str (toString n)) ι1 μ1 H1 s1 r1 rfl q1.2⟩
  | _ => exact q1.elim
def wJs : List WE → Str → XD → En → Sto → (Str → Sto → Prop) → Prop
  | [], acc, _, _, μ, P => P acc μ
  | w :: ws, acc, R, δ, μ, P => w R δ μ fun d μ1 => match d with
    | .str y => (acc ++ y).length ≤ sizeLine ∧ wJs ws (acc ++ y) R δ μ1 P
    | _ => False
inductive QJ (X : Cx) (W : WX) : List Expr → List WE → Prop where
  | nil : QJ X W [] []
  | cons {e : Expr} {w : WE} {es : List Expr} {ws : List WE} (h : QE X W e w) (r : QJ X W es ws) : QJ X W (e :: es) (w :: ws)
theorem qj_run {es : List Expr} {ws : List WE} (h : QJ X W es ws) : ∃ ts, PJ X es ts ∧ ∀ (acc : Str) R ι μ δ σ H P (Q : Str → Hp → Prop), Cn X.K W ι μ H δ σ R → wJs ws acc R δ μ P →
    (∀ out ι' μ' H', Stp ι H ι' H' → Rel X.K ι' μ' H' → P out μ' → Q out H') → tJs ts acc σ H Q := by
  induction h with
  | nil => exact ⟨[], .nil, fun acc R ι μ δ σ H P Q c h k => k acc ι μ H (Stp.refl ι H) c.rel h⟩
  | @cons e w es ws he _ ih =>
    obtain ⟨t, t1, t2⟩ := he
    obtain ⟨ts, j1, j2⟩ := ih
    refine ⟨t :: ts, .cons t1 j1, fun acc R ι μ δ σ H P Q c h k => t2 R ι μ δ σ H _ _ c h fun x d ι1 μ1 H1 s1 r1 i1 q1 => ?_⟩
    cases d with
    | str y => exact ⟨y, i1, q1.1, j2 (acc ++ y) R ι1 μ1 δ σ H1 P Q (c.stp s1 r1) q1.2 fun out ι2 μ2 H2 s2 r2 q2 => k out ι2 μ2 H2 (s1.trans s2) r2 q2⟩
    | _ => exact q1.elim
def wJoined (ws : List WE) : WE := fun R δ μ P => wJs ws Str.empty R δ μ fun out μ1 => P (.str out) μ1
theorem q_joined {v1 v2 : Expr} {rest : List Expr} {ws : List WE} (h : QJ X W (v1 :: v2 :: rest) ws) : QE X W (.JoinedStr (v1 :: v2 :: rest) pos) (wJoined ws) := by
  obtain ⟨ts, j1, j2⟩ := qj_run h
  exact ⟨_, pe_joined j1, fun R ι μ δ σ H P Q c h k => j2 Str.empty R ι μ δ σ H _ _ c h fun out ι' μ' H' s r q => k (.str out) (.str out) ι' μ' H' s r rfl q⟩
end
/-! [.. for c in x if ..], x a text -/
def wLcS (i : Nat) (wl : WE) (wt : WT) (we : WE) : WE := fun R δ μ P => wl R δ μ fun d μ1 => match d with
  | .str z => lcAll i wt we δ z.cps.size (fun m => .str ⟨#[z.cps.getD m 0]⟩) (fun _ => True) μ1 P
  | _ => False
section
variable {X : Cx} {W : WX} {pos : Pos} {elt iter : Expr} {ifs : List Expr} {scope : Scope} {x : Str} {i : Nat} {wt : WT} {we : WE}
theorem re_lcS {K : PySem.W.Frag} {tl : TE} {tt : TT} {te : TE} {wl : WE} (l2 : RE K W tl wl) (t2 : RT K W0 tt wt) (e2 : RE K W0 te we) : RE K W (tLc (iStr tl) (gName i) tt te [i]) (wLcS i wl wt we) := by
  refine fun R ι μ δ σ H P Q c h kt => l2 R ι μ δ σ H _ _ c h fun v d ι1 μ1 H1 s1 r1 i1 q1 => ?_
  cases d with
  | str z =>
    obtain ⟨Pv, h0, hturn, hd⟩ := q1
    refine ⟨z, i1, fun Dd hD => ?_⟩
    have rel0 : Rel K (ι1 ++ [Dd]) (μ1 ++ [.lst []]) (upd H1 Dd (.lst [])) := r1.pushLst (ds := []) hD rfl
    have kD : (ι1 ++ [Dd])[μ1.length]? = some Dd := by
      rw [← r1.len, List.getElem?_append_right (Nat.le_refl _), Nat.sub_self]
      rfl
    refine ⟨fun m n H' => n = z.cps.size - m ∧ m ≤ z.cps.size ∧ ∃ ι' μ' acc, Stp (ι1 ++ [Dd]) (upd H1 Dd (.lst [])) ι' H' ∧ Rel K ι' μ' H' ∧ cell μ' μ1.length = some (.lst acc) ∧ Pv m acc μ',
      ⟨z.cps.size, rfl, Nat.zero_le _, ι1 ++ [Dd], _, [], Stp.refl _ _, rel0, cell_new μ1 _ [], h0⟩, fun m n H' w => ?_⟩
    obtain ⟨hn, hle, ι', μ', acc, s', r', hc', hp⟩ := w
    have full := (s1.trans (Stp.push (o := .lst []) hD)).trans s'
    by_cases hlt : m < z.cps.size
    · obtain ⟨_, hl⟩ := hturn m acc μ' hlt hc' hp
      refine .inr ⟨hlt, fun H2 => ∃ ι2 μ2 acc, Stp (ι1 ++ [Dd]) (upd H1 Dd (.lst [])) ι2 H2 ∧ Rel K ι2 μ2 H2 ∧ cell μ2 μ1.length = some (.lst acc) ∧ Pv (m + 1) acc μ2, fun H2 w => ⟨z.cps.size - (m + 1), by omega, rfl, hlt, w⟩, fun w H2 hw => ?_⟩
      obtain ⟨eH, cc, ec, ev⟩ := hw
      subst eH ev
      have eg : z.cps.getD m 0 = cc := by
        rw [Array.getD_eq_getD_getElem?, ec]
        rfl
      have hl' : lcTurn i μ1.length wt we δ (.str ⟨#[z.cps.getD m 0]⟩) acc μ' (Pv (m + 1)) := hl
      rw [eg] at hl'
      refine lc_turn t2 e2 r' (c.env.stp full) (show Is K ι' H2 (.str ⟨#[cc]⟩) (.str ⟨#[cc]⟩) from rfl) (s'.ext _ _ kD) hl' fun acc' ι2 μ2 H3 s2 r2 hc2 hn => ?_
      exact ⟨ι2, μ2, acc', s'.trans s2, r2, hc2, hn⟩
    · have em : m = z.cps.size := by omega
      subst em
      obtain ⟨_, hP⟩ := hd acc μ' hc' hp
      exact .inl ⟨Nat.le_refl _, kt (.ref Dd) (.ref μ1.length) ι' μ' H' full r' ⟨Dd, s'.ext _ _ kD, rfl⟩ hP⟩
  | _ => exact q1.elim
theorem qe_lcS {px : Pos} {wl : WE} (hc : X.calm = true) (hN : X.N.Nodup) (hi : QE X W iter wl) (ok : BlkOk X.N X.env.scope scope [(x, i)])
    (hg : ∀ (s : Shared) (H : Hp) (C : Addr) (cl : List (Str × Addr)) (fp : List Addr), PG (X.blk s H scope (compEnvC scope cl C X.env) fp) (.Name x px) (gName i))
    (ht : ∀ (s : Shared) (H : Hp) (C : Addr) (cl : List (Str × Addr)) (fp : List Addr), QTs (X.blk s H scope (compEnvC scope cl C X.env) fp) W0 ifs wt)
    (he : ∀ (s : Shared) (H : Hp) (C : Addr) (cl : List (Str × Addr)) (fp : List Addr), QE (X.blk s H scope (compEnvC scope cl C X.env) fp) W0 elt we)
    (hs : ∀ z, foldedSetIterable iter X.env z = pure z := by intro _; rfl) :
    QE X W (.ListComp elt [⟨.Name x px, iter, ifs, 0⟩] scope pos) (wLcS i wl wt we) := by
  obtain ⟨tl, l1, l2⟩ := hi
  exact ⟨_, pe_lc (own := [(x, i)]) hc hN (pi_str l1) ok hg (fun s H C cl fp => QTs.canon (ht s H C cl fp)) (fun s H C cl fp => QE.canon (he s H C cl fp)) hs, re_lcS l2 rt_rd re_rd⟩
end
end HD
/-! HD27: more of texts: what signs they hold, prefixes, a list of a text's signs; not in a text; isinstance and repr of an empty dict too. -/
namespace HD
open PySem PySem.Spec PyProof.Rows L2
section
variable {X : Cx} {W : WX} {o e : Expr} {wo we : WE} {apos pos : Pos}
def wAscii (wo : WE) : WE := wT0 (fun _ => True) (fun a => .bl (Txt.isascii a)) wo
theorem q_ascii (ho : QE X W o wo) (hbase : attributeBase o "isascii" X.env (eval o X.env) = eval o X.env := by rfl) (hline : (apos.endLine == pos.line) = true := by rfl) : QE X W (.Call (.Attribute o "isascii" apos) [] [] pos) (wAscii wo) :=
  q_t0 (v := fun a => .bl (Txt.isascii a)) (fun _ _ _ _ => rfl) F.slot_str_isascii F.type_str_isascii mt_isascii ho hbase hline
def wDecimal (wo : WE) : WE := wT0 (fun _ => True) (fun a => .bl (Txt.isdecimal a)) wo
theorem q_decimal (ho : QE X W o wo) (hbase : attributeBase o "isdecimal" X.env (eval o X.env) = eval o X.env := by rfl) (hline : (apos.endLine == pos.line) = true := by rfl) : QE X W (.Call (.Attribute o "isdecimal" apos) [] [] pos) (wDecimal wo) :=
  q_t0 (v := fun a => .bl (Txt.isdecimal a)) (fun _ _ _ _ => rfl) F.slot_str_isdecimal F.type_str_isdecimal mt_isdecimal ho hbase hline
def wUnPre (wo we : WE) : WE := wT1 (fun a _ => a.length ≤ sizeLine) (fun a b => .str (Txt.removeprefix a b)) wo we
theorem q_unpre (ho : QE X W o wo) (he : QE X W e we)
    (hs : starEach [e] X.env = [(false, eval e X.env)] := by rfl) (hbase : attributeBase o "removeprefix" X.env (eval o X.env) = eval o X.env := by rfl) (hline : (apos.endLine == pos.line) = true := by rfl) : QE X W (.Call (.Attribute o "removeprefix" apos) [e] [] pos) (wUnPre wo we) :=
  q_t1 (v := fun a b => .str (Txt.removeprefix a b)) (fun _ _ _ _ _ => rfl) F.slot_str_removeprefix F.type_str_removeprefix mt_removeprefix ho he hs hbase hline
/-- one sign not in a text -/
def wNotInS : WO := fun d f μ P => match d, f with
  | .str x, .str z => ∃ c, x = ⟨#[c]⟩ ∧ P (.bl (!decide (c ∈ z.cps.toList))) μ
  | _, _ => False
theorem qo_notInS : QO X (compareOp .NotIn) wNotInS := ⟨_, op_notIn_sign, fun ι μ H x y d f P Q r i1 i2 h k => by
  unfold wNotInS at h
  split at h
  · obtain ⟨c, e1, q⟩ := h
    subst e1
    exact ⟨c, _, i1, i2, k.at r (d := .bl _) rfl q⟩
  · exact h.elim⟩
/-- list(x), x a text -/
theorem vals_signs (x : Str) : ∀ (l : List Value) (n : Nat), (∀ j v, l[j]? = some v → SignAt x (n + j) v) → Vals ((x.cps.toList.drop n).take l.length |>.map fun c => V.str ⟨#[c]⟩) l
  | [], n, _ => by
    show Vals (((x.cps.toList.drop n).take 0).map _) []
    rw [List.take_zero]
    exact .nil
  | v :: l, n, h => by
    obtain ⟨c, u, hc, ev⟩ := h 0 v rfl
    have hc' : x.cps.toList[n]? = some c := by rw [Array.getElem?_toList]; exact hc
    have hlt : n < x.cps.toList.length := by
      rcases Nat.lt_or_ge n x.cps.toList.length with z | z
      · exact z
      · rw [List.getElem?_eq_none z] at hc'
        cases hc'
    have e : x.cps.toList.drop n = c :: x.cps.toList.drop (n + 1) := by
      rw [List.drop_eq_getElem_cons hlt]
      rw [List.getElem?_eq_getElem hlt] at hc'
      rw [Option.some.inj hc']
    rw [e, List.length_cons, List.take_succ_cons, List.map_cons]
    refine .cons ⟨u, ev⟩ (vals_signs x l (n + 1) fun j w hw => ?_)
    have := h (j + 1) w (by rw [List.getElem?_cons_succ]; exact hw)
    rwa [show n + (j + 1) = n + 1 + j by omega] at this
theorem call_listT (hc : X.calm = true) : CallR X (.type "list") (fun xs H Q => ∃ x : Str, xs = [.str x] ∧ x.length ≤ sizeLine ∧ ∀ l, H l = none → Q (.ref l) (upd H l (.lst (x.cps.toList.map fun c => .str ⟨#[c]⟩)))) := by
  intro pins s σ H xs us Q I r h
  obtain ⟨x, rfl, hz, q⟩ := h
  obtain ⟨u, rfl, t, rfl⟩ := vals1 r
  refine call_list_str (I.ok.hd hc) x t (fun h' tk acc' c' hk e hi => ?_) hz
  refine ⟨.ref s.heap.objs.size, _, I.laid (t' := tk) hk (Nat.le_refl _) (show ObjOk X.prog X.w _ h' _ (.lst _) from ⟨?_, acc'.toList, c', ?_, e⟩), rfl, q _ (I.hok.fresh (Nat.le_refl _))⟩
  · rw [List.length_map, Array.length_toList]
    exact hz
  · have := vals_signs x acc'.toList 0 fun j v hv => by
      rw [Nat.zero_add]
      exact hi.2 j v (by rw [← Array.getElem?_toList]; exact hv)
    rw [List.drop_zero, List.take_of_length_le (by rw [Array.length_toList, Array.length_toList, hi.1]; exact Nat.le_refl _)] at this
    exact this
def wListT : WB := fun ds μ P => match ds with
  | [.str x] => x.length ≤ sizeLine ∧ P (.ref μ.length) (μ ++ [.lst (x.cps.toList.map fun c => .str ⟨#[c]⟩)])
  | _ => False
theorem isAll_signs {K : PySem.W.Frag} {ι : List Addr} {H : Hp} : ∀ l : List Nat, IsAll K ι H (l.map fun c => D.str ⟨#[c]⟩) (l.map fun c => V.str ⟨#[c]⟩)
  | [] => rfl
  | c :: l => ⟨_, _, rfl, rfl, isAll_signs l⟩
theorem qb_listT (hc : X.calm = true) : QB X (.type "list") wListT := ⟨_, call_listT hc, fun ι μ H vs ds P Q r i h k => by
  unfold wListT at h
  split at h
  · obtain ⟨hz, q⟩ := h
    obtain ⟨v, e1, iv⟩ := isAll1 i
    have iv' : v = .str _ := iv
    subst iv'
    refine ⟨_, e1, hz, fun p hp => ?_⟩
    exact k (.ref p) (.ref μ.length) (ι ++ [p]) _ _ (Stp.push hp) (r.pushLst hp (isAll_signs _)) (is_pushed r) q
  · exact h.elim⟩
/-- isinstance(x, a built-in class), x may be a dict -/
def tyOf2 (μ : Sto) (d : D) : Option String := match d with
  | .ref k => match cell μ k with
    | some (.dct _) => some "dict"
    | _ => tyOf μ (.ref k)
  | d => tyOf μ d
def wIsi2 (T : String) : WB := fun ds μ P => match ds with
  | [d, .ty n] => n = T ∧ ∃ t b, tyOf2 μ d = some t ∧ kitB t T = some b ∧ P (.bl b) μ
  | _ => False
theorem tyx_of2 {K : PySem.W.Frag} {ι : List Addr} {μ : Sto} {H : Hp} {d : D} {v : V} {t : String} (r : Rel K ι μ H) (i : Is K ι H d v) (h : tyOf2 μ d = some t) : TyX K H v (.type t) := by
  unfold tyOf2 at h
  split at h
  · split at h
    · rename_i kk kvs hc
      obtain ⟨a, vs, e1, e2, _⟩ := r.dct hc
      obtain ⟨a', ea, ev⟩ := i
      rw [e1] at ea
      cases ea
      cases h
      rw [ev]
      exact .base (.dK e2)
    · exact tyx_of r i h
  · exact tyx_of r i h
theorem qb_isi2 (T : String) : QB X (.builtin "isinstance") (wIsi2 T) := ⟨_, call_isi, fun ι μ H vs ds P Q r i h k => by
  unfold wIsi2 at h
  split at h
  · rename_i d n
    obtain ⟨en, t, b, ht, hb, q⟩ := h
    subst en
    obtain ⟨v, u, e1, iv, iu⟩ := isAll2 i
    have iu' : u = .ty n := iu
    subst iu'
    exact ⟨v, .ty n, .type t, .type n, b, e1, .ty n, tyx_of2 r iv ht, kit_ty hb, k.at r (d := .bl b) rfl q⟩
  · exact h.elim⟩
/-- repr of data, or of an empty dict -/
def emD (μ : Sto) : D → Bool
  | .ref k => match cell μ k with
    | some (.dct []) => true
    | _ => false
  | _ => false
theorem emD_of {μ : Sto} {d : D} (h : emD μ d = true) : ∃ k, d = .ref k ∧ cell μ k = some (.dct []) := by
  cases d with
  | ref k =>
    refine ⟨k, rfl, ?_⟩
    have h' : (match cell μ k with
      | some (.dct []) => true
      | _ => false) = true := h
    split at h'
    · assumption
    · cases h'
  | _ => cases h
def wRepr2 : WB := fun ds μ P => match ds with
  | [d] => match emD μ d with
    | true => P (.str "{}") μ
    | false => ∃ p, Py μ d p ∧ p.showable = true ∧ p.depth ≤ 60 ∧ p.shown.length ≤ sizeLine ∧ P (.str p.shown) μ
  | _ => False
theorem call_reprE (gd : X.A.guards = some []) (hu : X.A.units + 64 < cLine) : CallR X (.builtin "repr") (fun vs H Q => ∃ a, vs = [.ref a] ∧ H a = some (.dK []) ∧ Q (.str "{}") H) := by
  intro pins s σ H xs us Q I r h
  obtain ⟨a, rfl, ha, q⟩ := h
  obtain ⟨u, rfl, rx⟩ := vals1 r
  cases rx
  obtain ⟨hz, hS, vs, hk, m⟩ := dk_of I.hok ha
  cases hk
  obtain ⟨o, es, n, h1, h2, h3, h4, h5, _⟩ := m
  have he : es.toList = [] := List.eq_nil_of_length_eq_zero h5.length
  have rd : Reads s.heap (.ref a) (.dict []) (a :: [] ++ []) := Reads.dict h1 h2.1 h3 (by rw [he]; exact .nil) (by rw [he]; exact .nil)
  exact repr_of_reads' rd rfl (fun _ z => by
    rcases List.mem_cons.mp z with z | z
    · rw [← z, beq_self_eq_true] at hS
      cases hS
    · cases z) gd (by show _ + (PyData.depth (.dict []) + 1) < _; have : PyData.depth (.dict []) = 1 := by decide
                      omega) (fun _ _ z => z) (fun h' u tk hk => ⟨.str _, H, I.kept (t' := tk) hk, ⟨_, rfl⟩, q⟩) (by decide)
theorem qb_repr2 (gd : X.A.guards = some []) (hu : X.A.units + 64 < cLine) : QB X (.builtin "repr") wRepr2 := by
  refine ⟨_, (call_repr gd hu).or (call_reprE gd hu), fun ι μ H vs ds P Q r i h k => ?_⟩
  unfold wRepr2 at h
  split at h
  · rename_i d
    obtain ⟨v, e1, iv⟩ := isAll1 i
    split at h
    · rename_i hd
      obtain ⟨kk, ed, hc⟩ := emD_of hd
      subst ed
      obtain ⟨a, vs', f1, f2, f3⟩ := r.dct hc
      obtain ⟨a', ea, ev⟩ := iv
      rw [f1] at ea
      cases ea
      exact .inr ⟨a, by rw [e1, ev], f2, k.at r (d := .str _) rfl h⟩
    · obtain ⟨p, h1, h2, h3, h4, h5⟩ := h
      exact .inl ⟨v, p, e1, Py.dp r p _ v h1 iv, hasDict_py.1 p _ h1, h2, h3, h4, k.at r (d := .str _) rfl h5⟩
  · exact h.elim
end
end HD
/-! HD28: count and index of truth values; a caught error that is handed to a def. -/
namespace HD
open PySem PySem.Spec PyProof.Rows L2
section
variable {X : Cx} {W : WX} {o e : Expr} {wo we : WE} {apos cpos : Pos}
theorem count_flat {y : V} : ∀ {ys : List V} {us : List Value}, Vals ys us → ys.all flatV = true → us.countP (eqU y) = ys.countP (fun z => eqV z y)
  | _, _, .nil, _ => rfl
  | z :: ys, u :: us, .cons r t, f => by
    rw [List.all_cons, Bool.and_eq_true] at f
    rw [List.countP_cons, List.countP_cons, count_flat t f.2, eqU_of r f.1]
def rCntF (K : PySem.W.Frag) : V → List V → Hp → VK → Prop := fun x xs H Q => ∃ (p : Addr) (ys : List V) (y : V), x = .ref p ∧ xs = [y] ∧ SqL K H p ys ∧ flatV y = true ∧ ys.all flatV = true ∧ Q (.int (ys.countP (fun z => eqV z y) : Nat)) H
theorem mt_countF : MtR X "list.count" (rCntF X.K) := by
  intro pins s σ H x xs v us Q I rx rxs h
  obtain ⟨p, ys, y, rfl, rfl, hs, fy, fys, q⟩ := h
  cases rx
  obtain ⟨u, rfl, ru⟩ := rxs.one
  obtain ⟨its, rv, ⟨⟨cls, dd, data, sl⟩, n, ho, hc, hdn, hd⟩, hlen⟩ := I.list hs
  simp only at hc hd
  subst hc hd
  refine call_meets PySem.F.slot_list_count ⟨_, ho, rfl⟩ PySem.F.entry_list_count (PySem.F.args_list_count_2 _ _)
    (SeqAt.list_countAt p its.toArray n dd sl u (eqU y)) ⟨ho, fun z hz => mem_eqAt ru fy rv fys z (by simpa using hz), ?_⟩
  have ec : its.toArray.toList.countP (eqU y) = ys.countP (fun z => eqV z y) := count_flat rv fys
  refine ⟨.int (ys.countP (fun z => eqV z y) : Nat), H, I.tok _, ⟨s.toks, ?_⟩, q⟩
  show Value.int ((its.toArray.toList.countP (eqU y) : Nat) : Int) s.toks = _
  rw [ec]
/-- xs.count(b), xs.index(b), truth values -/
def wCntB (wo we : WE) : WE := fun R δ μ P => wo R δ μ fun x μ1 => match x with
  | .ref k => (∃ ys, lstAt μ1 k = some ys) ∧ we R δ μ1 fun d μ2 => match d with
    | .bl b => ∃ bs : List Bool, lstAt μ2 k = some (bs.map D.bl) ∧ P (.int (bs.count b : Nat)) μ2
    | _ => False
  | _ => False
def wIdxB (wo we : WE) : WE := fun R δ μ P => wo R δ μ fun x μ1 => match x with
  | .ref k => (∃ ys, lstAt μ1 k = some ys) ∧ we R δ μ1 fun d μ2 => match d with
    | .bl b => ∃ (bs : List Bool) (j : Nat), lstAt μ2 k = some (bs.map D.bl) ∧ bs[j]? = some b ∧ (∀ m, m < j → bs[m]? ≠ some b) ∧ P (.int (j : Nat)) μ2
    | _ => False
  | _ => False
theorem flat_bls : ∀ bs : List Bool, (bs.map V.bl).all flatV = true
  | [] => rfl
  | _ :: bs => flat_bls bs
theorem count_bls (b : Bool) : ∀ bs : List Bool, (bs.map V.bl).countP (fun z => eqV z (.bl b)) = bs.count b
  | [] => rfl
  | c :: bs => by
    rw [List.map_cons, List.countP_cons, List.count_cons, count_bls b bs]
    rfl
theorem q_cntB (ho : QE X W o wo) (he : QE X W e we)
    (hbase : attributeBase o "count" X.env (eval o X.env) = eval o X.env := by rfl)
    (hfew : ((backTo cpos (starEach (e :: []) X.env)).all (fun x => !x.1) && (backToKw cpos (keywordEach [] X.env)).all (fun x => x.1.isSome)
      && decide ((e :: ([] : List Expr)).length + ([] : List Keyword).length + (if ([] : List Keyword).isEmpty then 0 else 1) < 30)) = true := by rfl)
    (hline : (apos.endLine == cpos.line) = true := by rfl) (hs : starEach (e :: []) X.env = (false, eval e X.env) :: starEach [] X.env := by rfl) (hplain : (backTo cpos (starEach [] X.env)).any (·.1) = false := by rfl) :
    QE X W (.Call (.Attribute o "count" apos) [e] [] cpos) (wCntB wo we) := by
  obtain ⟨to, o1, o2⟩ := ho
  obtain ⟨te, e1, e2⟩ := he
  refine ⟨_, pe_bm PySem.F.plainAttrs_list PySem.F.slot_list_count PySem.F.type_list_count mt_countF o1 (pa_cons e1 pa_nil hs) hbase hfew hline hs hplain, fun R ι μ δ σ H P Q c h k => o2 R ι μ δ σ H _ _ c h fun v x ι1 μ1 H1 s1 r1 i1 q1 => ?_⟩
  cases x with
  | ref n =>
    obtain ⟨⟨ys, hys⟩, q1⟩ := q1
    obtain ⟨a, ea, ev⟩ := i1
    subst ev
    obtain ⟨a', zs, ea', hz, _⟩ := r1.lst hys
    rw [ea] at ea'
    obtain rfl : a = a' := Option.some.inj ea'
    refine ⟨.inl ⟨rfl, zs, SqL.of hz⟩, e2 R ι1 μ1 δ σ H1 _ _ (c.stp s1 r1) q1 fun u d ι2 μ2 H2 s2 r2 i2 q2 => ?_⟩
    cases d with
    | bl b =>
      have eu : u = .bl b := i2
      subst eu
      obtain ⟨bs, hb, q⟩ := q2
      obtain ⟨a2, us, ea2, hu, ht⟩ := r2.lst hb
      rw [s2.ext n a ea] at ea2
      obtain rfl : a = a2 := Option.some.inj ea2
      have := isAll_bls ht
      subst this
      refine ⟨a, bs.map V.bl, .bl b, rfl, rfl, SqL.of hu, rfl, flat_bls bs, ?_⟩
      rw [count_bls]
      exact k (.int _) (.int _) ι2 μ2 H2 (s1.trans s2) r2 rfl q
    | _ => exact q2.elim
  | _ => exact q1.elim
theorem q_idxB (ho : QE X W o wo) (he : QE X W e we)
    (hbase : attributeBase o "index" X.env (eval o X.env) = eval o X.env := by rfl)
    (hfew : ((backTo cpos (starEach (e :: []) X.env)).all (fun x => !x.1) && (backToKw cpos (keywordEach [] X.env)).all (fun x => x.1.isSome)
      && decide ((e :: ([] : List Expr)).length + ([] : List Keyword).length + (if ([] : List Keyword).isEmpty then 0 else 1) < 30)) = true := by rfl)
    (hline : (apos.endLine == cpos.line) = true := by rfl) (hs : starEach (e :: []) X.env = (false, eval e X.env) :: starEach [] X.env := by rfl) (hplain : (backTo cpos (starEach [] X.env)).any (·.1) = false := by rfl) :
    QE X W (.Call (.Attribute o "index" apos) [e] [] cpos) (wIdxB wo we) := by
  obtain ⟨to, o1, o2⟩ := ho
  obtain ⟨te, e1, e2⟩ := he
  refine ⟨_, pe_bm PySem.F.plainAttrs_list PySem.F.slot_list_index PySem.F.type_list_index mt_index o1 (pa_cons e1 pa_nil hs) hbase hfew hline hs hplain, fun R ι μ δ σ H P Q c h k => o2 R ι μ δ σ H _ _ c h fun v x ι1 μ1 H1 s1 r1 i1 q1 => ?_⟩
  cases x with
  | ref n =>
    obtain ⟨⟨ys, hys⟩, q1⟩ := q1
    obtain ⟨a, ea, ev⟩ := i1
    subst ev
    obtain ⟨a', zs, ea', hz, _⟩ := r1.lst hys
    rw [ea] at ea'
    obtain rfl : a = a' := Option.some.inj ea'
    refine ⟨.inl ⟨rfl, zs, SqL.of hz⟩, e2 R ι1 μ1 δ σ H1 _ _ (c.stp s1 r1) q1 fun u d ι2 μ2 H2 s2 r2 i2 q2 => ?_⟩
    cases d with
    | bl b =>
      have eu : u = .bl b := i2
      subst eu
      obtain ⟨bs, j, hb, hj, hno, q⟩ := q2
      obtain ⟨a2, us, ea2, hu, ht⟩ := r2.lst hb
      rw [s2.ext n a ea] at ea2
      obtain rfl : a = a2 := Option.some.inj ea2
      have := isAll_bls ht
      subst this
      refine ⟨a, bs.map V.bl, .bl b, j, .bl b, rfl, rfl, SqL.of hu, rfl, flat_bls bs, by rw [List.getElem?_map, hj]; rfl, beq_self_eq_true b, fun m z' hm hz' => ?_, k (.int _) (.int _) ι2 μ2 H2 (s1.trans s2) r2 rfl q⟩
      rw [List.getElem?_map] at hz'
      cases hbm : bs[m]? with
      | none =>
        rw [hbm] at hz'
        cases hz'
      | some c =>
        rw [hbm] at hz'
        have ez : z' = .bl c := (Option.some.inj hz').symm
        subst ez
        have ne : c ≠ b := fun z => hno m hm (by rw [hbm, z])
        exact beq_eq_false_iff_ne.mpr ne
    | _ => exact q2.elim
  | _ => exact q1.elim
end
/-! isinstance of an error that has fields -/
section
variable {prog : Program} {w : World} {A : Around} {E : Value → Shared → Prop} {s : Shared} {K : PySem.W.Frag} {x D : Addr} {ox : Obj} {od : Option Obj}
open PySem.W in
theorem class_of_err {Q : Option Value → Shared → Prop} (C : ExcC K D) (hf : findObj K D od "__class__" = some (.bind (.builtin "getset_descriptor.__get__") (.builtin "object.__class__"))) (X : K.In s.heap) (I : InstAt s.heap x ox D od) (h : Q (some (.ref D)) { s with toks := s.toks + 1 }) :
    wpAny (model prog w) A (getAttr? (.ref x) "__class__") Q E s := by
  obtain ⟨hp, g, dr, t, os⟩ := s
  have ty := I.type (M := model prog w)
  have find := looks_find (M := model prog w) X I hf
  have sub : Looks (model prog w) hp (isInstance (.ref x) (.type "BaseException")) true := ty.andThen (looks_subIn X C.hs)
  have other : (Value.builtin "BaseException.__getattribute__" == Value.builtin "object.__getattribute__") = false := by decide +kernel
  unfold getAttr? getAttrBy? getAttrBy
  refine wpAny_bind (wpAny_mkText (wpAny_bind (wpAny_attempt (wpAny_holding (wpAny_bind (ty.at (wpAny_bind ((looks_findIn (M := model prog w) X C.hg).at ?_))))))))
  show wpAny _ _ (if (onTheHeap (Value.ref D) && Value.builtin "BaseException.__getattribute__" == Value.builtin "object.__getattribute__") = true then _ else _) _ _ _
  rw [other, Bool.and_false, if_neg Bool.false_ne_true]
  unfold getAttrByItsOwn hookBefore
  refine wpAny_bind ?_
  rw [if_pos (show onTheHeap (Value.ref D) = true from rfl)]
  refine (looks_findIn (M := model prog w) X C.hk).at (wpAny_bind (wpAny_attempt (wpAny_holding ?_)))
  unfold callGetattribute
  rw [show (false && onTheHeap (Value.builtin "BaseException.__getattribute__")) = false from rfl, if_neg Bool.false_ne_true]
  unfold boundAndCalled
  rw [PySem.F.excAttr_ValueError.ga.bind (.ref x)]
  refine wpAny_bind (wpAny_pure ?_)
  show wpAny _ _ (call (.builtin "BaseException.__getattribute__") [.ref x, .str "__class__" t]) _ _ _
  refine wpAny_call (codeAny_call_builtin PySem.F.excAttr_ValueError.ga.plain PySem.F.entry_bexc_ga ?_)
  refine @check_slot (model prog w) _ _ ⟨hp, g, dr, t + 1, os⟩ "BaseException.__getattribute__" "BaseException" "__getattribute__" (.ref x) [.str "__class__" t] [] _ (by decide +kernel) (by decide +kernel) sub (PySem.F.args_bexc_ga (.ref x) (.str "__class__" t)) ?_
  unfold Builtin.«object.__getattribute__»
  refine wpAny_bind (wpAny_of_eq (a := ((Value.ref x : Value), [Value.str "__class__" t])) (by first | rfl | (simp only [slotArgs]; rfl)) ?_)
  refine wpAny_bind (wpAny_pure (wpAny_bind (ty.at (wpAny_bind (find.at ?_)))))
  show wpAny _ _ (holding [Value.builtin "object.__class__"] (call (.builtin "getset_descriptor.__get__") [.builtin "object.__class__", .ref x, .ref D]) >>= ret) _ _ _
  refine wpAny_bind (wpAny_holding (wpAny_call (class_get (s := ⟨hp, g, dr, t + 1, os⟩) (ox := ox) (od := od) X I C.hm (wpAny_pure ?_))))
  show wpAny _ _ (handedOut (.ref D)) _ _ _
  rw [handedOut_of (v := .ref D) rfl]
  first
    | exact wpAny_pure (wpAny_pure h)
    | exact wpAny_pure h
    | exact wpAny_pure (wpAny_bind (wpAny_pure (wpAny_pure h)))
open PySem.W in
theorem kit_err (C : ExcC K D) (o : Obj) : KitX K (.ref x) (.ref D) (fun h => InstAt h x ox D (some o)) := by
  have hc : (clsIn K D).isSome = true := by
    obtain ⟨cd, h, _⟩ := any_some C.hd
    rw [h]
    rfl
  refine ⟨fun _ _ _ I => I.type, ?_, ?_, ?_⟩
  · intro M h X _
    obtain ⟨cd, e⟩ := Option.isSome_iff_exists.mp hc
    unfold clsIn at e
    split at e
    · rename_i l
      intro A' Q' E' s' k q
      unfold isType loadHead
      exact wpAny_bind (wpAny_loadPart (k _ _ (X _ _ l)) (wpAny_pure q))
    · cases e
  · intro h tp dd its n sl X ht
    refine beq_eq_false_iff_ne.mpr fun q => ?_
    have ed : D = tp := Value.ref.inj q
    subst ed
    obtain ⟨cd, e⟩ := Option.isSome_iff_exists.mp hc
    unfold clsIn at e
    split at e
    · rename_i l
      have z := (X _ _ l).symm.trans ht
      cases z
    · cases e
  · exact fun X I k => class_of_err C (findObj_data hc C.ha C.hn C.ht) X I k
end
/-! room within a suite -/
theorem _root_.L2H.RoomH.units {k : Nat} {A : Around} (r : L2H.RoomH k A) : A.units + 64 < cLine := by have := r.un; omega
theorem roomH_suite {k : Nat} {A : Around} (r : Room k A) (h : Option Value) : L2H.RoomH k (A.mark h) := ⟨r.dp, r.un⟩
theorem room65H {k : Nat} {A : Around} (r : L2H.RoomH k A) : A.units + 65 < cLine := by have := r.un; omega
/-! a def that is handed a caught error: its object is not among the caller's things, nor a frame -/
structure AtE (outer : List Env) (s : Shared) (H : Hp) (a : Addr) (oe : Obj) : Prop where
  get : s.heap.get? a = some oe
  non : H a = none
  fr : a ∉ frs outer
theorem AtE.later {X : Cx} {pins : List (Addr × Obj)} {σ : L2.St} {H : Hp} {s : Shared} {a : Addr} {oe : Obj} (t : AtE X.outer X.s_0 X.H_0 a oe) (hx : X.ex = []) (I : Inv X pins σ H s) : s.heap.get? a = some oe :=
  I.base.keep a oe t.get t.non t.fr (by rw [hx]; exact List.not_mem_nil)
theorem AtE.pinned {X : Cx} {pins : List (Addr × Obj)} {σ : L2.St} {H : Hp} {s : Shared} {a : Addr} {oe : Obj} (hs : X.stack = X.env :: X.outer) (hf : X.env.frame = some X.env.locals) (hm : (a, oe) ∈ X.pn ++ pins) (I : Inv X pins σ H s) : AtE X.stack s H a oe := by
  obtain ⟨h1, h2, h3, h4, _⟩ := I.pin (a, oe) hm
  refine ⟨h1, h2, ?_⟩
  rw [hs]
  intro z
  have e : frs (X.env :: X.outer) = X.env.locals :: frs X.outer := by
    unfold frs
    rw [List.filterMap_cons, hf]
  rw [e] at z
  rcases List.mem_cons.mp z with z | z
  · exact h3 z
  · exact h4 z
structure FnE (a : Addr) (oe : Obj) (P : Program) (w : World) (K : PySem.W.Frag) (mg : Str → Option Value) (base : Heap) (k : Nat) (f : Addr) (fd : FuncData) (ps : List Str) (sp : Sp) : Prop where
  len : ∀ vs H Q E, sp vs H Q E → vs.length = ps.length
  run : ∀ (A : Around) (outer : List Env) (s : Shared) (H : Hp) (args : Args) (us : List Value) (vs : List V) (Q : VK) (E : XK), A.guards = some [] → L2H.RoomH k A →
    Env0 P w K mg base A outer s H → AtE outer s H a oe → BindsTo s fd args (ps.zip us) → Vals vs us → sp vs H Q E → codeAny (model P w) A (.call (.ref f) args) (CR (L2.CX P w) outer P w H s Q E) s
theorem fnE_of {a : Addr} {oe : Obj} {P : Program} {w : World} {K : PySem.W.Frag} {mg : Str → Option Value} {base : Heap} {x qual : Str} {st : Stmt} {f : Addr} {fd : FuncData} {N ps : List Str} {k : Nat} {sp : Sp}
    (F : Fun K x qual st f fd) (S : FnScope N ps (defScope st)) (hcl : ∀ v, oe.data ≠ .cell v) (hn : ∀ vs H Q E, sp vs H Q E → vs.length = ps.length)
    (body : ∀ (cdv : Value) (A : Around) (outer : List Env) (s : Shared) (H : Hp) (vs : List V) (Q : VK) (E : XK), A.guards = some [] → L2H.RoomH k (A.deeper (envOfC qual (defScope st) s.heap.objs.size f cdv)) → AtE outer s H a oe → sp vs H Q E →
      ∃ t, PSs (L2H.cxH (L2.CX P w) P w K mg base N qual (defScope st) f cdv A outer s H E (a, oe)) (defBody st) t ∧ t { nx := fun _ H' => Q .non H', rt := Q } (start N vs) H) :
    FnE a oe P w K mg base (k + 1) f fd ps sp := by
  obtain ⟨oc, od, kV, doc, pm, an, cdv, ct, osl, rfl, lk, hcd⟩ := F.ex
  refine ⟨hn, fun A outer s H args us vs Q E hgd hrm e0 hat hbind hvals hspec => ?_⟩
  have hlen : vs.length = ps.length := hn vs H Q E hspec
  have kin : K.In s.heap := fnG_of.Frag_keeps e0
  have nolim : s.heap.NoLimit := fnG_of.nolim_keeps e0
  have kinds : ∀ y ∈ ps.zip us, (defScope st).names.lookup y.1 = some .local ∨ ((defScope st).names.lookup y.1 = some .cell ∧
      ((cellsFrom (s.heap.objs.size + 1) (defScope st).names []).lookup y.1).isSome = true) := by
    intro y hy
    cases S.par y.1 (List.of_mem_zip (a := y.1) (b := y.2) hy).1 with
    | inl q => exact Or.inl q
    | inr q => exact Or.inr ⟨q, PySem.W.cellsFrom_some _ _ _ (Or.inl q)⟩
  have enter := hbind
  refine codeAny_call_function hrm.depth
    (kin _ _ lk) rfl S.co S.gen rfl
    (PySem.W.codeRec_of kin hcd) (enter _ _ _ _ ?_)
  refine wpAny_newFunctionEnv_cells S.kind kinds
    fun env' henv s' inC => ?_
  subst henv
  refine ⟨nolim.keeps inC.toInCall.keep, codeAny_func ?_⟩
  obtain ⟨t, hps, hstart⟩ := body cdv A outer s H vs Q E hgd (hrm.deeper _) hat hspec
  have inv0 := L2H.inv_startH (CX := L2.CX P w) (P := P) (w := w) (K := K) (mg := mg) (base := base) (qual := qual) (f := f) (cd := cdv) (E := E) (p := (a, oe)) S ⟨hat.get, hat.non, hat.fr, hcl⟩ e0 hlen hvals inC
  refine wpAny_mono (hps.run [] s' (start N vs) H _ inv0 hstart) (fun fl s2 hend => ?_) (fun _ _ z => z)
  match fl, hend with
  | .ret u, hend =>
    obtain ⟨v, σ2, H2, J, rv, q⟩ := hend
    exact ⟨v, H2, J.os, J.bare, J.base, J.hok, rv, q⟩
  | .next, hend =>
    obtain ⟨σ2, H2, J, q⟩ := hend
    exact ⟨.non, H2, J.os, J.bare, J.base, J.hok, (show RelV V.non Value.none from rfl), q⟩
  | .brk, hend =>
    obtain ⟨_, _, _, q⟩ := hend
    exact q.elim
  | .cont, hend =>
    obtain ⟨_, _, _, q⟩ := hend
    exact q.elim
theorem defE {a : Addr} {oe : Obj} {P : Program} {w : World} {K : PySem.W.Frag} {mg : Str → Option Value} {base : Heap} {x qual : Str} {st : Stmt} {f : Addr} {fd : FuncData} {N ps : List Str} {k : Nat} {sp : SpD} {ws : WS}
    (F : Fun K x qual st f fd) (S : FnScope N ps (defScope st)) (hfs : ∃ vs, oe.data = .fields vs) (hl : ∀ ds μ Pd R, sp ds μ Pd R → ds.length = ps.length)
    (der : ∀ (cdv : Value) (A : Around) (outer : List Env) (s : Shared) (H : Hp) (E : XK), A.guards = some [] → L2H.RoomH k (A.deeper (envOfC qual (defScope st) s.heap.objs.size f cdv)) → AtE outer s H a oe →
      QSs (L2H.cxH (L2.CX P w) P w K mg base N qual (defScope st) f cdv A outer s H E (a, oe)) (fun cls d _ H => E cls d H) (defBody st) ws)
    (vc : ∀ ds μ Pd R, sp ds μ Pd R → ws (fun _ C fs μ' => R C fs μ') { nx := fun _ μ' => Pd .non μ', rt := Pd } (startD N.length ds) μ) 
    : FnE a oe P w K mg base (k + 1) f fd ps (spOf K sp) := by
  have hpl : ps.length ≤ N.length := by
    have := congrArg List.length S.pre
    rw [List.length_take] at this
    omega
  refine fnE_of F S (fun v z => by obtain ⟨vs, e⟩ := hfs; rw [e] at z; cases z) (fun vs H Q E h => ?_) (fun cdv A outer s H vs Q E gd hr hat h => ?_)
  · obtain ⟨ι, μ, ds, Pd, R, r, i, q, _, _⟩ := h
    rw [i.length]
    exact hl _ _ _ _ q
  · obtain ⟨ι, μ, ds, Pd, R, r, i, q, kt, kx⟩ := h
    obtain ⟨t, h1, h2⟩ := der cdv A outer s H E gd hr hat
    refine ⟨t, h1, ?_⟩
    have env := env_start ds vs N (by rw [hl _ _ _ _ q]; exact hpl) i
    refine h2 (fun _ C fs μ' => R C fs μ') ι μ _ _ H _ _ ⟨r, env, ?_⟩ (vc ds μ Pd R q) ?_
    · exact fun ι' μ' δ' σ' H' C fs d s' r' e' hf z => kx C fs d ι' μ' H' s' r' hf z
    · exact ⟨fun ι' μ' H' δ' σ' s' r' e' z => kt .non .non ι' μ' H' s' r' rfl z, fun v d ι' μ' H' s' r' i' z => kt v d ι' μ' H' s' r' i' z, fun _ _ _ _ _ _ _ _ z => z.elim, fun _ _ _ _ _ _ _ _ z => z.elim⟩

section
variable {X : Cx} {k : Nat} {f : Addr} {fd : FuncData} {ps : List Str} {sp : Sp}
/-- such a def is called -/
theorem runE {a : Addr} {oe : Obj} {pins : List (Addr × Obj)} {σ : L2.St} {H : Hp} {s : Shared} {Q : VK} {us xs : List Value} {kw : List (Str × Value)} {vs : List V} {E : XK}
    (F : FnE a oe X.prog X.w X.K X.mg X.base k f fd ps sp) (gd : X.A.guards = some []) (hr : L2H.RoomH k X.A) (hx : PassesAt (L2.CX X.prog X.w) X σ E) (I : Inv X pins σ H s) (hat : AtE X.stack s H a oe)
    (hb : BindsTo s fd ⟨us, kw⟩ (ps.zip xs)) (r : Vals vs xs) (h : sp vs H Q E) : wpAny (model X.prog X.w) X.A (call (.ref f) us kw) (EP X pins σ Q) X.xe s := by
  have go := F.run X.A X.stack s H ⟨us, kw⟩ xs vs Q E gd hr I.env0 hat hb r h
  refine wpAny_call (codeAny_mono go ?_)
  intro res s' hres
  match res, hres with
  | .error e, hres => exact hx pins H s e s' I hres
  | .ok (.ret u), hres => exact I.after hres
  | .ok .next, hres => exact False.elim hres
  | .ok .brk, hres => exact False.elim hres
  | .ok .cont, hres => exact False.elim hres
variable {x : Str} {p pos : Pos} {e : Expr} {es : List Expr} {t tk : TA} {E : L2.St → XK}
theorem pe_callE {a : Addr} {oe : Obj} (F : FnE a oe X.prog X.w X.K X.mg X.base k f fd ps sp) (gd : X.A.guards = some []) (hr : L2H.RoomH k X.A) (hg : Gl X x) (hm : X.mg x = some (.ref f)) (hk : PySem.W.keepIn X.K (.ref f) = true) (hb : Binds X.K fd ps [])
    (hat : ∀ (pins : List (Addr × Obj)) (σ : L2.St) (H : Hp) (s : Shared), Inv X pins σ H s → AtE X.stack s H a oe) (hx : ∀ σ, PassesAt (L2.CX X.prog X.w) X σ (E σ)) (ha : PA X (e :: es) t) (hdb : (x == ("__debug__" : Str)) = false := by decide)
    (he : starEach (e :: es) X.env = (false, eval e X.env) :: starEach es X.env := by rfl) (hpl : (backTo pos (starEach es X.env)).any (·.1) = false := by rfl) :
    PE X (.Call (.Name x p) (e :: es) [] pos) (tCallS sp E t) := by
  refine ⟨fun pins s σ H Q I h => ?_⟩
  refine wpAny_Call_Name_kw (ld_glob I hg hm ?_ hdb)
  have args := ha.run pos pins s σ H _ I h
  refine PySem.W.callWith_K (h₀ := X.base) I.ok.mod.kin hk (thn args ?_) he hpl
  intro us s1 hq
  obtain ⟨vs, H1, I1, r, q⟩ := hq
  refine ⟨I1.kIn, ?_⟩
  have hl : us.length = ps.length := r.length.symm.trans (F.len _ _ _ _ q)
  have b := hb s1 us I1.kIn (by rw [List.append_nil]; exact hl)
  rw [List.append_nil] at b
  exact runE F gd hr (hx σ) I1 (hat _ _ _ _ I1) b r q
end
section
variable {X : Cx} {W : WX} {k : Nat} {f : Addr} {fd : FuncData} {ps : List Str} {sp : SpD} {x : Str} {p pos : Pos} {e : Expr} {es : List Expr} {wa wk : WA}
theorem q_callE {a : Addr} {oe : Obj} (F : FnE a oe X.prog X.w X.K X.mg X.base k f fd ps (spOf X.K sp)) (gd : X.A.guards = some []) (hr : L2H.RoomH k X.A) (hg : Gl X x) (hm : X.mg x = some (.ref f)) (hk : PySem.W.keepIn X.K (.ref f) = true) (hb : Binds X.K fd ps [])
    (hat : ∀ (pins : List (Addr × Obj)) (σ : L2.St) (H : Hp) (s : Shared), Inv X pins σ H s → AtE X.stack s H a oe) (tk : Takes X W) (ha : QA X W (e :: es) wa) (hdb : (x == ("__debug__" : Str)) = false := by decide)
    (he : starEach (e :: es) X.env = (false, eval e X.env) :: starEach es X.env := by rfl) (hpl : (backTo pos (starEach es X.env)).any (·.1) = false := by rfl) :
    QE X W (.Call (.Name x p) (e :: es) [] pos) (wCall sp wa) := by
  obtain ⟨t, h1, h2⟩ := ha
  refine ⟨_, pe_callE (E := L2.WE W) F gd hr hg hm hk hb hat (fun σ => passAt tk σ) h1 hdb he hpl, fun R ι μ δ σ H P Q c h kt => ?_⟩
  exact h2 R ι μ δ σ H _ _ c h fun vs ds ι1 μ1 H1 s1 r1 i1 q1 => ⟨ι1, μ1, ds, P, _, r1, i1, q1, kt.stp s1, ktx_of (μ' := μ1) c.xl c.env s1⟩
/-- in a suite of try that holds the error -/
theorem at_suite {X : Cx} {a : Addr} {oe : Obj} {pn : List (Addr × Obj)} (hs : (X.suite a ((a, oe) :: pn)).stack = (X.suite a ((a, oe) :: pn)).env :: (X.suite a ((a, oe) :: pn)).outer) (hf : (X.suite a ((a, oe) :: pn)).env.frame = some (X.suite a ((a, oe) :: pn)).env.locals)
    (hp : (X.suite a ((a, oe) :: pn)).pn = (a, oe) :: pn) : ∀ (pins : List (Addr × Obj)) (σ : L2.St) (H : Hp) (s : Shared), Inv (X.suite a ((a, oe) :: pn)) pins σ H s → AtE (X.suite a ((a, oe) :: pn)).stack s H a oe :=
  fun pins σ H s I => AtE.pinned hs hf (by rw [hp]; exact List.mem_append_left _ (List.mem_cons_self ..)) I
end
/-! isinstance of a handed error, its field -/
/-- what a class of errors must say, so that its fields are read plainly -/
structure FldC (K : PySem.W.Frag) (C : Addr) (f : Str) : Prop where
  ga : PySem.W.findIn K (.ref C) "__getattribute__" = some (some (.builtin "BaseException.__getattribute__"))
  gg : PySem.W.findIn K (.ref C) "__getattr__" = some none
  exC : PySem.W.subIn K (.ref C) (.type "BaseException") = some true
  hdC : PySem.W.hasDictIn K C = true
  noF : PySem.W.findIn K (.ref C) f = some none
/-- the class that stands behind data -/
def clsOf : D → Option Value
  | .adr A => some (.ref A)
  | .ty n => some (.type n)
  | _ => none
theorem inst_dict {X : Cx} {pins : List (Addr × Obj)} {σ : L2.St} {H : Hp} {s : Shared} {a C dx : Addr} {oe : Obj} {fs : List (Str × V)} (I : Inv X pins σ H s) (ha : s.heap.get? a = some oe) (hz : Zc (.ref C) (some dx) oe) (hf : ∃ vs, oe.data = .fields vs) (hx : H dx = some (.xd fs)) :
    ∃ od mA, s.heap.get? dx = some od ∧ PySem.W.InstAt s.heap a oe C (some od) ∧ s.heap.Ns1 dx mA ∧ (∀ f, RelO (fs.lookup f) (mA f)) := by
  obtain ⟨vs, hdat⟩ := hf
  have kept : ObjOk X.prog X.w H s.heap dx (.xd fs) := I.hok dx _ hx
  obtain ⟨mA, hns, hrel⟩ := kept
  obtain ⟨od, ho, hl⟩ := lookIn_ns hns
  exact ⟨od, mA, ho, ⟨ha, hz.1, by unfold PySem.W.notCls; rw [hdat] <;> rfl, by rw [hz.2]; exact ho⟩, hns, hrel⟩
/-- the dict that an error's fields lie in is there -/
def DxAt (H : Hp) : Option Addr → Prop
  | some dx => ∃ fs, H dx = some (.xd fs)
  | none => True
theorem call_isX {X : Cx} {a C : Addr} {d : Option Addr} {oe : Obj} (hz : Zc (.ref C) d oe) (hf : ∃ vs, oe.data = .fields vs) (later : ∀ (pins : List (Addr × Obj)) (σ : L2.St) (H : Hp) (s : Shared), Inv X pins σ H s → s.heap.get? a = some oe) :
    CallR X (.builtin "isinstance") (fun xs H Q => ∃ (c : V) (cv : Value) (b : Bool), xs = [.ref a, c] ∧ (∀ u, RelV c u → u = cv) ∧ ExcC X.K C ∧ PySem.W.kitOne X.K (.ref C) cv = some b ∧ DxAt H d ∧ Q (.bl b) H) := by
  intro pins s σ H xs us Q I r h
  obtain ⟨c, cv, b, rfl, hcv, T, e, hx, q⟩ := h
  cases r with
  | cons rx rr =>
    cases rr with
    | cons rt rr =>
      cases rr
      cases rx
      have ec := hcv _ rt
      subst ec
      have ha := later _ _ _ _ I
      cases d with
      | some dx =>
        obtain ⟨fs, hx⟩ := hx
        obtain ⟨od, mA, ho, J, _, _⟩ := inst_dict I ha hz hf hx
        exact PySem.W.kia_one (kit_err T od) I.kIn J e (fun z => nomatch z) fun tk => ⟨.bl b, H, I.kept (t' := tk) fun _ _ z => z, rfl, q⟩
      | none =>
        obtain ⟨vs, hdat⟩ := hf
        have J : PySem.W.InstAt s.heap a oe C none := ⟨ha, hz.1, by unfold PySem.W.notCls; rw [hdat] <;> rfl, by rw [hz.2]; exact True.intro⟩
        exact PySem.W.kia_one (PySem.W.handS_kitx_exc T.hg T.hk T.hs T.hd T.ha T.hn T.ht T.hm) I.kIn J e (fun z => nomatch z) fun tk => ⟨.bl b, H, I.kept (t' := tk) fun _ _ z => z, rfl, q⟩
/-- e is the error at a of the class C, its fields in d -/
def IsErr (a C : Addr) (d : Option Addr) (e : D) : Prop := match d with
  | some dx => ∃ ns es, e = .exc a C dx ns es
  | none => e = .adr a
theorem IsErr.is {K : PySem.W.Frag} {ι : List Addr} {H : Hp} {a C : Addr} {d : Option Addr} {e : D} {v : V} (h : IsErr a C d e) (i : Is K ι H e v) : v = .ref a ∧ DxAt H d := by
  cases d with
  | some dx =>
    obtain ⟨ns, es, rfl⟩ := h
    obtain ⟨e4, ws, hx, _, _⟩ := i
    exact ⟨e4, _, hx⟩
  | none =>
    have h' : e = .adr a := h
    subst h'
    exact ⟨i, trivial⟩
/-- isinstance(e, c), e an error that was handed -/
def wIsE (K : PySem.W.Frag) (a : Addr) (cls : Value) (d : Option Addr) : WB := fun ds μ P => match ds with
  | [e, t] => ∃ C, cls = .ref C ∧ IsErr a C d e ∧ ExcC K C ∧ ∃ cv b, clsOf t = some cv ∧ PySem.W.kitOne K cls cv = some b ∧ P (.bl b) μ
  | _ => False
theorem qb_isE {X : Cx} {a : Addr} {cls : Value} {d : Option Addr} {oe : Obj} (hz : Zc cls d oe) (hf : ∃ vs, oe.data = .fields vs) (later : ∀ (pins : List (Addr × Obj)) (σ : L2.St) (H : Hp) (s : Shared), Inv X pins σ H s → s.heap.get? a = some oe) :
    QB X (.builtin "isinstance") (wIsE X.K a cls d) := by
  have go : CallR X (.builtin "isinstance") (fun xs H Q => ∃ (C : Addr) (c : V) (cv : Value) (b : Bool), cls = .ref C ∧ xs = [.ref a, c] ∧ (∀ u, RelV c u → u = cv) ∧ ExcC X.K C ∧ PySem.W.kitOne X.K (.ref C) cv = some b ∧ DxAt H d ∧ Q (.bl b) H) := by
    intro pins s σ H xs us Q I r h
    obtain ⟨C, c, cv, b, ec, h⟩ := h
    subst ec
    exact call_isX hz hf later pins s σ H xs us Q I r ⟨c, cv, b, h⟩
  refine ⟨_, go, fun ι μ H vs ds P Q r i h k => ?_⟩
  unfold wIsE at h
  split at h
  · rename_i e1 t1
    obtain ⟨C, ec, he, T, cv, b, hc, hb, q⟩ := h
    subst ec
    obtain ⟨v, u, ev, iv, iu⟩ := isAll2 i
    obtain ⟨e4, hx⟩ := he.is iv
    refine ⟨C, u, cv, b, rfl, by rw [ev, e4], fun y ry => ?_, T, hb, hx, k.at r (d := .bl b) rfl q⟩
    cases t1 with
    | adr A =>
      have eu : u = .ref A := iu
      subst eu
      cases ry
      exact Option.some.inj hc
    | ty n =>
      have eu : u = .ty n := iu
      subst eu
      have ey : y = .type n := ry
      rw [ey]
      exact Option.some.inj hc
    | _ => cases hc
  · exact h.elim
/-- e.f, e an error that was handed -/
def tFldE (K : PySem.W.Frag) (f : Str) (a : Addr) (cls : Value) (d : Option Addr) (te : TE) : TE := fun σ H Q => te σ H fun y H1 => y = .ref a ∧ ∃ (C dx : Addr) (v : V), cls = .ref C ∧ FldC K C f ∧ d = some dx ∧ H1 dx = some (.xd [(f, v)]) ∧ Q v H1
theorem pe_fldE {X : Cx} {f : Str} {a : Addr} {oe : Obj} {cls : Value} {d : Option Addr} {e : Expr} {te : TE} {ep : Pos} (hz : Zc cls d oe) (hf : ∃ vs, oe.data = .fields vs) (later : ∀ (pins : List (Addr × Obj)) (σ : L2.St) (H : Hp) (s : Shared), Inv X pins σ H s → s.heap.get? a = some oe) (he : PE X e te)
    (hb : attributeBase e f X.env (eval e X.env) = eval e X.env) : PE X (.Attribute e f ep) (tFldE X.K f a cls d te) := by
  refine ⟨fun pins s σ H Q I h => ?_⟩
  refine attr_of hb (thn (he.run pins s σ H _ I h) fun u s1 hh => ?_)
  obtain ⟨y, H1, I1, ry, ey, C, dx, v, ec, T, ed, ea, q⟩ := hh
  subst ey ec ed
  obtain rfl : u = Value.ref a := ry
  obtain ⟨od, mA, ho, J, hns, hrel⟩ := inst_dict I1 (later _ _ _ _ I1) hz hf ea
  obtain ⟨od', ho', hl⟩ := lookIn_ns hns
  have eo : od = od' := Option.some.inj (ho.symm.trans ho')
  have lk : List.lookup f [(f, v)] = some v := by simp [List.lookup]
  obtain ⟨u', hu, ru⟩ := RelO.some_of (v := v) (o := mA f) (by rw [← lk]; exact hrel f)
  exact HandSPX.exc_get I1.kIn J T.ga T.gg T.exC (PySem.W.findObj_own T.hdC T.noF rfl (by rw [eo, hl, hu])) (handed_of ru) ⟨v, H1, I1.tok _, ru, q⟩
def wFldE (K : PySem.W.Frag) (f : Str) (a : Addr) (cls : Value) (d : Option Addr) (we : WE) : WE := fun R δ μ P => we R δ μ fun y μ1 => match y with
  | .exc a' C' dx ns ds => a' = a ∧ cls = .ref C' ∧ d = some dx ∧ ns = [f] ∧ FldC K C' f ∧ (match ds with
    | [z] => P z μ1
    | _ => False)
  | _ => False
theorem q_fldE {X : Cx} {W : WX} {f : Str} {a : Addr} {oe : Obj} {cls : Value} {d : Option Addr} {e : Expr} {we : WE} {ep : Pos} (hz : Zc cls d oe) (hf : ∃ vs, oe.data = .fields vs) (later : ∀ (pins : List (Addr × Obj)) (σ : L2.St) (H : Hp) (s : Shared), Inv X pins σ H s → s.heap.get? a = some oe) (he : QE X W e we)
    (hb : attributeBase e f X.env (eval e X.env) = eval e X.env := by rfl) : QE X W (.Attribute e f ep) (wFldE X.K f a cls d we) := by
  obtain ⟨t, h1, h2⟩ := he
  refine ⟨_, pe_fldE hz hf later h1 hb, fun R ι μ δ σ H P Q c h k => h2 R ι μ δ σ H _ _ c h fun v y ι1 μ1 H1 s1 r1 i1 q1 => ?_⟩
  cases y with
  | exc a' C' dx ns ds =>
    obtain ⟨e1, e2, e4, e5, T, q⟩ := q1
    obtain ⟨ev, vs, hx, hl, hall⟩ := i1
    subst e1 e2 e4 e5 ev
    match ds, hall, q with
    | [z], hall, q =>
      obtain ⟨v, r, ev, iv, er⟩ := hall
      have er' : r = [] := er
      subst er' ev
      exact ⟨rfl, C', dx, v, rfl, T, rfl, hx, k v z ι1 μ1 H1 s1 r1 iv q⟩
    | [], _, q => exact q.elim
    | _ :: _ :: _, _, q => exact q.elim
  | _ => exact q1.elim
/-- a thing is laid while an error is under way -/
theorem fly_push {base : Heap} {l : List Env} {a : Addr} {Z : Obj → Prop} {h : Heap} {o : Obj} (fl : HandSPX.FlyingZ base l a Z h) : HandSPX.FlyingZ base l a Z (h.push o) ∧ h.UpToSlots (h.push o) := by
  have kp : ∀ b u, h.get? b = some u → (h.push o).get? b = some u := fun _ _ z => Heap.get?_push_of_some _ z
  obtain ⟨f1, f2, f3, oe, vs, T, oT, ts, t1, t2, t3, t4, t5, t6, t7, t8⟩ := fl
  exact ⟨⟨fun b u z => kp _ _ (f1 b u z), f2, f3.of_keeps fun b u z _ => ⟨u, kp _ _ z, rfl⟩, oe, vs, T, oT, ts, kp _ _ t1, t2, t3, t4, t5, t6, kp _ _ t7, t8⟩, fun b u z _ => ⟨u.slots, kp _ _ z⟩⟩
end HD
/-! HD29: except (A, B, C) as e. -/
namespace HD
open PySem PySem.Spec PyProof.Rows L2
def wAs3 (K : PySem.W.Frag) (cs : List Value) (i : Nat) (ts : Addr → Value → Option Addr → TS) (Wout : L2.WX) (D : Ends) : L2.WX := fun cls d σ H =>
  ∃ b, PySem.W.exmAny K cls cs = some b ∧ (b = true → ∀ a, H a = none → ts a cls d { nx := fun σ' H' => D.nx (σ'.set i none) H', rt := D.rt, bk := fun σ' H' => D.bk (σ'.set i none) H', ct := fun σ' H' => D.ct (σ'.set i none) H' } (σ.set i (some (.ref a))) H) ∧
    (b = false → Wout cls d σ H)
section
variable {X : Cx} {x1 x2 x3 n : Str} {c1 c2 c3 : Value} {i kk : Nat} {body suite : List Stmt} {b₀ : Stmt} {p1 p2 p3 tpos pos pos' : Pos} {tb : L2.WX → TS} {ts : Addr → Value → Option Addr → TS} {Wout : L2.WX}
/-- the name of a class, read in a suite -/
theorem ld_names {Y : Cx} {pins : List (Addr × Obj)} {σ : L2.St} {H : Hp} {s : Shared} {x : Str} {c : Value} {np : Pos} {Q E : Value → Shared → Prop} (hc : Names Y x c) (I : Inv Y pins σ H s) (q : Q c s) : wpAny (model Y.prog Y.w) Y.A (eval (.Name x np) Y.env) Q E s := by
  obtain ⟨hg, hdbg, hm | ⟨hm, hv, hnn⟩⟩ := hc
  · exact ld_glob I hg hm q hdbg
  · exact ld_blt I hg hm hv q hnn hdbg
theorem not_frame {B h : Heap} {l : List Env} {a : Addr} {o : Obj} {vs : Array Value} (ff : h.FunFrames B l) (e : h.get? a = some o) (dd : o.data = .fields vs) : a ∉ frs l := fun hm => by
  obtain ⟨_, o', e', hnf⟩ := ff.mem hm
  rw [e] at e'
  cases e'
  exact hnf _ dd
theorem ps_try_as3 (hs : X.stack = X.env :: X.outer) (hf : X.env.frame = some X.env.locals) (hN : X.N.Nodup) (hi : X.N[i]? = some n) (hln : X.env.kindOf n = some .local) (n1 : Names X x1 c1) (n2 : Names X x2 c2) (n3 : Names X x3 c3) (tk : Takes X Wout)
    (hb : ∀ (W : L2.WX) (pn : List (Addr × Obj)) (xe : Value → Shared → Prop), Takes (X.tr pn xe) W → PassesOwn (model X.prog X.w) X.A X.env xe → PSs (X.tr pn xe) body (tb W))
    (hsu : ∀ (a : Addr) (oe : Obj) (cls : Value) (d : Option Addr) (pn : List (Addr × Obj)), Zc cls d oe → (∃ vs, oe.data = .fields vs) → PSs (X.suite a ((a, oe) :: pn)) (b₀ :: suite) (ts a cls d)) :
    PS X (.Try body [.ExceptHandler (some (.Tuple [.Name x1 p1, .Name x2 p2, .Name x3 p3] kk tpos)) (some n) (b₀ :: suite) pos'] [] [] pos) (fun D σ H => tb (wAs3 X.K [c1, c2, c3] i ts Wout D) D σ H) := by
  refine ⟨fun pins s σ H D I h => wpAny_Try_except ?_⟩
  have ok := I.ok
  refine wpAny_mono ((hb (wAs3 X.K [c1, c2, c3] i ts Wout D) (X.pn ++ pins) (fun e s₁ => wpAny (model X.prog X.w) X.A (noteFrame e X.env) (fun _ s₂ => wpAny (model X.prog X.w) X.A (setFlight e none) (fun _ s₃ =>
    wpAny (model X.prog X.w) X.A (handleBy e X.env [.ExceptHandler (some (.Tuple [.Name x1 p1, .Name x2 p2, .Name x3 p3] kk tpos)) (some n) (b₀ :: suite) pos']) (SP X pins D) X.xe s₃) X.xe s₂) X.xe s₁) (fun u s' xx => ?_) PassesOwn.looking).run [] s σ H D (I.toTry _) h) (fun f s1 e => ?_) (fun _ _ z => z)
  · obtain ⟨a, B, sI, pins', σ', H', cls, d, rfl, J0, nb, up, sky, na, os, ag, b, hb1, hyes, hno⟩ := xx
    have J : Inv X pins σ' H' sI := J0.ofTry ok
    refine Sky.land Zc.steady (by rw [ok.frames, hs]) hf (by rw [← hs]; exact sky) fun h3 fl up3 => ?_
    -- what holds wherever the error lies quietly
    have at_ : ∀ (h : Heap), HandSPX.FlyingZ B (X.env :: X.outer) a (Zc cls d) h → sI.heap.UpToSlots h → Inv X pins σ' H' { s' with heap := h } ∧ ∃ oe vs, h.get? a = some oe ∧ Zc cls d oe ∧ oe.data = .fields vs ∧ a ≠ X.env.locals ∧ a ∉ X.fs ∧ Inv (X.suite a ((a, oe) :: (X.pn ++ pins))) [] σ' H' { s' with heap := h } := fun h f u => by
      have I' : Inv X pins σ' H' { s' with heap := h } := J.landed nb f.1 u os ag
      obtain ⟨oe, vs, he, hz, hd⟩ := f.there
      have nfr := not_frame f.2.2.1 he hd
      have nL : a ≠ X.env.locals := fun z => nfr (List.mem_filterMap.mpr ⟨X.env, List.mem_cons_self, by rw [hf, z]⟩)
      have nF : a ∉ X.fs := fun hm => by
        obtain ⟨e, he, q⟩ := List.mem_filterMap.mp hm
        exact nfr (List.mem_filterMap.mpr ⟨e, List.mem_cons_of_mem _ he, q⟩)
      exact ⟨I', oe, vs, he, hz, hd, nL, nF, I'.suite he hd na nL nF⟩
    obtain ⟨I3, oe3, vs3, he3, hz3, hd3, _, _, S3⟩ := at_ h3 fl (up.trans up3)
    have ty : PySem.W.Looks (model X.prog X.w) h3 (typeOf (.ref a)) cls := fun A Q E s k q => wpAny_typeOf_ref (k _ _ he3) (by rw [hz3.1]; exact q)
    refine wpAny_handleBy_cons (codeAny_handlers_test ?_) (by intro q; cases q)
    have m : ∀ {x : Str} {c : Value}, Names X x c → Names (X.suite a ((a, oe3) :: (X.pn ++ pins))) x c := fun h => h
    refine wpAny_Tuple (wpAny_items_cons (ld_names (m n1) S3 (wpAny_items_cons (ld_names (m n2) S3 (wpAny_items_cons (ld_names (m n3) S3 (wpAny_items_nil ⟨by size_fits, ?_⟩)))))))
    -- the tuple of the classes is laid; the match
    have kp : ∀ q o, h3.get? q = some o → (h3.push { cls := .type "tuple", data := .seq [c1, c2, c3].toArray }).get? q = some o := fun _ _ z => Heap.get?_push_of_some _ z
    obtain ⟨fl4, up4⟩ := fly_push (o := { cls := .type "tuple", data := .seq [c1, c2, c3].toArray }) fl
    refine (PySem.W.exm_tup3 (M := model X.prog X.w) (I3.kIn.keeps kp) (ty.keeps kp) (Heap.get?_push_size h3 rfl) hb1).here ?_
    generalize h3.push { cls := .type "tuple", data := .seq [c1, c2, c3].toArray } = h4 at fl4 up4 ⊢
    have u4 := (up.trans up3).trans up4
    cases b with
    | true =>
      refine codeAny_handlers_suite_as (HandSPX.lands_againZ fl4 fun h5 fl5 up5 => ?_)
      obtain ⟨_, oe, vs, he, hz, hd, _, _, S5⟩ := at_ h5 fl5 (u4.trans up5)
      refine store_ok (X := X.suite a ((a, oe) :: (X.pn ++ pins))) (v := .ref a) S5 hN hi (.inl hln) rfl (fun s5 S6 => ?_) (.inr hln)
      refine wpAny_mono ((hsu a oe cls d (X.pn ++ pins) hz ⟨_, hd⟩).run [] s5 _ H' _ S6 (hyes rfl a na)) (fun f s6 hsp => ?_) (fun _ _ z => False.elim z)
      have gone : ∀ {σ6 : L2.St} {H6 : Hp} {Q : Shared → Prop}, Inv (X.suite a ((a, oe) :: (X.pn ++ pins))) [] σ6 H6 s6 → (∀ s7, Inv X pins (σ6.set i none) H6 s7 → Q s7) →
          wpAny (model X.prog X.w) X.A (do bindName X.env n .none; unbindBehindTheSuite X.env n pos') (fun _ s7 => Q s7) X.xe s6 := fun S q => gone_ok (S.unsuite ok) hN hi hln q
      cases f with
      | ret u =>
        obtain ⟨v, _, _, S, r, q⟩ := hsp
        exact gone S fun _ J7 => ⟨v, _, _, J7, r, q⟩
      | next =>
        obtain ⟨_, _, S, q⟩ := hsp
        exact gone S fun _ J7 => ⟨_, _, J7, q⟩
      | brk =>
        obtain ⟨_, _, S, q⟩ := hsp
        exact gone S fun _ J7 => ⟨_, _, J7, q⟩
      | cont =>
        obtain ⟨_, _, S, q⟩ := hsp
        exact gone S fun _ J7 => ⟨_, _, J7, q⟩
    | false =>
      show wpAny _ X.A (handleBy (.ref a) X.env []) _ _ _
      refine wpAny_handleBy_nil ?_
      obtain ⟨_, _, _, oe, vs, T, oT, ts', he, hz, hd, h1, _⟩ := id fl4
      have out : wpAny (model X.prog X.w) X.A (setFlight (.ref a) X.env.frame) (fun _ s4 => wpAny (model X.prog X.w) X.A (throw (.ref a) : Sem Flow) (SP X pins D) X.xe s4) X.xe { s' with heap := h4 } := by
        rw [hf]
        exact HandSPX.setFlight_upZ fl4 fun h5 held up5 => wpAny_throw (tk _ _ ⟨a, B, sI, pins, σ', H', cls, d, rfl, J, nb, u4.trans up5, .inr (.inr (by rw [hs]; exact held)), na, os, ag, hno rfl⟩)
      unfold PySem.passOn
      refine wpAny_bind (wpAny_field he hd h1 ?_)
      rw [if_neg (show ¬ ((Value.ref T == Value.none) = true) from by simp)]
      first
        | exact wpAny_bind (wpAny_pure (wpAny_bind out))
        | exact wpAny_bind out
  · cases f with
    | ret u =>
      obtain ⟨v, _, _, J', r, q⟩ := e
      exact ⟨v, _, _, J'.ofTry ok, r, q⟩
    | next =>
      obtain ⟨_, _, J', q⟩ := e
      exact wpAny_execs_nil ⟨_, _, J'.ofTry ok, q⟩
    | brk =>
      obtain ⟨_, _, J', q⟩ := e
      exact ⟨_, _, J'.ofTry ok, q⟩
    | cont =>
      obtain ⟨_, _, J', q⟩ := e
      exact ⟨_, _, J'.ofTry ok, q⟩
end
def wTryAs3 (K : PySem.W.Frag) (cs : List Value) (i : Nat) (wb : WS) (wsu : Addr → Value → Option Addr → WS) : WS := fun R E δ μ =>
  wb (fun δ' C fs μ' => ∃ b, PySem.W.exmAny K (.ref C) cs = some b ∧ (b = true → ∀ a d, (d = none → fs = []) → wsu a (.ref C) d RN { nx := fun δ2 μ2 => E.nx (put δ2 i none) μ2, rt := E.rt, bk := fun δ2 μ2 => E.bk (put δ2 i none) μ2, ct := fun δ2 μ2 => E.ct (put δ2 i none) μ2 } (put δ' i (some (excD a C d fs))) μ') ∧ (b = false → R δ' C fs μ')) E δ μ
section
variable {X : Cx} {W : WX} {x1 x2 x3 n : Str} {c1 c2 c3 : Value} {i kk : Nat} {body suite : List Stmt} {b₀ : Stmt} {p1 p2 p3 tpos pos pos' : Pos} {wb : WS} {wsu : Addr → Value → Option Addr → WS}
theorem qs_tryAs3 (hs : X.stack = X.env :: X.outer) (hf : X.env.frame = some X.env.locals) (hN : X.N.Nodup) (hi : X.N[i]? = some n) (hln : X.env.kindOf n = some .local) (n1 : Names X x1 c1) (n2 : Names X x2 c2) (n3 : Names X x3 c3) (tk : Takes X W)
    (hb : ∀ (W' : WX) (pn : List (Addr × Obj)) (xe : Value → Shared → Prop), Takes (X.tr pn xe) W' → PassesOwn (model X.prog X.w) X.A X.env xe → QSs (X.tr pn xe) W' body wb)
    (hsu : ∀ (a : Addr) (oe : Obj) (cls : Value) (d : Option Addr) (pn : List (Addr × Obj)), Zc cls d oe → (∃ vs, oe.data = .fields vs) → QSs (X.suite a ((a, oe) :: pn)) WN (b₀ :: suite) (wsu a cls d)) :
    QS X W (.Try body [.ExceptHandler (some (.Tuple [.Name x1 p1, .Name x2 p2, .Name x3 p3] kk tpos)) (some n) (b₀ :: suite) pos'] [] [] pos) (wTryAs3 X.K [c1, c2, c3] i wb wsu) := by
  refine ⟨_, ps_try_as3 (i := i)
    (tb := fun W' D σ H => ∀ (pn : List (Addr × Obj)) (xe : Value → Shared → Prop), Takes (X.tr pn xe) W' → PassesOwn (model X.prog X.w) X.A X.env xe → ∃ t, PSs (X.tr pn xe) body t ∧ t D σ H)
    (ts := fun a cls d D σ H => ∀ (oe : Obj) (pn : List (Addr × Obj)), Zc cls d oe → (∃ vs, oe.data = .fields vs) → ∃ t, PSs (X.suite a ((a, oe) :: pn)) (b₀ :: suite) t ∧ t D σ H)
    hs hf hN hi hln n1 n2 n3 tk (fun W' pn xe tk' po => ⟨fun pins s σ H D I h => ?_⟩) (fun a oe cls d pn hz hd => ⟨fun pins s σ H D I h => ?_⟩), fun R ι μ δ σ H E D c1 h l => ?_⟩
  · obtain ⟨t, h1, h2⟩ := h pn xe tk' po
    exact h1.run pins s σ H D I h2
  · obtain ⟨t, h1, h2⟩ := h oe pn hz hd
    exact h1.run pins s σ H D I h2
  · intro pn xe tk' po
    obtain ⟨t, h1, h2⟩ := hb _ pn xe tk' po
    refine ⟨t, h1, h2 _ ι μ δ σ H E D ⟨c1.rel, c1.env, ?_⟩ h l⟩
    intro ι' μ' δ' σ' H' C fs d s' r' e' hd' q'
    obtain ⟨b, hb1, hyes, hno⟩ := q'
    refine ⟨b, hb1, fun hb2 a _ oe pn' hz hdat => ?_, fun hb2 => c1.xl ι' μ' δ' σ' H' C fs d s' r' e' hd' (hno hb2)⟩
    obtain ⟨t', g1, g2⟩ := hsu a oe (.ref C) d pn' hz hdat
    refine ⟨t', g1, g2 RN ι' μ' _ _ H' _ _ ⟨r', e'.put (is_excD a C hd'), xlN⟩ (hyes hb2 a d (dxNone hd')) ?_⟩
    exact ⟨fun ι2 μ2 H2 δ2 σ2 s2 r2 e2 z => l.nx ι2 μ2 H2 _ _ (s'.trans s2) r2 (e2.drop none) z, fun v y ι2 μ2 H2 s2 r2 i2 z => l.rt v y ι2 μ2 H2 (s'.trans s2) r2 i2 z,
      fun ι2 μ2 H2 δ2 σ2 s2 r2 e2 z => l.bk ι2 μ2 H2 _ _ (s'.trans s2) r2 (e2.drop none) z, fun ι2 μ2 H2 δ2 σ2 s2 r2 e2 z => l.ct ι2 μ2 H2 _ _ (s'.trans s2) r2 (e2.drop none) z⟩
end
/-! what the end of a law proves of classes of errors -/
section
variable {K : PySem.W.Frag} {R C : Addr} {t : Value} {T : String} {b : Bool}
theorem kit_cls_own (hd : PySem.W.hasDictIn K C = true) (ty : PySem.W.typeIn K (.ref C) = some (.type "type")) (h : PySem.W.subIn K t (.ref C) = some b) : PySem.W.kitCls K t (.ref C) = some b := by
  obtain ⟨cd, hc, _⟩ := PySem.W.any_some hd
  show (if ((PySem.W.clsIn K C).isSome && PySem.W.typeIn K (.ref C) == some (.type "type")) = true then PySem.W.subIn K t (.ref C) else none) = some b
  rw [hc, ty, if_pos (by simp)]
  exact h
/-- an error of the class R against an own class C -/
theorem kit_err_own (hd : PySem.W.hasDictIn K C = true) (ty : PySem.W.typeIn K (.ref C) = some (.type "type")) (self : PySem.W.subIn K (.ref R) (.ref R) = some true) (h : PySem.W.subIn K (.ref R) (.ref C) = some b) : PySem.W.kitOne K (.ref R) (.ref C) = some b := by
  unfold PySem.W.kitOne
  by_cases z : R = C
  · subst z
    rw [self] at h
    rw [if_pos (beq_self_eq_true _), ← h]
  · rw [if_neg (by simpa using z)]
    exact kit_cls_own hd ty h
/-- .. against a built-in class -/
theorem kit_err_type (m : PySem.W.kitMeta T = true) (h : PySem.W.subIn K (.ref R) (.type T) = some b) : PySem.W.kitOne K (.ref R) (.type T) = some b := by
  unfold PySem.W.kitOne PySem.W.kitCls
  rw [if_neg (by simp)]
  simp only [m, if_true]
  exact h
theorem exm_three {c1 c2 c3 cls : Value} {b1 b2 b3 : Bool} (h1 : PySem.W.exmOne K cls c1 = some b1) (h2 : PySem.W.exmOne K cls c2 = some b2) (h3 : PySem.W.exmOne K cls c3 = some b3) : PySem.W.exmAny K cls [c1, c2, c3] = some (b1 || (b2 || (b3 || false))) := by
  simp only [PySem.W.exmAny, h1, h2, h3]
end
/-- a class of errors that is named -/
structure ClsN (K : PySem.W.Frag) (mg : Str → Option Value) (x : Str) where
  C : Addr
  g : mg x = some (.ref C)
/-- two defs that make lambdas -/
theorem tabsOk_two {K : PySem.W.Frag} {h : Heap} {x1 x2 : Str} {st1 st2 : Stmt} {f1 f2 : Addr} {fd1 fd2 : FuncData} (X : K.In h) (m1 : MkT K x1 st1 f1 fd1) (m2 : MkT K x2 st2 f2 fd2) (own1 : LamX.OwnTab K f1 h) (own2 : LamX.OwnTab K f2 h) (ne : m1.p ≠ m2.p) (q1 q2 : Str) : TabsOk K h [m1.mk q1, m2.mk q2] := by
  have o1 := tabsOk_one X m1 own1 q1
  have o2 := tabsOk_one X m2 own2 q2
  have two : ∀ {P : Maker → Prop}, (∀ m ∈ [m1.mk q1], P m) → (∀ m ∈ [m2.mk q2], P m) → ∀ m ∈ [m1.mk q1, m2.mk q2], P m := fun h1 h2 m hm => by
    rcases List.mem_cons.mp hm with z | z
    · exact h1 m (by rw [z]; exact List.mem_cons_self ..)
    · exact h2 m z
  refine ⟨?_, two o1.empty o2.empty, two o1.out o2.out, two o1.code o2.code⟩
  show [m1.p, m2.p].Nodup
  rw [List.nodup_cons]
  exact ⟨fun z => ne (List.mem_singleton.mp z), by simp⟩
end HD
/-! HD30: str(x) by an own __str__. -/
namespace HD
open PySem PySem.Spec PyProof.Rows L2
section
variable {X : Cx} {C f : Addr} {k : Nat} {fd : FuncData} {ps : List Str} {sp : Sp} {spd : SpD}
def rStrO (C : Addr) (sp : Sp) : List V → Hp → VK → Prop := fun xs H Q => ∃ a dx fs, xs = [.ref a] ∧ H a = some (.ins C dx fs) ∧ sp [.ref a] H (fun v H' => ∃ t, v = .str t ∧ Q (.str t) H') fun _ _ _ => False
theorem call_strO (F : FnG X.prog X.w X.K X.mg X.base k f fd ps sp) (gd : X.A.guards = some []) (hr : Room (k + 2) X.A) (hm : Meth X.K C "__str__" f) (hb : Binds X.K fd ps []) : CallR X (.type "str") (rStrO C sp) := by
  intro pins s σ H xs us Q I r h
  obtain ⟨a, dx, fs, rfl, ha, q⟩ := h
  obtain ⟨u, rfl, r1⟩ := vals1 r
  obtain rfl : u = Value.ref a := r1
  obtain ⟨mA, J, _⟩ := ins_get I.hok ha
  obtain ⟨od, J, _⟩ := J.look
  have r2 : Vals [V.ref a] [Value.ref a] := .cons rfl .nil
  have hu : X.A.in1.in1.units < cLine := hr.in1.in1.units0
  refine PySem.W.kso_call hu I.kIn J hm.at_ hm.fn ?_
  refine wpAny_call (codeAny_mono (F.run X.A.in1.in1 X.stack s H ⟨[.ref a], []⟩ _ _ _ _ gd hr.in1.in1 I.env0.in1.in1 (bnd hb (r2.length.symm.trans (F.len _ _ _ _ q)) I.kIn) r2 q) fun r s' hq => ?_)
  cases r with
  | error e =>
    obtain ⟨_, _, _, _, _, _, _, _, _, _, _, _, z⟩ := hq
    exact z.elim
  | ok fl =>
    cases fl with
    | ret w =>
      obtain ⟨z, H', I', rz, t, ez, q⟩ := I.after hq
      subst ez
      obtain ⟨tk, rfl⟩ := rz
      exact ⟨.str t, H', I', ⟨tk, rfl⟩, q⟩
    | next => exact False.elim hq
    | brk => exact False.elim hq
    | cont => exact False.elim hq
def wStrO (C : Addr) (sp : SpD) : WB := fun ds μ P => match ds with
  | [d] => insAt C μ d ∧ sp [d] μ (fun r μ' => match r with
    | .str s => P (.str s) μ'
    | _ => False) fun _ _ _ => False
  | _ => False
theorem qb_strO (F : FnG X.prog X.w X.K X.mg X.base k f fd ps (spOf X.K spd)) (gd : X.A.guards = some []) (hr : Room (k + 2) X.A) (hm : Meth X.K C "__str__" f) (hb : Binds X.K fd ps []) : QB X (.type "str") (wStrO C spd) :=
  ⟨_, call_strO F gd hr hm hb, fun ι μ H vs ds P Q r i h kt => by
    match ds, h with
    | [d], h =>
      obtain ⟨v, rfl, iv⟩ := isAll1 i
      obtain ⟨h1, h2⟩ := h
      obtain ⟨a, dx, fs, rfl, ea⟩ := h1.at r iv
      refine ⟨a, dx, fs, rfl, ea, ι, μ, [d], _, _, r, ⟨_, _, rfl, iv, rfl⟩, h2, fun v d' ι' μ' H' s' r' i' q => ?_, fun _ _ _ _ _ _ _ _ _ z => z.elim⟩
      cases d' with
      | str t =>
        have ev : v = .str t := i'
        exact ⟨t, ev, kt _ (.str t) ι' μ' H' s' r' rfl q⟩
      | _ => exact q.elim⟩
end
end HD
/-! HD31: repr of great ints (to 12000 bits). -/
namespace HD
open PySem PySem.Spec PyProof.Rows L2 PySem.Builtin
def DigitsFree (K : PySem.W.Frag) : Prop := PySem.W.nsIn K cStatics "sys.int_max_str_digits" = some none
section
variable {prog : Program} {w : World} {A : Around} {E : Value → Shared → Prop} {s : Shared} {K : PySem.W.Frag}
theorem digits_get {M : Model} {Q : Nat → Shared → Prop} (X : K.In s.heap) (D : DigitsFree K) (h : Q 4300 s) : wpAny M A intMaxStrDigits Q E s := by
  unfold intMaxStrDigits
  exact wpAny_bind ((PySem.W.looks_nsIn X D).here (wpAny_pure h))
theorem over_none {M : Model} {Q : Option Nat → Shared → Prop} {a : Int} (X : K.In s.heap) (D : DigitsFree K) (ha : a.natAbs.log2 < 12000) (h : Q none s) : wpAny M A (overDigitLimit? a) Q E s := by
  by_cases z : a.natAbs.log2 < 1920
  · rw [PySem.overDigitLimit_small z]
    exact wpAny_pure h
  · unfold overDigitLimit?
    rw [if_neg z]
    refine wpAny_bind (digits_get X D ?_)
    simp only []
    rw [if_neg (show ¬ a.natAbs.log2 / 30 + 1 > 1000 by omega)]
    rw [show ((4300 == 0 || decide (a.natAbs.log2 < 3 * 4300)) = true) from by
      have : a.natAbs.log2 < 3 * 4300 := by omega
      simp [this]]
    exact wpAny_pure h
theorem repr_great {a : Int} {t : Tok} {Q : Value → Shared → Prop} (X : K.In s.heap) (D : DigitsFree K) (ha : a.natAbs.log2 < 12000) (hx : (Str.ofString (toString a)).length ≤ sizeLine) (h : Q (.str (toString a) s.toks) { s with toks := s.toks + 1 }) : wpAny (model prog w) A (call (.builtin "repr") [.int a t]) Q E s := by
  refine Calls.call_function_entry F.kind_repr F.plain_repr F.entry_repr (F.args_repr1 _) ?_
  unfold Builtin.«repr»
  refine wpAny_bind (m := oneArg "repr" _) (wpAny_pure ?_)
  have hv : [Value.int a t].any Value.onHeap = false := rfl
  simp only [cRoomFor, hv, Bool.false_eq_true, if_false, pure_bind]
  refine wpAny_bind (wpAny_specialOf (name := Str.ofString "__repr__") (typeIs_int s a t) F.slot_int_repr.lookup ?_)
  refine wpAny_bind (m := callSpecialIfBound? (.int a t) (Str.ofString "__repr__")) (wpAny_callSpecialIfBound?_slot (name := Str.ofString "__repr__") (typeIs_int s a t) F.slot_int_repr ?_)
  refine wpAny_call (codeAny_call_builtin F.slot_int_repr.plain F.entry_int_repr (F.slot_int_repr.check _ _ _ _ _ _ _ _ (typeIs_int s a t) (F.args_int_repr_1 _) ?_))
  unfold «int.__repr__»
  refine wpAny_bind (wpAny_of_eq (a := (Value.int a t, a)) rfl ?_)
  simp only []
  refine wpAny_bind (over_none X D ha ?_)
  simp only []
  unfold retStr
  refine wpAny_bind (wpAny_mkStr ?_ hx)
  refine wpAny_pure ?_
  show wpAny _ _ _ _ _ _
  refine wpAny_bind (wpAny_isInstance (T := "str") (b := true) rfl isSubtype_str_str ?_)
  exact wpAny_pure ⟨_, rfl, h⟩
theorem great_fits {a : Int} (h : a.natAbs.log2 < 12000) : (Str.ofString (toString a)).length ≤ sizeLine := by
  have e := int_text_length_le (k := 12000) (by decide) h
  rw [PySem.ofString_length]
  have l : 20000 ≤ sizeLine := by decide +kernel
  omega
end
section
variable {X : Cx}
theorem call_reprI (D : DigitsFree X.K) : CallR X (.builtin "repr") (fun xs H Q => ∃ i, xs = [.int i] ∧ i.natAbs.log2 < 12000 ∧ Q (.str (toString i)) H) := by
  intro pins s σ H xs us Q I r h
  obtain ⟨i, rfl, hz, q⟩ := h
  obtain ⟨u, rfl, t, rfl⟩ := vals1 r
  exact repr_great I.kIn D hz (great_fits hz) ⟨.str _, H, I.tok _, ⟨_, rfl⟩, q⟩
def wReprI : WB := fun ds μ P => ints1 (fun i => i.natAbs.log2 < 12000 ∧ P (.str (toString i)) μ) ds
theorem qb_reprI (D : DigitsFree X.K) : QB X (.builtin "repr") wReprI := ⟨_, call_reprI D, fun ι μ H vs ds P Q r i h k => by
  obtain ⟨n, e, q⟩ := ints1_of h
  subst e
  obtain ⟨v, e1, iv⟩ := isAll1 i
  have iv' : v = .int n := iv
  subst iv'
  exact ⟨n, e1, q.1, k.at r (d := .str _) rfl q.2⟩⟩
end
end HD
/-! HD32: own error classes without a field (def __init__(self): pass): made, raised. -/
namespace HD
open PySem PySem.Spec PyProof.Rows L2
def errArgs0 (p1 : Pos) : Arguments := { posonlyargs := [], args := [{ arg := "self", annotation := none, pos := p1 }], vararg := none, kwonlyargs := [], kw_defaults := [], kwarg := none, defaults := [] }
def errBody0 (q1 : Pos) : List Stmt := [.Pass q1]
def errScope0 : Scope := { kind := .function, names := [(PySem.Str.ofString "self", .local)], isGenerator := false, isCoroutine := false, more := [] }
structure ErrTxt0 (K : PySem.W.Frag) (mg : Str → Option Value) (x : Str) (newId : String) (C fI : Addr) : Prop where
  gC : mg x = some (.ref C)
  cls : ∃ nm q N bs bm sn sub ab col dd k0 k1 k2 k3 k5, K.lookup C = some (PySem.excClassObj nm q C N bs bm true sn sub ab col dd k0 k1 k2 k3 k5 newId) ∧ Under newId bm
  iC : PySem.W.findIn K (.ref C) "__init__" = some (some (.ref fI))
  tC : PySem.W.typeIn K (.ref fI) = some (.type "function")
  kC : PySem.W.keepIn K (.ref C) = true
  exC : PySem.W.subIn K (.ref C) (.type "BaseException") = some true
  tyC : PySem.W.typeIn K (.ref C) = some (.type "type")
  fn : ∃ (oc : Value) (od : Option Addr) (q : Str) (doc pm : Value) (an : Option Addr) (cdv ct : Value) (osl : Array (Option Value)) (p1 q1 : Pos),
    K.lookup fI = some ⟨oc, od, .func (PySem.W.fnOf "__init__" q (errArgs0 p1) (errBody0 q1) errScope0 .none .none doc pm an cdv ct), osl⟩ ∧ PySem.W.codeIn K cdv q = true
section
variable {prog : Program} {w : World} {A : Around} {R : Result → Shared → Prop} {s : Shared} {K : PySem.W.Frag} {mg : Str → Option Value} {xn : Str} {newId : String} {C fI : Addr}
open PySem.HandSPX in
theorem err_init0 (T : ErrTxt0 K mg xn newId C fI) {x t0 : Addr} (X : K.In s.heap) (hlim : s.heap.NoLimit) (hx : s.heap.get? x = some (excO C t0)) (hroom : A.depth < recursionLimit)
    (hq : ∀ h' tk, (∀ b o, s.heap.get? b = some o → h'.get? b = some o) → R (.ok (.ret .none)) { s with heap := h', toks := tk }) :
    codeAny (model prog w) A (.call (.ref fI) ⟨[.ref x], []⟩) R s := by
  obtain ⟨oc, od, qn, doc, pm, an, cdv, ct, osl, p1, q1, ho, hcd⟩ := T.fn
  have hbind : bindArgs (PySem.W.fnOf "__init__" qn (errArgs0 p1) (errBody0 q1) errScope0 .none .none doc pm an cdv ct) ⟨[.ref x], []⟩ = pure [(("self" : Str), Value.ref x)] := by
    first | rfl | with_unfolding_all rfl
  refine Att.call_fn (binds := [(("self" : Str), Value.ref x)]) X hlim ho hcd hroom (BindsTo.of_eq hbind) ?_ (fun s₁ IC => ?_) rfl rfl rfl
  · first | rfl | decide | with_unfolding_all rfl
  obtain ⟨h₁, tk₁, rfl⟩ := IC.toInCall.same
  have k : ∀ b o, s.heap.get? b = some o → h₁.get? b = some o := IC.toInCall.keep
  show wpAny _ _ (execs _ _) _ _ _
  refine wpAny_execs_cons (wpAny_Pass ?_)
  show wpAny _ _ (execs _ _) _ _ _
  exact wpAny_execs_nil (hq h₁ tk₁ k)
open PySem.HandSPX in
theorem err_made0 (T : ErrTxt0 K mg xn newId C fI) (X : K.In s.heap) (hlim : s.heap.NoLimit) (hroom : A.depth + 1 < recursionLimit)
    (hq : ∀ h' tk e t0, (∀ b o, s.heap.get? b = some o → h'.get? b = some o) → s.heap.objs.size ≤ e → h'.get? e = some (excO C t0) → R (.ok (.ret (.ref e))) { s with heap := h', toks := tk }) :
    codeAny (model prog w) A (.call (.ref C) ⟨[], []⟩) R s := by
  obtain ⟨nm, q, N, bs, bm, sn, sub, ab, col, dd, k0, k1, k2, k3, k5, hC, U⟩ := T.cls
  obtain ⟨B, initId, bmB, FB, hT⟩ := U.facts
  obtain ⟨hp, g, dr, tk, os⟩ := s
  have grow : ∀ b o, hp.get? b = some o → ((hp.push (PySem.W.kdv_tup [])).push (excO C hp.objs.size)).get? b = some o := fun b o e => Heap.get?_push_of_some _ (Heap.get?_push_of_some _ e)
  have made : ((hp.push (PySem.W.kdv_tup [])).push (excO C hp.objs.size)).get? (hp.objs.size + 1) = some (excO C hp.objs.size) := by heap_get
  refine call_own FB hT (X _ _ hC) (PySem.W.looks_findIn X T.iC) (fun self => PySem.W.bind_fn X self T.tC) (Nat.zero_le _) ?_
  refine err_init0 (s := ⟨(hp.push (PySem.W.kdv_tup [])).push (excO C hp.objs.size), g, dr, tk, os⟩) T (X.keeps grow) (hlim.keeps grow) made ?_ fun h' tk' k => ?_
  · show A.depth + 1 < recursionLimit
    exact hroom
  · exact ⟨rfl, hq h' tk' (hp.objs.size + 1) hp.objs.size (fun b o e => k b o (grow b o e)) (Nat.le_succ _) (k _ _ made)⟩
end
section
variable {X : Cx} {W : WX} {x : Str} {newId : String} {C fI : Addr} {p pos pos2 : Pos} {k : Nat}
theorem pmk_err0 (T : ErrTxt0 X.K X.mg x newId C fI) (hr : Room k X.A) (hg : Gl X x) (hdb : (x == ("__debug__" : Str)) = false := by decide) :
    PMk X (.Call (.Name x p) [] [] pos) (fun _ H Q => Q (.ref C) none H) := by
  intro pins s σ H Q I h
  refine wpAny_Call_Name_kw (ld_glob I hg T.gC ?_ hdb)
  refine PySem.W.callWith_K0 (K := X.K) I.kIn T.kC ?_
  show wpAny _ _ (call (.ref C) []) _ _ _
  have lim := I.nolimit
  have dp := hr.dp
  refine wpAny_call (err_made0 T I.kIn lim (by omega) fun h' tk' e t0 keep new he => ?_)
  show MkP X pins σ Q (.ref e) { s with heap := h', toks := tk' }
  have fr : s.heap.get? e = none := by
    cases z : s.heap.get? e with
    | none => rfl
    | some o => exact absurd (Heap.lt_size z) (Nat.not_lt.mpr new)
  have J : Inv X pins σ H { s with toks := tk' } := I.tok tk'
  exact ⟨e, _, _, { s with toks := tk' }, H, .ref C, none, rfl, J, keep, fr, he, ⟨rfl, rfl⟩, rfl, rfl, I.hok.gone fr, rfl, I.bare, raises_own T.exC T.tyC, h⟩
def wRaise0 (C : Addr) : WS := fun R _ δ μ => R δ C [] μ
theorem qs_raise0 (hc : X.calm = true) (T : ErrTxt0 X.K X.mg x newId C fI) (hr : Room k X.A) (tk : Takes X W) (hg : Gl X x) (hdb : (x == ("__debug__" : Str)) = false := by decide) :
    QS X W (.Raise (some (.Call (.Name x p) [] [] pos)) none pos2) (wRaise0 C) := by
  refine ⟨_, ps_raise hc tk (pmk_err0 T hr hg hdb), fun R ι μ δ σ H E D c h l => ?_⟩
  exact c.xl ι μ δ σ H C [] none (Stp.refl _ _) c.rel c.env rfl h
end
structure ErrT0 (K : PySem.W.Frag) (mg : Str → Option Value) (x : Str) (newId : String) where
  C : Addr
  fI : Addr
  t : ErrTxt0 K mg x newId C fI
  x : PySem.W.exmOne K (.ref C) (.ref C) = some true
end HD
/-! HD33: tuple + tuple. -/
namespace HD
open PySem PySem.Spec PyProof.Rows L2
section
variable {X : Cx}
def wAddT : WO := fun d e μ P => match d, e with
  | .tup xs, .tup ys => xs.length + ys.length ≤ 1000 ∧ P (.tup (xs ++ ys)) μ
  | _, _ => False
theorem isAll_nil {K : PySem.W.Frag} {ι : List Addr} {H : Hp} {ds : List D} (h : IsAll K ι H ds []) : ds = [] := by
  have := h.length
  cases ds with
  | nil => rfl
  | cons a r => cases this
theorem qo_addT : QO X (binaryOp .Add) wAddT := by
  refine ⟨_, op_catA, fun ι μ H x y d e P Q r i1 i2 h k => ?_⟩
  unfold wAddT at h
  split at h
  · rename_i xs ys
    obtain ⟨hz, q⟩ := h
    obtain ⟨a, us, ex, ha, hu⟩ := i1
    obtain ⟨b, vs, ey, hb, hv⟩ := i2
    refine ⟨a, b, us, vs, ex, ey, ha, hb, by rw [hu.length, hv.length]; exact le_line hz, fun e => ?_, fun _ e => ?_, fun _ _ p hp => ?_⟩
    · subst e
      have e2 := isAll_nil hu
      subst e2
      exact k (.ref b) (.tup ys) ι μ H (Stp.refl _ _) r ⟨b, vs, rfl, hb, hv⟩ q
    · subst e
      have e2 := isAll_nil hv
      subst e2
      rw [List.append_nil] at q
      exact k (.ref a) (.tup xs) ι μ H (Stp.refl _ _) r ⟨a, us, rfl, ha, hu⟩ q
    · exact k (.ref p) (.tup (xs ++ ys)) ι μ _ (Stp.new hp) (r.new hp) ⟨p, us ++ vs, rfl, SqT.of upd_same, IsAll.stp (Stp.new hp) _ _ (hu.app hv)⟩ q
  · exact h.elim
end
end HD
/-! HD34: count of texts. -/
namespace HD
open PySem PySem.Spec PyProof.Rows L2
section
variable {X : Cx} {W : WX} {o e : Expr} {wo we : WE} {apos cpos : Pos}
/-- xs.count(t), texts -/
def wCntS (wo we : WE) : WE := fun R δ μ P => wo R δ μ fun x μ1 => match x with
  | .ref k => (∃ ys, lstAt μ1 k = some ys) ∧ we R δ μ1 fun d μ2 => match d with
    | .str b => ∃ bs : List Str, lstAt μ2 k = some (bs.map D.str) ∧ P (.int (bs.count b : Nat)) μ2
    | _ => False
  | _ => False
theorem isAll_strs {K : PySem.W.Frag} {ι : List Addr} {H : Hp} : ∀ {bs : List Str} {vs : List V}, IsAll K ι H (bs.map D.str) vs → vs = bs.map V.str
  | [], _, h => h
  | b :: bs, _, h => by
    obtain ⟨v, r, e, i, t⟩ := h
    have i' : v = .str b := i
    rw [e, i', isAll_strs t]
    rfl
theorem flat_strs : ∀ bs : List Str, (bs.map V.str).all flatV = true
  | [] => rfl
  | _ :: bs => flat_strs bs
theorem count_strs (b : Str) : ∀ bs : List Str, (bs.map V.str).countP (fun z => eqV z (.str b)) = bs.count b
  | [] => rfl
  | c :: bs => by
    rw [List.map_cons, List.countP_cons, List.count_cons, count_strs b bs]
    rfl
theorem q_cntS (ho : QE X W o wo) (he : QE X W e we)
    (hbase : attributeBase o "count" X.env (eval o X.env) = eval o X.env := by rfl)
    (hfew : ((backTo cpos (starEach (e :: []) X.env)).all (fun x => !x.1) && (backToKw cpos (keywordEach [] X.env)).all (fun x => x.1.isSome)
      && decide ((e :: ([] : List Expr)).length + ([] : List Keyword).length + (if ([] : List Keyword).isEmpty then 0 else 1) < 30)) = true := by rfl)
    (hline : (apos.endLine == cpos.line) = true := by rfl) (hs : starEach (e :: []) X.env = (false, eval e X.env) :: starEach [] X.env := by rfl) (hplain : (backTo cpos (starEach [] X.env)).any (·.1) = false := by rfl) :
    QE X W (.Call (.Attribute o "count" apos) [e] [] cpos) (wCntS wo we) := by
  obtain ⟨to, o1, o2⟩ := ho
  obtain ⟨te, e1, e2⟩ := he
  refine ⟨_, pe_bm PySem.F.plainAttrs_list PySem.F.slot_list_count PySem.F.type_list_count mt_countF o1 (pa_cons e1 pa_nil hs) hbase hfew hline hs hplain, fun R ι μ δ σ H P Q c h k => o2 R ι μ δ σ H _ _ c h fun v x ι1 μ1 H1 s1 r1 i1 q1 => ?_⟩
  cases x with
  | ref n =>
    obtain ⟨⟨ys, hys⟩, q1⟩ := q1
    obtain ⟨a, ea, ev⟩ := i1
    subst ev
    obtain ⟨a', zs, ea', hz, _⟩ := r1.lst hys
    rw [ea] at ea'
    obtain rfl : a = a' := Option.some.inj ea'
    refine ⟨.inl ⟨rfl, zs, SqL.of hz⟩, e2 R ι1 μ1 δ σ H1 _ _ (c.stp s1 r1) q1 fun u d ι2 μ2 H2 s2 r2 i2 q2 => ?_⟩
    cases d with
    | str b =>
      have eu : u = .str b := i2
      subst eu
      obtain ⟨bs, hb, q⟩ := q2
      obtain ⟨a2, us, ea2, hu, ht⟩ := r2.lst hb
      rw [s2.ext n a ea] at ea2
      obtain rfl : a = a2 := Option.some.inj ea2
      have := isAll_strs ht
      subst this
      refine ⟨a, bs.map V.str, .str b, rfl, rfl, SqL.of hu, rfl, flat_strs bs, ?_⟩
      rw [count_strs]
      exact k (.int _) (.int _) ι2 μ2 H2 (s1.trans s2) r2 rfl q
    | _ => exact q2.elim
  | _ => exact q1.elim
end
end HD
/-! HD35: {elt for x in xs for y in ys} of ints. -/
namespace HD
open PySem PySem.Spec PyProof.Rows L2
/-- an int goes to a set that stands as SetO -/
theorem goes_in {X : Cx} {pins : List (Addr × Obj)} {σ : L2.St} {H : Hp} {s : Shared} {E : Value → Shared → Prop} {D : Addr} {S : Int → Bool} {n : Nat} {c : Int} {v : Value} {Q : Value → Shared → Prop} (I : Inv X pins σ H s) (hD : H D = some (SetO X.w D S n)) (room : n + 1 < scanBound) (rv : RelV (.int c) v)
    (k : ∀ s', Inv X pins σ (upd H D (SetO X.w D (fun j => S j || decide (j = c)) (if S c = true then n else n + 1))) s' → Q .none s') : wpAny (model X.prog X.w) X.A (call (.builtin "set.add") [.ref D, v]) Q E s := by
  obtain ⟨tk, rfl⟩ := rv
  refine setR_add (setO_get I hD) room fun h' sb new => k _ (I.write (e := D) (t' := s.toks + 1) (by rw [hD]; trivial) (.inl rfl) (fun b u hb hu => (sb.2 b hb).trans hu) ?_ (setO_new new))
  obtain ⟨o, _, _, _, ho, _⟩ := new
  exact ⟨o, ho⟩
/-- what one run of the second clause asks: from each of its turns the next, from its stop N -/
def inner (w : World) (wi : TI) (g : TG) (te : TE) (vs : List Nat) (D : Addr) (σ : L2.St) (H : Hp) (N : Hp → Prop) : Prop :=
  wi σ H fun J H1 => ∃ V : Nat → Nat → Hp → Prop, (∃ m, V 0 m H1) ∧ ∀ j k H, V j k H →
    (J.stop j H ∧ N H) ∨ (J.go j H ∧ ∃ N1 : Hp → Prop, (∀ H', N1 H' → ∃ k', k' < k ∧ V (j + 1) k' H') ∧ ∀ x H', J.yld j H x H' → g x (wipe σ vs) H' fun σ2 H2 => wipe σ2 vs = wipe σ vs ∧
      te σ2 H2 fun y H3 => ∃ (c : Int) (S : Int → Bool) (n : Nat), y = .int c ∧ H3 D = some (SetO w D S n) ∧ n + 1 < scanBound ∧ N1 (upd H3 D (SetO w D (fun j => S j || decide (j = c)) (if S c = true then n else n + 1))))
section
variable {Y : Cx} {pins : List (Addr × Obj)} {s : Shared} {σ : L2.St} {H : Hp} {elt t0 i0 t1 i1 : Expr} {scope : Scope} {pos : Pos} {wi : TI} {g : TG} {te : TE} {vs : List Nat} {D : Addr} {N : Hp → Prop}
abbrev comp2 (elt t0 i0 t1 i1 : Expr) (scope : Scope) (pos : Pos) : Expr := .SetComp elt [⟨t0, i0, [], 0⟩, ⟨t1, i1, [], 0⟩] scope pos
theorem start_second {it acc : Value} {env : Env} {A : Around} {prog : Program} {w : World} {R : Result → Shared → Prop} (h0 : codeAny (model prog w) A (.compLoop (comp2 elt t0 i0 t1 i1 scope pos) 1 it acc env) R s)
    (h : wpAny (model prog w) A (pyIter it) (fun it' s' => codeAny (model prog w) A (.compLoop (comp2 elt t0 i0 t1 i1 scope pos) 1 it' acc env) R s') (notedBy (model prog w) A env fun x s' => R (.error x) s') s) :
    codeAny (model prog w) A (.compStart (comp2 elt t0 i0 t1 i1 scope pos) 1 it acc env) R s := by
  refine codeAny_of_tree ?_
  show wpAny _ _ ((compStart (comp2 elt t0 i0 t1 i1 scope pos) 1 it acc env).onRaise _) _ _ s
  refine wpAny_notedAt ?_
  unfold compStart
  refine wpAny_bind (wpAny_askSetting (wpAny_ite ?_))
  split
  · exact wpAny_bind (wpAny_pure (wpAny_pure ⟨rfl, h0⟩))
  · exact wpAny_bind (wpAny_rule (wpAny_bind (wpAny_standAt (wpAny_bind (wpAny_mono h (fun it' s' h' => wpAny_pure ⟨rfl, h'⟩) fun _ _ x => x)))))
theorem second {F : Value → Shared → Prop} (hc : Y.calm = true) (hx : ∀ e s, ¬ Y.xe e s) (I : Inv Y pins σ H s) (pi : PI Y t1 i1 wi) (pg : PG Y t1 g) (pe : PE Y elt te) (q : inner Y.w wi g te vs D σ H N) :
    wpAny (model Y.prog Y.w) Y.A (eval i1 Y.env) (fun xv s1 => wpAny (model Y.prog Y.w) Y.A (pyIter xv) (fun it s2 => codeAny (model Y.prog Y.w) Y.A (.compStart (comp2 elt t0 i0 t1 i1 scope pos) 1 it (.ref D) Y.env)
      (fun r s' => match r with
        | .ok _ => ∃ H', Inv Y pins (wipe σ vs) H' s' ∧ N H'
        | .error _ => False) s2) F s1) F s := by
  have no : ∀ {α : Type} {t : Sem α} {P P' : α → Shared → Prop} {G : Value → Shared → Prop} {s : Shared}, wpAny (model Y.prog Y.w) Y.A t P Y.xe s → (∀ a s, P a s → P' a s) → wpAny (model Y.prog Y.w) Y.A t P' G s := fun h k => wpAny_mono h k fun e s z => absurd z (hx e s)
  refine no (pi.run _ s σ H _ I q) fun xv s1 h1 => no h1 fun itv s2 h2 => ?_
  obtain ⟨it, fp, tn, J, H2, e1, I2, T, st2, f2, V, ⟨m1, v1⟩, turn⟩ := h2
  subst e1
  have ap : ∀ {H' : Hp}, (∀ b ∈ fp, H' b = none) → ∀ b ∈ fp, FpOk Y pins H' b := fun hn b hb => ⟨hn b hb, (f2 b hb).2⟩
  have loop : codeAny (model Y.prog Y.w) Y.A (.compLoop (comp2 elt t0 i0 t1 i1 scope pos) 1 (.ref it) (.ref D) Y.env) (fun r s' => match r with
        | .ok _ => ∃ H', Inv Y pins (wipe σ vs) H' s' ∧ N H'
        | .error _ => False) s2 := by
    refine codeAny_loop rfl (fun k s' => ∃ j H', Inv Y pins (wipe σ vs) H' s' ∧ tn j s'.heap ∧ (∀ b ∈ fp, H' b = none) ∧ V j k H') ?_ m1 ⟨0, H2, I2.weak (wipe_length _ _) (fun j v e => (wipe_some e).1), st2, fun b hb => (f2 b hb).1, v1⟩
    rintro k s3 ⟨j, H3, I3, st3, n3, v3⟩
    show wpAny _ Y.A ((compTurn (comp2 elt t0 i0 t1 i1 scope pos) 1 (.ref it) (.ref D) Y.env).onRaise _) _ _ s3
    refine wpAny_noted ?_
    unfold compTurn
    refine wpAny_bind (wpAny_standAt (wpAny_bind ?_))
    rcases turn j k H3 v3 with ⟨stop, nx⟩ | ⟨go, N1, hN1, step⟩
    · refine thnF (T.done Y rfl rfl rfl hc j _ s3 (wipe σ vs) H3 (fun _ _ => False) I3 (ap n3) st3 stop) fun r s4 ⟨hr, I4⟩ => ?_
      subst hr
      exact wpAny_pure ⟨H3, I4, nx⟩
    · refine thnF (T.item Y rfl rfl rfl hc j _ s3 (wipe σ vs) H3 (fun _ _ => False) I3 (ap n3) st3 go) fun r s4 ⟨u, hr, h4⟩ => ?_
      subst hr
      refine wpAny_bind (thnF h4 fun _ s5 ⟨x, H5, I5, r5, y5, st5, n5⟩ => ?_)
      have I5' := I5.pinned (ap n5) (T.obj _ _ st5)
      refine wpAny_bind (no (pg.run _ s5 (wipe σ vs) H5 x u _ I5' r5 (step x H5 y5)) fun _ s6 ⟨σ6, H6, I6, hw6, q6⟩ => ?_)
      refine wpAny_bind (wpAny_pure ?_)
      refine wpAny_bind (wpAny_bind (no (pe.run _ s6 σ6 H6 _ I6 q6) fun z s7 h7 => wpAny_bind (wpAny_standAt (wpAny_bind ?_))))
      obtain ⟨yv, H7, I7, r7, c, S, n, ey, hD, room, nx⟩ := h7
      subst ey
      refine goes_in I7 hD room r7 fun s8 I8 => wpAny_pure (wpAny_pure ⟨rfl, ?_⟩)
      obtain ⟨m', hm, w'⟩ := hN1 _ nx
      have pin : ∀ b ∈ fp, ∀ o, s5.heap.get? b = some o → s8.heap.get? b = some o ∧ upd H7 D (SetO Y.w D (fun j => S j || decide (j = c)) (if S c = true then n else n + 1)) b = none := fun b hb o e =>
        let z := I8.pin (b, o) (List.mem_append_right _ (List.mem_append_right _ (mem_pinsAt hb e)))
        ⟨z.1, z.2.1⟩
      refine ⟨m', hm, j + 1, _, I8.unpinned.weak (by rw [← hw6, wipe_length]) (fun j v e => by rw [← hw6] at e; exact (wipe_some e).1), T.keep _ _ _ st5 fun b hb o e => (pin b hb o e).1, fun b hb => ?_, w'⟩
      obtain ⟨o, e, _⟩ := T.obj _ _ st5 b hb
      exact (pin b hb o e).2
  exact start_second loop (T.self Y.A 0 _ _ _ st2 loop)
/-- the first clause's loop, in the block's own context -/
theorem first {fp : List Addr} {it : Addr} {tn : Nat → Heap → Prop} {J : It} {g0 : TG} {vs1 : List Nat} {V : Nat → Nat → Hp → Prop} {Qd : Hp → Prop} {m0 : Nat} (hc : Y.calm = true) (hx : ∀ e s, ¬ Y.xe e s) (T : Turn Y.prog Y.w Y.K t0 J fp it tn)
    (ap : ∀ {σ' : L2.St} {H' : Hp} {s' : Shared}, Inv Y [] σ' H' s' → (∀ b ∈ fp, H' b = none) → ∀ b ∈ fp, FpOk Y [] H' b) (pg0 : PG Y t0 g0) (pi : PI Y t1 i1 wi) (pg : PG Y t1 g) (pe : PE Y elt te) (hs : ∀ x, foldedSetIterable i1 Y.env x = pure x) (hv : ∀ i ∈ vs1, i ∈ vs)
    (turn : ∀ i m H, V i m H → (J.stop i H ∧ Qd H) ∨ (J.go i H ∧ ∃ N : Hp → Prop, (∀ H', N H' → ∃ m', m' < m ∧ V (i + 1) m' H') ∧ ∀ x H', J.yld i H x H' → g0 x (wipe σ vs) H' fun σ2 H2 => wipe σ2 vs = wipe σ vs ∧ inner Y.w wi g te vs1 D σ2 H2 N))
    (I : Inv Y [] (wipe σ vs) H s) (st : tn 0 s.heap) (n0 : ∀ b ∈ fp, H b = none) (v0 : V 0 m0 H) :
    codeAny (model Y.prog Y.w) Y.A (.compLoop (comp2 elt t0 i0 t1 i1 scope pos) 0 (.ref it) (.ref D) Y.env)
      (fun r s' => match r with
        | .ok f => f = .next ∧ ∃ H', Inv Y [] (wipe σ vs) H' s' ∧ Qd H'
        | .error _ => False) s := by
  have no : ∀ {α : Type} {t : Sem α} {P P' : α → Shared → Prop} {G : Value → Shared → Prop} {s : Shared}, wpAny (model Y.prog Y.w) Y.A t P Y.xe s → (∀ a s, P a s → P' a s) → wpAny (model Y.prog Y.w) Y.A t P' G s := fun h k => wpAny_mono h k fun e s z => absurd z (hx e s)
  refine codeAny_loop rfl (fun m s' => ∃ i H', Inv Y [] (wipe σ vs) H' s' ∧ tn i s'.heap ∧ (∀ b ∈ fp, H' b = none) ∧ V i m H') ?_ m0 ⟨0, H, I, st, n0, v0⟩
  rintro m s3 ⟨i, H3, I3, st3, n3, v3⟩
  show wpAny _ Y.A ((compTurn (comp2 elt t0 i0 t1 i1 scope pos) 0 (.ref it) (.ref D) Y.env).onRaise _) _ _ s3
  refine wpAny_noted ?_
  unfold compTurn
  refine wpAny_bind (wpAny_standAt (wpAny_bind ?_))
  rcases turn i m H3 v3 with ⟨stop, nx⟩ | ⟨go, N, hN, step⟩
  · refine thnF (T.done Y rfl rfl rfl hc i _ s3 (wipe σ vs) H3 (fun _ _ => False) I3 (ap I3 n3) st3 stop) fun r s4 ⟨hr, I4⟩ => ?_
    subst hr
    exact wpAny_pure ⟨rfl, H3, I4, nx⟩
  · refine thnF (T.item Y rfl rfl rfl hc i _ s3 (wipe σ vs) H3 (fun _ _ => False) I3 (ap I3 n3) st3 go) fun r s4 ⟨u, hr, h4⟩ => ?_
    subst hr
    refine wpAny_bind (thnF h4 fun _ s5 ⟨x, H5, I5, r5, y5, st5, n5⟩ => ?_)
    have I5' := I5.pinned (ap I5 n5) (T.obj _ _ st5)
    refine wpAny_bind (no (pg0.run _ s5 (wipe σ vs) H5 x u _ I5' r5 (step x H5 y5)) fun _ s6 ⟨σ6, H6, I6, hw6, q6⟩ => ?_)
    refine wpAny_bind (wpAny_pure ?_)
    refine wpAny_bind (wpAny_mono (second (t0 := t0) (i0 := i0) (scope := scope) (pos := pos) (F := fun _ _ => False) hc hx I6 pi pg pe q6) (fun xv s7 h7 => ?_) fun _ _ z => False.elim z)
    refine wpAny_bind (wpAny_standAt (wpAny_bind (wpAny_of_eq (hs xv) (wpAny_bind (wpAny_holding (wpAny_mono h7 (fun it1 s8 h8 => ?_) fun _ _ z => False.elim z))))))
    refine wpAny_bind (wpAny_runOwn ?_)
    rw [Around.mark_none]
    refine codeAny_mono h8 fun r s9 hr => ?_
    cases r with
    | error e => exact hr.elim
    | ok f =>
      obtain ⟨H9, I9, nx⟩ := hr
      refine wpAny_pure ⟨rfl, ?_⟩
      obtain ⟨m', hm, w'⟩ := hN _ nx
      have pin : ∀ b ∈ fp, ∀ o, s5.heap.get? b = some o → s9.heap.get? b = some o ∧ H9 b = none := fun b hb o e =>
        let z := I9.pin (b, o) (List.mem_append_right _ (List.mem_append_right _ (mem_pinsAt hb e)))
        ⟨z.1, z.2.1⟩
      refine ⟨m', hm, i + 1, _, I9.unpinned.weak (by rw [← hw6, wipe_length, wipe_length]) (fun j v e => ?_), T.keep _ _ _ st5 fun b hb o e => (pin b hb o e).1, fun b hb => ?_, w'⟩
      · rw [← hw6] at e
        obtain ⟨e1, e2⟩ := wipe_some e
        rw [wipe_out fun z => e2 (hv j z)]
        exact e1
      · obtain ⟨o, e, _⟩ := T.obj _ _ st5 b hb
        exact (pin b hb o e).2
end
/-- the whole: D the new set -/
def setOf2 (w : World) (wi0 : TI) (g0 : TG) (wi : TI) (g : TG) (te : TE) (vs vs1 : List Nat) : TE := fun σ H Q => wi0 σ H fun J H1 => ∀ D, H1 D = none → ∃ V : Nat → Nat → Hp → Prop, (∃ m, V 0 m (upd H1 D (SetO w D (fun _ => false) 0))) ∧
  ∀ i m H, V i m H → (J.stop i H ∧ Q (.ref D) H) ∨ (J.go i H ∧ ∃ N : Hp → Prop, (∀ H', N H' → ∃ m', m' < m ∧ V (i + 1) m' H') ∧ ∀ x H', J.yld i H x H' → g0 x (wipe σ vs) H' fun σ2 H2 => wipe σ2 vs = wipe σ vs ∧ inner w wi g te vs1 D σ2 H2 N)
section
variable {X : Cx} {elt t0 i0 t1 i1 : Expr} {scope : Scope} {pos : Pos} {wi0 wi : TI} {g0 g : TG} {te : TE} {vs1 : List Nat} {own : List (Str × Nat)}
theorem pe_set2 (hc : X.calm = true) (hN : X.N.Nodup) (hi : PI X t0 i0 wi0) (ok : BlkOk X.N X.env.scope scope own) (hv : ∀ i ∈ vs1, i ∈ own.map (·.2))
    (hg0 : ∀ (s : Shared) (H : Hp) (C : Addr) (cl : List (Str × Addr)) (fp : List Addr), PG (X.blk s H scope (compEnvC scope cl C X.env) fp) t0 g0)
    (hi1 : ∀ (s : Shared) (H : Hp) (C : Addr) (cl : List (Str × Addr)) (fp : List Addr), PI (X.blk s H scope (compEnvC scope cl C X.env) fp) t1 i1 wi)
    (hg1 : ∀ (s : Shared) (H : Hp) (C : Addr) (cl : List (Str × Addr)) (fp : List Addr), PG (X.blk s H scope (compEnvC scope cl C X.env) fp) t1 g)
    (he : ∀ (s : Shared) (H : Hp) (C : Addr) (cl : List (Str × Addr)) (fp : List Addr), PE (X.blk s H scope (compEnvC scope cl C X.env) fp) elt te)
    (hs : ∀ x, foldedSetIterable i0 X.env x = pure x := by intro _; rfl) (hs1 : ∀ env x, foldedSetIterable i1 env x = pure x := by intro _ _; rfl) :
    PE X (comp2 elt t0 i0 t1 i1 scope pos) (setOf2 X.w wi0 g0 wi g te (own.map (·.2)) vs1) := by
  refine ⟨fun pins s σ H Q I h => ?_⟩
  show wpAny _ _ (eval (.SetComp elt [⟨t0, i0, [], 0⟩, ⟨t1, i1, [], 0⟩] scope pos) X.env) _ _ _
  rw [PpSet.eval_SetComp]
  have hfree : ∀ y ∈ scope.names, y.2 = .free → ∃ c, X.env.cells.lookup y.1 = some c := fun y hy e => (ok.free y hy e).elim (fun k => I.ok.has _ (.inl k)) fun k => I.ok.has _ (.inr k)
  refine wpAny_comprehension_free rfl hs (closure_ok hfree) ok.kind (fun y hy e => by rw [ok.uniq y hy, e])
    (thn (hi.run pins s σ H _ I h) fun xv s1 hx => thn hx fun itv s2 h2 => ?_)
  obtain ⟨it, fp, tn, J, H2, e, I2, T, st2, f2, q⟩ := h2
  subst e
  refine PpSet.newSet_ok (newEnv_comp ?_)
  generalize eD : s2.heap.objs.size = D
  obtain ⟨V, ⟨m0, v0⟩, turn⟩ := q D (I2.hok.fresh (Nat.le_of_eq eD))
  generalize e3 : ({ s2 with heap := s2.heap.push { cls := .type "set", dict := none, data := .set #[] 0 (.fresh 0 0 (!X.w.params.followText "set-order")) } } : Shared) = s3
  have k3 : ∀ b o, s2.heap.get? b = some o → s3.heap.get? b = some o := fun b o e => by
    rw [← e3]
    exact Heap.get?_push_of_some _ e
  have z3 : s3.heap.objs.size = s2.heap.objs.size + 1 := by
    rw [← e3]
    exact Heap.size_push _ _
  have I3 : Inv X pins σ (upd H2 D (SetO X.w D (fun _ => false) 0)) s3 := by
    have := I2.laid (t' := s2.toks) (fun b o e => Heap.get?_push_of_some _ e) (Nat.le_refl s2.heap.objs.size) (setO_new (setR_fresh X.w))
    rw [← e3, ← eD]
    exact this
  have fpOk : ∀ b ∈ fp, FpOk X pins (upd H2 D (SetO X.w D (fun _ => false) 0)) b ∧ b < s3.heap.objs.size := fun b hb => by
    obtain ⟨o, e, _⟩ := T.obj _ _ st2 b hb
    have lt : b < s2.heap.objs.size := Heap.lt_size e
    have lD : b < D := eD ▸ lt
    have z3' : s3.heap.objs.size = D + 1 := eD ▸ z3
    refine ⟨⟨?_, (f2 b hb).2⟩, by rw [z3']; exact Nat.lt_succ_of_lt lD⟩
    rw [upd_ne (Nat.ne_of_lt lD)]
    exact (f2 b hb).1
  generalize upd H2 D (SetO X.w D (fun _ => false) 0) = H3 at I3 fpOk v0
  have st3 : tn 0 s3.heap := T.keep _ _ _ st2 fun b _ o e => k3 b o e
  have I4 := block_start I3 ok hN fpOk
  have p0 := hg0 s3 H3 s3.heap.objs.size (cellsFrom (s3.heap.objs.size + 1) scope.names (cloFrom X.env.cells scope.names [])) fp
  have p1 := hi1 s3 H3 s3.heap.objs.size (cellsFrom (s3.heap.objs.size + 1) scope.names (cloFrom X.env.cells scope.names [])) fp
  have p2 := hg1 s3 H3 s3.heap.objs.size (cellsFrom (s3.heap.objs.size + 1) scope.names (cloFrom X.env.cells scope.names [])) fp
  have p3 := he s3 H3 s3.heap.objs.size (cellsFrom (s3.heap.objs.size + 1) scope.names (cloFrom X.env.cells scope.names [])) fp
  show codeAny _ _ (.compStart (comp2 elt t0 i0 t1 i1 scope pos) 0 (.ref it) (.ref D) (compEnvC scope (cellsFrom (s3.heap.objs.size + 1) scope.names (cloFrom X.env.cells scope.names [])) s3.heap.objs.size X.env)) _ { s3 with heap := pushCells (s3.heap.push { cls := .type "dict", data := .dict #[] }) scope.names }
  generalize ec : compEnvC scope (cellsFrom (s3.heap.objs.size + 1) scope.names (cloFrom X.env.cells scope.names [])) s3.heap.objs.size X.env = ce at I4 p0 p1 p2 p3 ⊢
  have cL : ce.locals = s3.heap.objs.size := by
    rw [← ec]
    rfl
  generalize e4 : ({ s3 with heap := pushCells (s3.heap.push { cls := .type "dict", data := .dict #[] }) scope.names } : Shared) = s4 at I4 ⊢
  have st4 : tn 0 s4.heap := T.keep _ _ _ st3 fun b _ o e => by
    rw [← e4]
    exact pushCells_keeps _ _ _ _ (Heap.get?_push_of_some _ e)
  have lp := first (D := D) (t0 := t0) (i0 := i0) (scope := scope) (pos := pos) (Y := X.blk s3 H3 scope ce fp) (Qd := fun H => Q (.ref D) H) hc (fun _ _ z => z) T
    (fun {σ' H' s'} I' hn b hb => ⟨hn b hb, (I'.ok.exf b hb).1, I'.ok.exfs b hb, .inl hb, fun x c e => (I'.ok.exf b hb).2 x c e, fun p hp => absurd (show p ∈ ([] : List (Addr × Obj)) ++ [] from hp) (by simp)⟩)
    p0 p1 p2 p3 (hs1 ce) hv turn I4 st4 (fun b hb => (fpOk b hb).1.1) v0
  have loop := codeAny_mono lp (R' := compPost (model X.prog X.w) X.A X.xe none (fun v s' => ∃ x H', Inv X pins σ H' s' ∧ RelV x v ∧ Q x H') (.ref D) s3.heap.objs.size) fun r s' hr => by
    cases r with
    | error e => exact hr.elim
    | ok f =>
      obtain ⟨rfl, H', I', qd⟩ := hr
      have I7 : Inv X pins σ H' s' := I3.call' (ch := fp) I'.os I'.base I'.hok I'.bare fun b hb => ⟨(fpOk b hb).1.2.2.2.1, (fpOk b hb).1.2.1, (fpOk b hb).1.2.2.2.2.1, (fpOk b hb).1.2.2.2.2.2⟩
      have nC : H' s3.heap.objs.size = none := by
        have z : H' ce.locals = none := I'.free
        rwa [cL] at z
      obtain ⟨m, hn, _⟩ := I'.loc
      have hn : s'.heap.Ns ce.locals m := hn
      rw [cL] at hn
      obtain ⟨f0, f1, f2, f3, f4, f5⟩ := I3.fpOk (Nat.le_refl _) nC
      exact ⟨m, hn, fun h'' sb => ⟨.ref D, H', I7.turned (t' := s'.toks) (fun b o hb e => (sb.2 b hb).trans e) f0 f1 f3 f4 f5, rfl, qd⟩⟩
  exact PpSet.codeAny_compStart_set loop (T.self X.A 0 _ _ _ st4 loop)
end
/-- as many different ones -/
def Dis (c : Nat) (pre : List Int) : Prop := ∃ l : List Int, l.Nodup ∧ l.length = c ∧ ∀ k, k ∈ l ↔ k ∈ pre
/-- sorted({y for x in xs for y in x}), ints, fewer than 64 different ones -/
def wSortSet2 (i j : Nat) (wl : WE) : WE := fun R δ μ P => (i < δ.length ∧ j < δ.length) ∧ wl R δ μ fun d μ1 => ∃ (xs : List D) (nss : List (List Int)), itemsOf μ1 d = some xs ∧ xs.length = nss.length ∧ (∀ (m : Nat) x ns, xs[m]? = some x → nss[m]? = some ns → ∃ r, x = .ref r ∧ lstAt μ1 r = some (ns.map D.int)) ∧ (∀ l : List Int, l.Nodup → (∀ k, k ∈ l → k ∈ nss.flatten) → l.length < 64) ∧
  ∀ ms : List Int, ms.Pairwise (· < ·) → (∀ k, k ∈ ms ↔ k ∈ nss.flatten) → P (.ref μ1.length) (μ1 ++ [.lst (ms.map D.int)])
section
variable {X : Cx} {W : WX} {l : Expr} {wl : WE} {scope : Scope} {x y : Str} {i j : Nat}
theorem q_sortSet2 {p px px2 py py2 spos pos : Pos} (ne : i ≠ j) (hc : X.calm = true) (hN : X.N.Nodup) (hg : Gl X "sorted") (hm : X.mg "sorted" = none) (hv : bootBuiltins "sorted" = some (.builtin "sorted")) (hl : QE X W l wl) (ok : BlkOk X.N X.env.scope scope [(x, i), (y, j)])
    (hgx : ∀ (s : Shared) (H : Hp) (C : Addr) (cl : List (Str × Addr)) (fp : List Addr), PG (X.blk s H scope (compEnvC scope cl C X.env) fp) (.Name x px) (gName i))
    (hex : ∀ (s : Shared) (H : Hp) (C : Addr) (cl : List (Str × Addr)) (fp : List Addr), PE (X.blk s H scope (compEnvC scope cl C X.env) fp) (.Name x px2) (tVar i))
    (hgy : ∀ (s : Shared) (H : Hp) (C : Addr) (cl : List (Str × Addr)) (fp : List Addr), PG (X.blk s H scope (compEnvC scope cl C X.env) fp) (.Name y py) (gName j))
    (hey : ∀ (s : Shared) (H : Hp) (C : Addr) (cl : List (Str × Addr)) (fp : List Addr), PE (X.blk s H scope (compEnvC scope cl C X.env) fp) (.Name y py2) (tVar j))
    (hs : ∀ z, foldedSetIterable l X.env z = pure z := by intro _; rfl)
    (nc : starEach [.SetComp (.Name y py2) [⟨.Name x px, l, [], 0⟩, ⟨.Name y py, .Name x px2, [], 0⟩] scope spos] X.env = (false, eval (.SetComp (.Name y py2) [⟨.Name x px, l, [], 0⟩, ⟨.Name y py, .Name x px2, [], 0⟩] scope spos) X.env) :: starEach [] X.env := by rfl) (nd : (backTo pos (starEach [] X.env)).any (·.1) = false := by rfl) :
    QE X W (.Call (.Name "sorted" p) [.SetComp (.Name y py2) [⟨.Name x px, l, [], 0⟩, ⟨.Name y py, .Name x px2, [], 0⟩] scope spos] [] pos) (wSortSet2 i j wl) := by
  obtain ⟨t, a1, a2⟩ := hl
  refine ⟨_, pe_callB (cr_sortedSet hc) hg hm hv (pa_cons (pe_set2 (own := [(x, i), (y, j)]) (vs1 := [j]) (wi := iAny X.K (tVar i)) hc hN (pi_any a1) ok (by simp) hgx (fun s H C cl fp => pi_any (hex s H C cl fp)) hgy hey hs) pa_nil nc) (by decide) (by decide) nc nd, fun R ι μ δ σ H P Q c h k => ?_⟩
  obtain ⟨⟨hi, hj⟩, h⟩ := h
  rw [c.env.len] at hi hj
  refine a2 R ι μ δ σ H _ _ c h fun v d ι1 μ1 H1 s1 r1 i1 q1 => ?_
  obtain ⟨xs, nss, hx, hlen, hin, hsz, q⟩ := q1
  obtain ⟨a, ys, ev, hq, ha⟩ := items_seq r1 i1 hx
  subst ev
  refine ⟨a, isTup d, rfl, ⟨ys, hq⟩, fun D hD => ?_⟩
  have rel : ∀ o, Rel X.K ι1 μ1 (upd H1 D o) := fun o => r1.new hD
  have at_ : ∀ o, Is X.K ι1 (upd H1 D o) d (.ref a) := fun o => Is.stp (Stp.new hD) _ _ i1
  refine ⟨fun m n H' => n = nss.length - m ∧ m ≤ nss.length ∧ ∃ S c, H' = upd H1 D (SetO X.w D S c) ∧ (∀ k, S k = true ↔ k ∈ (nss.take m).flatten) ∧ Dis c (nss.take m).flatten, ⟨nss.length, rfl, Nat.zero_le _, _, 0, rfl, fun k => by simp, [], List.nodup_nil, rfl, fun k => by simp⟩, fun m n H' z => ?_⟩
  obtain ⟨hn, hle, S, c0, rfl, hS, hc0⟩ := z
  obtain ⟨a', ys', ev, hq', ha'⟩ := items_seq (rel _) (at_ (SetO X.w D S c0)) hx
  cases ev
  by_cases hlt : m < nss.length
  · have hltx : m < xs.length := by omega
    obtain ⟨y, hy, iy⟩ := ha'.get (i := m) (d := xs[m]) (List.getElem?_eq_getElem hltx)
    obtain ⟨r, er, e2⟩ := hin m xs[m] nss[m] (List.getElem?_eq_getElem hltx) (List.getElem?_eq_getElem hlt)
    rw [er] at iy
    have tk : (nss.take (m + 1)).flatten = (nss.take m).flatten ++ nss[m] := by
      rw [List.take_succ, List.getElem?_eq_getElem hlt, List.flatten_append]
      simp
    refine .inr ⟨ItA.go hq' hy, fun H2 => ∃ S c, H2 = upd H1 D (SetO X.w D S c) ∧ (∀ k, S k = true ↔ k ∈ (nss.take (m + 1)).flatten) ∧ Dis c (nss.take (m + 1)).flatten, fun H2 z => ⟨nss.length - (m + 1), by omega, rfl, hlt, z⟩, fun w H2 hw => ?_⟩
    obtain ⟨eH, fx⟩ := ItA.yld hw
    subst eH
    have ew : w = y := Option.some.inj ((fx _ hq').symm.trans hy)
    subst ew
    have hσ : (wipe σ [i, j]).set i (some w) = (σ.set j none).set i (some w) := by
      show (((σ.set j none).set i none)).set i (some w) = _
      rw [List.set_set]
    refine ⟨?_, ?_⟩
    · show (((wipe σ [i, j]).set i (some w)).set j none).set i none = ((σ.set j none).set i none)
      rw [hσ, List.set_comm _ _ ne, List.set_set, List.set_set]
    show inner X.w (iAny X.K (tVar i)) (gName j) (tVar j) [j] D ((wipe σ [i, j]).set i (some w)) _ _
    rw [hσ]
    have iyy : ∀ H', Is X.K ι1 H' (.ref r) w := fun _ => iy
    obtain ⟨b, zs, ez, hqz, haz⟩ := items_seq (rel _) (iyy (upd H1 D (SetO X.w D S c0))) e2
    refine ⟨w, List.getElem?_set_self (by rw [List.length_set]; exact hi), b, false, ez, ⟨zs, hqz⟩, ?_⟩
    refine ⟨fun k n H' => n = nss[m].length - k ∧ k ≤ nss[m].length ∧ ∃ S c, H' = upd H1 D (SetO X.w D S c) ∧ (∀ q, S q = true ↔ q ∈ (nss.take m).flatten ++ nss[m].take k) ∧ Dis c ((nss.take m).flatten ++ nss[m].take k), ⟨nss[m].length, rfl, Nat.zero_le _, S, c0, rfl, by simpa using hS, by simpa using hc0⟩, fun k n H' z => ?_⟩
    obtain ⟨hn2, hle2, S2, c2, rfl, hS2, hc2⟩ := z
    obtain ⟨b', zs', ez', hqz', haz'⟩ := items_seq (rel (SetO X.w D S2 c2)) (iyy _) e2
    have eb : b = b' := by
      rw [ez] at ez'
      cases ez'
      rfl
    subst eb
    have ezs := vals_ints haz'
    subst ezs
    by_cases hlt2 : k < nss[m].length
    · have hy2 : (nss[m].map V.int)[k]? = some (.int nss[m][k]) := by
        rw [List.getElem?_map, List.getElem?_eq_getElem hlt2]
        rfl
      have tk2 : nss[m].take (k + 1) = nss[m].take k ++ [nss[m][k]] := by
        rw [List.take_succ, List.getElem?_eq_getElem hlt2]
        rfl
      refine .inr ⟨ItA.go hqz' hy2, fun H2 => ∃ S c, H2 = upd H1 D (SetO X.w D S c) ∧ (∀ q, S q = true ↔ q ∈ (nss.take m).flatten ++ nss[m].take (k + 1)) ∧ Dis c ((nss.take m).flatten ++ nss[m].take (k + 1)), fun H2 z => ⟨nss[m].length - (k + 1), by omega, rfl, hlt2, z⟩, fun w2 H2 hw2 => ?_⟩
      obtain ⟨eH, fx2⟩ := ItA.yld hw2
      subst eH
      have ew2 : w2 = .int nss[m][k] := Option.some.inj ((fx2 _ hqz').symm.trans hy2)
      subst ew2
      refine ⟨?_, .int nss[m][k], ?_, nss[m][k], S2, c2, rfl, upd_same, ?_, _, _, upd_upd, fun q => ?_, ?_⟩
      · show (((_ : L2.St).set j none).set j _).set j none = (_ : L2.St).set j none
        rw [List.set_set, List.set_set]
      · show ((((σ.set j none).set i (some w)).set j none).set j _)[j]? = _
        rw [List.getElem?_set_self (by rw [List.length_set, List.length_set, List.length_set]; exact hj)]
      · obtain ⟨l, l1, l2, l3⟩ := hc2
        have := hsz l l1 fun q hq => by
          have e5 : nss = nss.take m ++ nss[m] :: nss.drop (m + 1) := by rw [← List.drop_eq_getElem_cons hlt, List.take_append_drop]
          have e6 : nss.flatten = (nss.take m).flatten ++ (nss[m] ++ (nss.drop (m + 1)).flatten) := by
            rw [← List.flatten_cons, ← List.flatten_append, ← e5]
          rw [e6]
          rcases List.mem_append.mp ((l3 q).mp hq) with z | z
          · exact List.mem_append.mpr (.inl z)
          · exact List.mem_append.mpr (.inr (List.mem_append.mpr (.inl (List.mem_of_mem_take z))))
        unfold scanBound
        omega
      · rw [Bool.or_eq_true, hS2, decide_eq_true_eq, tk2, ← List.append_assoc]
        exact ⟨fun h => List.mem_append.mpr (h.imp id List.mem_singleton.mpr), fun h => (List.mem_append.mp h).imp id List.mem_singleton.mp⟩
      · obtain ⟨l, l1, l2, l3⟩ := hc2
        rw [tk2, ← List.append_assoc]
        by_cases z : S2 nss[m][k] = true
        · rw [if_pos z]
          exact ⟨l, l1, l2, fun q => (l3 q).trans ⟨fun h => List.mem_append.mpr (.inl h), fun h => (List.mem_append.mp h).elim id fun h => List.mem_singleton.mp h ▸ (hS2 _).mp z⟩⟩
        · rw [if_neg z]
          exact ⟨nss[m][k] :: l, List.nodup_cons.mpr ⟨fun h => z ((hS2 _).mpr ((l3 _).mp h)), l1⟩, by rw [List.length_cons, l2], fun q => by
            rw [List.mem_cons, List.mem_append, List.mem_singleton, l3 q]
            exact Or.comm⟩
    · have ek : k = nss[m].length := by omega
      subst ek
      rw [List.take_length] at hS2 hc2
      refine .inl ⟨ItA.stop hqz' (by rw [List.length_map]; exact Nat.le_refl _), S2, c2, rfl, ?_, ?_⟩
      · rw [tk]
        exact hS2
      · rw [tk]
        exact hc2
  · have em : m = nss.length := by omega
    subst em
    rw [List.take_length] at hS hc0
    refine .inl ⟨ItA.stop hq' (by rw [ha'.length]; omega), ?_⟩
    obtain ⟨l0, l1, l2, l3⟩ := hc0
    refine ⟨D, S, c0, rfl, upd_same, l2 ▸ hsz l0 l1 fun q hq => (l3 q).mp hq, fun ms b2 hsrt hmem _ hb2 => ?_⟩
    have s2 : Stp ι1 H1 ι1 (upd H1 D (SetO X.w D S c0)) := Stp.new hD
    exact (k.stp s1) (.ref b2) (.ref μ1.length) (ι1 ++ [b2]) _ _ (s2.trans (Stp.push hb2)) ((rel _).pushLst hb2 (isAll_ints ms)) (is_pushed (rel (SetO X.w D S c0))) (q ms hsrt fun q => (hmem q).trans (hS q))
end
end HD
/-! HD36: t[::2] of a tuple of three. -/
namespace HD
open PySem PySem.Spec PyProof.Rows L2 HT
section
variable {prog : Program} {w : World} {A : Around} {E : Value → Shared → Prop} {s : Shared}
theorem sliceApplied_two {sl : Addr} {vs : Value} {Q : Int × Int × Nat → Shared → Prop} (hs : s.heap.IsSliceOf sl .none .none vs) (ps : IsPart vs (some 2)) (h : Q (0, 2, 2) s) : wpAny (model prog w) A (Builtin.Slice.sliceApplied (.ref sl) (pure ((3 : Nat) : Int))) Q E s := by
  obtain ⟨os, hos, hcs, hds⟩ := id hs
  unfold Builtin.Slice.sliceApplied Builtin.Slice.sliceFields
  refine wpAny_bind (wpAny_bind (wpAny_field hos hds (x := .none) rfl (wpAny_bind (wpAny_field hos hds (x := .none) rfl (wpAny_bind (wpAny_field hos hds (x := vs) rfl (wpAny_pure ?_)))))))
  refine wpAny_bind (slicePart_ ps ?_)
  show wpAny _ _ (if ((2 : Int) == 0) = true then _ else _) _ _ s
  rw [if_neg (by decide)]
  refine wpAny_bind (slicePart_none (wpAny_bind (slicePart_none (wpAny_bind (wpAny_pure ?_)))))
  show wpAny _ _ (match Builtin.Slice.sliceAdjust none none 2 ((3 : Nat) : Int) with | (lo, hi) => pure (lo, (2 : Int), Builtin.Slice.slicePlaces lo hi 2)) _ _ s
  rw [show Builtin.Slice.sliceAdjust none none 2 ((3 : Nat) : Int) = (0, 3) by decide +kernel]
  show wpAny _ _ (pure ((0 : Int), (2 : Int), Builtin.Slice.slicePlaces 0 3 2)) _ _ s
  rw [show Builtin.Slice.slicePlaces 0 3 2 = 2 by decide +kernel]
  exact wpAny_pure h
theorem getItem_tuple_two {t sl : Addr} {a b c : Value} {vs : Value} {Q : Value → Shared → Prop} (ht : IsTup s.heap t #[a, b, c]) (hs : s.heap.IsSliceOf sl .none .none vs) (ps : IsPart vs (some 2))
    (h : Q (.ref s.heap.objs.size) { s with heap := s.heap.push { cls := .type "tuple", data := .seq #[a, c] } }) : wpAny (model prog w) A (getItem (.ref t) (.ref sl)) Q E s := by
  have htake : sizeOk (.seq #[a, c]) := by
    show (#[a, c] : Array Value).size ≤ sizeLine
    exact (by decide : 2 ≤ sizeLine)
  obtain ⟨os, hos, hcs, hds⟩ := id hs
  have hTs : s.TypeIs (.ref sl) "slice" := ⟨os, hos, hcs⟩
  unfold getItem
  try with_reducible refine wpAny_holding ?_
  first | refine wpAny_bind (wpAny_pure ?_) | skip
  refine wpAny_bind (wpAny_sequenceKey ht.typeIs (by decide) ?_)
  refine wpAny_bind (wpAny_callSpecial?_slot (name := Str.ofString "__getitem__") ht.typeIs PyProof.Rows.slot_tuple_getitem
    (wpAny_call_entry PyProof.Rows.slot_tuple_getitem ht.typeIs entry_tuple_getitem ?_ (args_tuple_getitem _ _)))
  show wpAny _ _ (Builtin.Tuple.tupleItemsOf (.ref t) >>= _) _ _ s
  refine wpAny_bind (tupleItemsOf_ ht ?_)
  refine wpAny_bind (wpAny_typeOf hTs ?_)
  rw [if_pos (by decide)]
  refine wpAny_bind (sliceApplied_two hs ps ?_)
  show wpAny _ _ (if (((0 : Int) == 0 && (2 : Int) == 1 && 2 == 3) = true) then _ else _) _ _ s
  rw [if_neg (by decide)]
  first
    | exact wpAny_bind (m := Builtin.Tuple.tupleExact _) (wpAny_newObj_type (wpAny_pure ⟨_, rfl, wpAny_pure h⟩) htake)
    | exact wpAny_bind (m := Builtin.Tuple.tupleExact _) (wpAny_newObj_type (wpAny_bind (wpAny_pure (wpAny_pure ⟨_, rfl, wpAny_pure h⟩))) htake)
    | exact wpAny_bind (wpAny_bind (m := Builtin.Tuple.tupleExact _) (wpAny_newObj_type (wpAny_pure (wpAny_pure ⟨_, rfl, wpAny_pure h⟩)) htake))
    | exact wpAny_bind (wpAny_bind (m := Builtin.Tuple.tupleExact _) (wpAny_newObj_type (wpAny_pure ⟨_, rfl, wpAny_pure h⟩) htake))
end
section
variable {X : Cx} {W : WX}
def tTwoT (K : PySem.W.Frag) (te : TE) : TE := fun σ H Q => te σ H fun x H1 => ∃ a u v z, x = .ref a ∧ SqT K H1 a [u, v, z] ∧ ∀ p, H1 p = none → Q (.ref p) (upd H1 p (.tup [u, z]))
theorem pe_twoT {e : Expr} {te : TE} {k : Nat} {p1 p3 pos : Pos} (he : PE X e te) : PE X (.Subscript e (.Slice none none (some (.Constant (.int 2) k p1)) p3) pos) (tTwoT X.K te) := by
  refine ⟨fun pins s σ H Q I h => ?_⟩
  refine Subscript_ (thn (he.run pins s σ H _ I h) fun v s1 ⟨x, H1, I1, r1, q1⟩ => ?_)
  obtain ⟨a, u, v, z, ex, hx, q⟩ := q1
  subst ex
  cases r1
  have hst : PO X (some (.Constant (.int 2) k p1)) (tPart (tC (.int 2))) := po_some pe_int
  refine wpAny_Slice (thn (po_none.run pins s1 σ H1 (fun o H2 => o = none ∧ H2 = H1) I1 ⟨rfl, rfl⟩) fun vl s2 ⟨l, H2, I2, pl, el, e2⟩ => ?_)
  subst el e2
  refine thn (po_none.run pins s2 σ H2 (fun o H3 => o = none ∧ H3 = H2) I2 ⟨rfl, rfl⟩) fun vu s3 ⟨u', H3, I3, pu, eu, e3⟩ => ?_
  subst eu e3
  refine thn (hst.run pins s3 σ H3 (fun o H4 => o = some 2 ∧ H4 = H3) I3 ⟨2, rfl, rfl, rfl⟩) fun vs s4 ⟨o, H4, I4, ps, eo, e4⟩ => ?_
  subst eo e4
  cases pl
  cases pu
  have I5 : Inv X pins σ H4 { s4 with heap := s4.heap.push { cls := .type "slice", data := .fields #[.none, .none, vs] } } := I4.kept (t' := s4.toks) fun b ob q => Heap.get?_push_of_some _ q
  obtain ⟨its, r, ht, hz⟩ := I5.tuple hx
  cases r with
  | cons ru r =>
    cases r with
    | cons rv r =>
      cases r with
      | cons rz r =>
        cases r
        show wpAny (model X.prog X.w) X.A (subscriptTail e (.Slice none none (some (.Constant (.int 2) k p1)) p3) (.ref a) (.ref s4.heap.objs.size)) (EP X pins σ Q) X.xe { s4 with heap := s4.heap.push { cls := .type "slice", data := .fields #[.none, .none, vs] } }
        refine tail_any (ops := [.ref a, .ref s4.heap.objs.size]) ht.typeIs (PyProof.Rows.slot_tuple_getitem.lookup) ?_ (by with_unfolding_all rfl)
        refine getItem_tuple_two ht (Heap.IsSliceOf.new _ .none .none vs) ps ?_
        refine ⟨.ref _, _, I5.laid (t' := s4.toks) (o := .tup [u, z]) (fun b ob q => Heap.get?_push_of_some _ q) (Nat.le_refl _) ?_, rfl, q _ (I5.hok.fresh (Nat.le_refl _))⟩
        exact ⟨(by decide : 2 ≤ sizeLine), _, .cons ru (.cons rz .nil), IsTup.new _ _⟩
/-- t[::2], t of three -/
def wTwoT (we : WE) : WE := fun R δ μ P => we R δ μ fun d μ1 => isTup d = true ∧ ∃ x y z, itemsOf μ1 d = some [x, y, z] ∧ P (.tup [x, z]) μ1
theorem q_twoT {e : Expr} {we : WE} {k : Nat} {p1 p3 pos : Pos} (he : QE X W e we) : QE X W (.Subscript e (.Slice none none (some (.Constant (.int 2) k p1)) p3) pos) (wTwoT we) := by
  obtain ⟨t, h1, h2⟩ := he
  refine ⟨_, pe_twoT h1, fun R ι μ δ σ H P Q c hw kk => h2 R ι μ δ σ H _ _ c hw fun v d ι1 μ1 H1 s1 r1 i1 q1 => ?_⟩
  obtain ⟨ht, x, y, z, ex, q⟩ := q1
  obtain ⟨a, ys, ev, hq, hi⟩ := items_seq r1 i1 ex
  rw [ht] at hq
  obtain ⟨v1, r1', rfl, i1', v2, r2', rfl, i2', v3, r3', rfl, i3', rfl⟩ := hi
  refine ⟨a, v1, v2, v3, ev, hq, fun pn hp => ?_⟩
  exact (kk.stp s1) (.ref pn) (.tup [x, z]) ι1 μ1 _ (Stp.new hp) (r1.new hp) ⟨pn, _, rfl, SqT.of upd_same, IsAll.stp (Stp.new hp) _ _ (show IsAll X.K ι1 H1 [x, z] [v1, v3] from ⟨v1, _, rfl, i1', v3, _, rfl, i3', rfl⟩)⟩ q
end
end HD
/-! HD37: a tuple many times. -/
namespace HD
open PySem PySem.Spec PyProof.Rows L2
section
variable {X : Cx}
def wMulT : WO := fun d e μ P => match d, e with
  | .tup xs, .int n => xs ≠ [] ∧ 2 ≤ n ∧ n ≤ 1000 ∧ xs.length ≤ 1000 ∧ P (.tup (List.replicate n.toNat xs).flatten) μ
  | _, _ => False
theorem qo_mulT : QO X (binaryOp .Mult) wMulT := by
  refine ⟨_, op_repT, fun ι μ H x y d e P Q r i1 i2 h k => ?_⟩
  unfold wMulT at h
  split at h
  · rename_i xs n
    obtain ⟨h1, h2, h3, h4, q⟩ := h
    obtain ⟨a, us, ex, ha, hu⟩ := i1
    refine ⟨a, n, us, ex, i2, ha, fun e => h1 ?_, h2, h3, by rw [hu.length]; exact h4, fun p hp => ?_⟩
    · subst e
      exact isAll_nil hu
    · exact k (.ref p) (.tup _) ι μ _ (Stp.new hp) (r.new hp) ⟨p, _, rfl, SqT.of upd_same, IsAll.stp (Stp.new hp) _ _ (hu.rep _)⟩ q
  · exact h.elim
end
end HD
namespace HDL
open PySem PySem.Spec PyProof.Rows L2 HD

/-! ### the store in words -/
/-- all cells stand -/
def Ext (μ μ' : Sto) : Prop := μ.length ≤ μ'.length ∧ ∀ k o, cell μ k = some o → cell μ' k = some o
/-- all cells but j stand -/
def Grow (j : Nat) (μ μ' : Sto) : Prop := μ.length ≤ μ'.length ∧ ∀ k o, k ≠ j → cell μ k = some o → cell μ' k = some o
theorem Ext.refl (μ : Sto) : Ext μ μ := ⟨Nat.le_refl _, fun _ _ h => h⟩
theorem Ext.trans {μ μ1 μ2 : Sto} (a : Ext μ μ1) (b : Ext μ1 μ2) : Ext μ μ2 := ⟨Nat.le_trans a.1 b.1, fun k o h => b.2 k o (a.2 k o h)⟩
theorem Ext.app (μ ν : Sto) : Ext μ (μ ++ ν) := ⟨by rw [List.length_append]; omega, fun _ _ h => cell_app ν h⟩
theorem Grow.refl (j : Nat) (μ : Sto) : Grow j μ μ := ⟨Nat.le_refl _, fun _ _ _ h => h⟩
theorem Grow.trans {j : Nat} {μ μ1 μ2 : Sto} (a : Grow j μ μ1) (b : Grow j μ1 μ2) : Grow j μ μ2 := ⟨Nat.le_trans a.1 b.1, fun k o n h => b.2 k o n (a.2 k o n h)⟩
theorem Grow.ext {j : Nat} {μ μ1 μ2 : Sto} (a : Grow j μ μ1) (b : Ext μ1 μ2) : Grow j μ μ2 := ⟨Nat.le_trans a.1 b.1, fun k o n h => b.2 k o (a.2 k o n h)⟩
theorem Grow.app {j : Nat} {μ μ1 : Sto} (a : Grow j μ μ1) (ν : Sto) : Grow j μ (μ1 ++ ν) := a.ext (Ext.app _ _)
theorem Ext.grow {j : Nat} {μ μ1 μ2 : Sto} (a : Ext μ μ1) (b : Grow j μ1 μ2) : Grow j μ μ2 := ⟨Nat.le_trans a.1 b.1, fun k o n h => b.2 k o n (a.2 k o h)⟩
theorem Ext.lst {μ μ' : Sto} {k : Nat} {xs : List D} (e : Ext μ μ') (h : lstAt μ k = some xs) : lstAt μ' k = some xs := lstAt_of (e.2 k _ (lstAt_cell h))
theorem Grow.lst {j : Nat} {μ μ' : Sto} {k : Nat} {xs : List D} (e : Grow j μ μ') (hk : k ≠ j) (h : lstAt μ k = some xs) : lstAt μ' k = some xs := lstAt_of (e.2 k _ hk (lstAt_cell h))
theorem lst_new (μ : Sto) (xs : List D) : lstAt (μ ++ [.lst xs]) μ.length = some xs := lstAt_of (cell_new μ _ [])
theorem lst_lt {μ : Sto} {k : Nat} {xs : List D} (h : lstAt μ k = some xs) : k < μ.length := cell_lt (lstAt_cell h)
theorem lst_set {μ : Sto} {k : Nat} {xs ys : List D} (h : lstAt μ k = some xs) : lstAt (μ.set k (.lst ys)) k = some ys := lstAt_of (cell_set_same (lst_lt h))
theorem grow_set (μ : Sto) (k : Nat) (o : O) : Grow k μ (μ.set k o) := ⟨by rw [List.length_set]; omega, fun j u n h => by rw [cell_set_ne n]; exact h⟩
/-- a jar: three numbers, the last one at most B -/
def Jar (μ : Sto) (j : Nat) (B : Int) : Prop := ∃ a m c : Int, lstAt μ j = some [.int a, .int m, .int c] ∧ 0 ≤ a ∧ 0 ≤ m ∧ m < 2147483648 ∧ 0 ≤ c ∧ c ≤ B
theorem Jar.ext {μ μ' : Sto} {j : Nat} {B : Int} (e : Ext μ μ') (h : Jar μ j B) : Jar μ' j B := by
  obtain ⟨a, m, c, h1, h2⟩ := h
  exact ⟨a, m, c, e.lst h1, h2⟩
theorem Jar.mono {μ : Sto} {j : Nat} {B B' : Int} (h : Jar μ j B) (hB : B ≤ B') : Jar μ j B' := by
  obtain ⟨a, m, c, h1, h2, h3, h4, h5, h6⟩ := h
  exact ⟨a, m, c, h1, h2, h3, h4, h5, by omega⟩
theorem Jar.app {μ : Sto} {j : Nat} {B : Int} (h : Jar μ j B) (ν : Sto) : Jar (μ ++ ν) j B := h.ext (Ext.app _ _)
theorem Jar.lt {μ : Sto} {j : Nat} {B : Int} (h : Jar μ j B) : j < μ.length := by
  obtain ⟨a, m, c, h1, _⟩ := h
  exact lst_lt h1
/-! ### sizes -/
theorem mulS {i j : Int} (hi : -(2 ^ 1000) < i ∧ i < 2 ^ 1000) (hj : -(2 ^ 1000) < j ∧ j < 2 ^ 1000) : MulOk i j := by
  have gen : ∀ x : Int, -(2 ^ 1000) < x ∧ x < 2 ^ 1000 → x.natAbs < 2 ^ 1000 := fun x h => by
    have e : ((2 ^ 1000 : Nat) : Int) = (2 : Int) ^ 1000 := by rw [Int.natCast_pow] <;> rfl
    omega
  exact mulOk (a := 1000) (b := 1000) (gen i hi) (gen j hj) (by decide)
/-! ### items of written lists -/
theorem at0 {α : Type} {x : α} {r : List α} : atI (x :: r) (0 : Int) = some x := atI_nat (j := 0) rfl
theorem at1 {α : Type} {x y : α} {r : List α} : atI (x :: y :: r) (1 : Int) = some y := atI_nat (j := 1) rfl
theorem at2 {α : Type} {x y z : α} {r : List α} : atI (x :: y :: z :: r) (2 : Int) = some z := atI_nat (j := 2) rfl
theorem ix30 : ixN 3 (0 : Int) = some 0 := rfl
theorem ix31 : ixN 3 (1 : Int) = some 1 := rfl
theorem ix32 : ixN 3 (2 : Int) = some 2 := rfl
/-- the top and the bottom of a number -/
def IsNum (a b : Int) : Prop := a ≠ 0 ∧ 1 ≤ b ∧ Int.gcd a b = 1 ∧ a.natAbs ≤ 1000000000000000000000000000000 ∧ b ≤ 1000000000000000000000000000000
theorem abs_nat (a : Int) : (if a < 0 then -a else a) = (a.natAbs : Int) := by
  split <;> omega
/-! ### what is shown; equal data -/
theorem shown_int {i : Int} (h : i.natAbs < 2 ^ 250) : (PyData.int i).shown.length ≤ 260 := by
  show (Str.ofString (toString i)).length ≤ 260
  rw [PySem.ofString_length]
  have l : i.natAbs.log2 < 250 := by
    by_cases z : i.natAbs = 0
    · rw [z]; decide
    · exact (Nat.log2_lt z).mpr h
  have := int_text_length_le (a := i) (k := 250) (by decide) l
  omega
theorem shown_pair {a b : Int} (ha : a.natAbs < 2 ^ 250) (hb : b.natAbs < 2 ^ 250) : (PyData.tuple [.int a, .int b]).shown.length ≤ 1000 := by
  have h1 := shown_int ha
  have h2 := shown_int hb
  show (PySem.tupleText [(PyData.int a).shown, (PyData.int b).shown]).length ≤ 1000
  unfold PySem.tupleText
  have j := PySem.join_length_add [(PyData.int a).shown, (PyData.int b).shown] (by simp)
  simp only [PySem.piled, List.map_cons, List.map_nil, List.sum_cons, List.sum_nil] at j
  rw [Str.length_append, Str.length_append]
  have e1 : (Str.ofString "(").length = 1 := rfl
  have e2 : (Str.ofString (if ([(PyData.int a).shown, (PyData.int b).shown].length == 1) = true then ",)" else ")")).length = 1 := rfl
  rw [e1, e2]
  omega
theorem show_int {i : Int} (h : i.natAbs < 2 ^ 250) : (PyData.int i).showable = true := by
  show decide (i.natAbs.log2 < 1920) = true
  refine decide_eq_true ?_
  by_cases z : i.natAbs = 0
  · rw [z]; decide
  · have := (Nat.log2_lt z).mpr h
    omega
theorem show_pair {a b : Int} (ha : a.natAbs < 2 ^ 250) (hb : b.natAbs < 2 ^ 250) : (PyData.tuple [.int a, .int b]).showable = true := by
  show ((PyData.int a).showable && ((PyData.int b).showable && true)) = true
  rw [show_int ha, show_int hb] <;> rfl
theorem ok_ofString (s : String) : PyData.strOk (Str.ofString s) = true := by
  rw [Str.ofString_eq_toList]
  unfold PyData.strOk
  simp only [List.all_toArray, List.all_eq_true, List.mem_map, decide_eq_true_eq]
  rintro x ⟨c, _, rfl⟩
  have h := c.valid
  have e : c.toNat = c.val.toNat := rfl
  rw [e]
  rcases h with h | h
  · omega
  · omega
theorem ok_app (a b : Str) : PyData.strOk (a ++ b) = (PyData.strOk a && PyData.strOk b) := by
  show (a.cps ++ b.cps).all _ = _
  rw [Array.all_append]
  rfl
theorem same_eqv {d : PyData} (h : SeqAt.shaped d = true) : PyData.eqv d d = true := SeqAt.eqv_refl d (Bool.and_eq_true_iff.mp h).1
theorem ok_int (i : Int) : PyData.strOk (PyData.int i).shown = true := ok_ofString _
theorem ok_pair (a b : Int) : PyData.strOk (PyData.tuple [.int a, .int b]).shown = true := by
  show PyData.strOk (PySem.tupleText [(PyData.int a).shown, (PyData.int b).shown]) = true
  unfold PySem.tupleText
  rw [ok_app, ok_app, ok_ofString, ok_ofString]
  show (true && PyData.strOk ((PyData.int a).shown ++ Str.ofString ", " ++ (PyData.int b).shown) && true) = true
  rw [ok_app, ok_app, ok_ofString, ok_int, ok_int] <;> rfl
theorem shaped_told (x y : Str) (hx : PyData.strOk x = true) (hy : PyData.strOk y = true) : SeqAt.shaped (.list [.list [.str x, .str y], .list [.str x, .str y]]) = true := by
  unfold SeqAt.shaped
  have e : (PyData.list [.list [.str x, .str y], .list [.str x, .str y]]).canLay0 = ((PyData.strOk x && (PyData.strOk y && true)) && ((PyData.strOk x && (PyData.strOk y && true)) && true)) := rfl
  rw [e, hx, hy]
  rfl
theorem sh2 (a b k : Int) : SeqAt.shaped (.tuple [.tuple [.int a, .int b], .int k]) = true := by rfl
theorem sh3 (a b : Int) : SeqAt.shaped (.tuple [.int a, .int b]) = true := by rfl
/-! ### bases and roots -/
/-- x / y with the exponent k is the base of a / b -/
def BaseIs (a b x y k : Nat) : Prop := (a = b ∧ x = 1 ∧ y = 1 ∧ k = 0) ∨ (a ≠ b ∧ 1 ≤ k ∧ x ^ k = a ∧ y ^ k = b ∧ ∀ n r s : Nat, k < n → r ^ n = a → s ^ n ≠ b)
theorem root_eq {r s n : Nat} (hn : 1 ≤ n) (h : r ^ n = s ^ n) : r = s := by
  refine Nat.le_antisymm (Nat.le_of_not_lt fun z => ?_) (Nat.le_of_not_lt fun z => ?_)
  · have := Nat.pow_lt_pow_left z (by omega : n ≠ 0)
    omega
  · have := Nat.pow_lt_pow_left z (by omega : n ≠ 0)
    omega
theorem BaseIs.same {a b x y k x' y' k' : Nat} (h : BaseIs a b x y k) (h' : BaseIs a b x' y' k') : x = x' ∧ y = y' ∧ k = k' := by
  rcases h with ⟨e, e1, e2, e3⟩ | ⟨ne, hk, ha, hb, hm⟩
  · rcases h' with ⟨_, f1, f2, f3⟩ | ⟨ne', _⟩
    · omega
    · exact absurd e ne'
  · rcases h' with ⟨e', _⟩ | ⟨ne', hk', ha', hb', hm'⟩
    · exact absurd e' ne
    · have ek : k = k' := by
        refine Nat.le_antisymm (Nat.le_of_not_lt fun z => ?_) (Nat.le_of_not_lt fun z => ?_)
        · exact hm' k x y z ha hb
        · exact hm k' x' y' z ha' hb'
      subst ek
      exact ⟨root_eq hk (ha.trans ha'.symm), root_eq hk (hb.trans hb'.symm), rfl⟩
/-- the fraction whose fourth root is asked for -/
def fourTop (a b : Int) : Nat := a.natAbs / Nat.gcd a.natAbs (4 * b.natAbs)
def fourBot (a b : Int) : Nat := 4 * b.natAbs / Nat.gcd a.natAbs (4 * b.natAbs)
theorem four_small {a b : Int} (hn : IsNum a b) : 1 ≤ fourTop a b ∧ 1 ≤ fourBot a b ∧ fourTop a b < 2 ^ 102 ∧ fourBot a b < 2 ^ 102 := by
  obtain ⟨h1, h2, h3, h4, h5⟩ := hn
  have l : 4 * 1000000000000000000000000000000 < 2 ^ 102 := by decide +kernel
  have g0 : 0 < Nat.gcd a.natAbs (4 * b.natAbs) := Nat.gcd_pos_of_pos_left _ (by omega)
  unfold fourTop fourBot
  refine ⟨Nat.div_pos (Nat.le_of_dvd (by omega) (Nat.gcd_dvd_left _ _)) g0, Nat.div_pos (Nat.le_of_dvd (by omega) (Nat.gcd_dvd_right _ _)) g0, ?_, ?_⟩
  · exact Nat.lt_of_le_of_lt (Nat.div_le_self _ _) (by omega)
  · exact Nat.lt_of_le_of_lt (Nat.div_le_self _ _) (by omega)
theorem four_cast {a b : Int} (ha : a < 0) (hb : 1 ≤ b) : -a / (Int.gcd (-a) (4 * b) : Int) = (fourTop a b : Int) ∧ 4 * b / (Int.gcd (-a) (4 * b) : Int) = (fourBot a b : Int) := by
  have e1 : -a = (a.natAbs : Int) := by omega
  have e2 : 4 * b = ((4 * b.natAbs : Nat) : Int) := by omega
  rw [e1, e2]
  have e3 : Int.gcd (a.natAbs : Int) ((4 * b.natAbs : Nat) : Int) = Nat.gcd a.natAbs (4 * b.natAbs) := rfl
  rw [e3]
  unfold fourTop fourBot
  exact ⟨(Int.natCast_ediv _ _).symm, (Int.natCast_ediv _ _).symm⟩
/-- what is wished of the root of a / b: none, or it -/
def RootP (a b : Int) (n : Nat) (P : D → Prop) : Prop := (∀ r s : Nat, r ^ n = a.natAbs → s ^ n = b.natAbs → (0 < a ∨ n % 2 = 1) → P (.tup [.int (if 0 < a then (r : Int) else -(r : Int)), .int (s : Int)])) ∧ ((∀ r s : Nat, r ^ n = a.natAbs → s ^ n = b.natAbs → ¬ (0 < a ∨ n % 2 = 1)) → P .non)
theorem eqv_pair (a b c d : Int) : PyData.eqv (.tuple [.int a, .int b]) (.tuple [.int c, .int d]) = (decide (a = c) && decide (b = d)) := by
  show ((a == c) && ((b == d) && true)) = _
  rw [Bool.and_true]
  rfl
theorem shaped_pair (a b : Int) : SeqAt.shaped (.tuple [.int a, .int b]) = true := by rfl
theorem py_pair {μ : Sto} (a b : Int) : Py μ (.tup [.int a, .int b]) (.tuple [.int a, .int b]) := .tup (.cons (.int _) (.cons (.int _) .nil))
def FourP (a b : Int) (P : D → Prop) : Prop := (0 < a → P .non) ∧ (a < 0 → (∀ r s : Nat, r ^ 4 = fourTop a b → s ^ 4 = fourBot a b → P (.tup [.int (r : Int), .int (s : Int)])) ∧ ((∀ r s : Nat, r ^ 4 = fourTop a b → s ^ 4 ≠ fourBot a b) → P .non))
theorem common_root : ∀ (N p q x r : Nat), p + q ≤ N → 1 ≤ p → 1 ≤ q → Nat.gcd p q = 1 → 1 ≤ x → 1 ≤ r → x ^ p = r ^ q → ∃ t, x = t ^ q ∧ r = t ^ p
  | 0, p, q, x, r, h, hp, hq, _, _, _, _ => by omega
  | N + 1, p, q, x, r, h, hp, hq, hg, hx, hr, e => by
    rcases Nat.lt_trichotomy p q with c | c | c
    · -- q greater
      have eq : q = (q - p) + p := by omega
      have e2 : r ^ q = r ^ (q - p) * r ^ p := by rw [← Nat.pow_add, ← eq]
      have dv : r ^ p ∣ x ^ p := by
        rw [e, e2]
        exact Nat.dvd_mul_left _ _
      obtain ⟨m, hm⟩ := (Nat.pow_dvd_pow_iff (by omega : p ≠ 0)).mp dv
      have rp : 0 < r ^ p := Nat.pow_pos hr
      have e3 : m ^ p = r ^ (q - p) := by
        have : r ^ p * m ^ p = r ^ p * r ^ (q - p) := by
          rw [← Nat.mul_pow, ← hm, e, e2, Nat.mul_comm]
        exact Nat.eq_of_mul_eq_mul_left rp this
      have m1 : 1 ≤ m := Nat.pos_of_ne_zero fun z => by
        rw [z, Nat.mul_zero] at hm
        omega
      have g' : Nat.gcd p (q - p) = 1 := by
        rw [Nat.gcd_sub_self_right (by omega)]
        exact hg
      obtain ⟨t, h1, h2⟩ := common_root N p (q - p) m r (by omega) hp (by omega) g' m1 hr e3
      refine ⟨t, ?_, h2⟩
      have hp2 : t ^ p * t ^ (q - p) = t ^ q := by
        rw [← Nat.pow_add]
        congr 1
        omega
      rw [hm, ← hp2, ← h2, ← h1]
    · subst c
      rw [Nat.gcd_self] at hg
      subst hg
      rw [Nat.pow_one, Nat.pow_one] at e
      exact ⟨x, by rw [Nat.pow_one], by rw [Nat.pow_one, e]⟩
    · have ep : p = (p - q) + q := by omega
      have e2 : x ^ p = x ^ (p - q) * x ^ q := by rw [← Nat.pow_add, ← ep]
      have dv : x ^ q ∣ r ^ q := by
        rw [← e, e2]
        exact Nat.dvd_mul_left _ _
      obtain ⟨m, hm⟩ := (Nat.pow_dvd_pow_iff (by omega : q ≠ 0)).mp dv
      have xq : 0 < x ^ q := Nat.pow_pos hx
      have e3 : x ^ (p - q) = m ^ q := by
        have : x ^ q * x ^ (p - q) = x ^ q * m ^ q := by
          rw [← Nat.mul_pow x m, ← hm, ← e, e2, Nat.mul_comm]
        exact Nat.eq_of_mul_eq_mul_left xq this
      have m1 : 1 ≤ m := Nat.pos_of_ne_zero fun z => by
        rw [z, Nat.mul_zero] at hm
        omega
      have g' : Nat.gcd (p - q) q = 1 := by
        rw [Nat.gcd_comm, Nat.gcd_sub_self_right (by omega), Nat.gcd_comm]
        exact hg
      obtain ⟨t, h1, h2⟩ := common_root N (p - q) q x m (by omega) (by omega) hq g' hx m1 e3
      refine ⟨t, h1, ?_⟩
      have hq2 : t ^ q * t ^ (p - q) = t ^ p := by
        rw [← Nat.pow_add]
        congr 1
        omega
      rw [hm, ← hq2, ← h2, ← h1]
/-- a root of the whole is a power of the base -/
theorem root_of_base {A B x y k n r s : Nat} (hA : 1 ≤ A) (hB : 1 ≤ B) (ne : A ≠ B) (h : BaseIs A B x y k) (hn : 1 ≤ n) (hr : r ^ n = A) (hs : s ^ n = B) : n ∣ k ∧ r = x ^ (k / n) ∧ s = y ^ (k / n) := by
  rcases h with ⟨e, _⟩ | ⟨_, hk, ha, hb, hm⟩
  · exact absurd e ne
  obtain ⟨g, hg⟩ : ∃ g, Nat.gcd k n = g := ⟨_, rfl⟩
  have g0 : 0 < g := by
    rw [← hg]
    exact Nat.gcd_pos_of_pos_left _ hk
  obtain ⟨p, hp⟩ : g ∣ k := by rw [← hg]; exact Nat.gcd_dvd_left _ _
  obtain ⟨q, hq⟩ : g ∣ n := by rw [← hg]; exact Nat.gcd_dvd_right _ _
  have p1 : 1 ≤ p := Nat.pos_of_ne_zero fun z => by
    rw [z, Nat.mul_zero] at hp
    omega
  have q1 : 1 ≤ q := Nat.pos_of_ne_zero fun z => by
    rw [z, Nat.mul_zero] at hq
    omega
  have cop : Nat.gcd p q = 1 := by
    have z : Nat.gcd (g * p) (g * q) = g * Nat.gcd p q := Nat.gcd_mul_left g p q
    rw [← hp, ← hq, hg] at z
    exact Nat.eq_of_mul_eq_mul_left g0 (by rw [Nat.mul_one, ← z])
  have pos : ∀ {t m c : Nat}, 1 ≤ c → 1 ≤ m → t ^ m = c → 1 ≤ t := fun {t m c} hc hm2 e => Nat.pos_of_ne_zero fun z => by
    rw [z, Nat.zero_pow hm2] at e
    omega
  have step : ∀ {z w c : Nat}, 1 ≤ c → z ^ k = c → w ^ n = c → ∃ t, z = t ^ q ∧ w = t ^ p := fun {z w c} hc ez ew => by
    refine common_root (p + q) p q z w (Nat.le_refl _) p1 q1 cop (pos hc hk ez) (pos hc hn ew) ?_
    refine root_eq (n := g) g0 ?_
    rw [← Nat.pow_mul, ← Nat.pow_mul, Nat.mul_comm p g, Nat.mul_comm q g, ← hp, ← hq, ez, ew]
  obtain ⟨t, t1, t2⟩ := step hA ha hr
  obtain ⟨u, u1, u2⟩ := step hB hb hs
  have q2 : q = 1 := by
    refine Nat.le_antisymm (Nat.le_of_not_lt fun z => ?_) q1
    have lt : k < q * k := by
      have z2 : 2 * k ≤ q * k := Nat.mul_le_mul_right k z
      omega
    refine hm (q * k) t u lt ?_ ?_
    · rw [Nat.pow_mul, ← t1, ha]
    · rw [Nat.pow_mul, ← u1, hb]
  subst q2
  rw [Nat.mul_one] at hq
  subst hq
  rw [Nat.pow_one] at t1 u1
  have kn : k / n = p := by
    rw [hp]
    exact Nat.mul_div_cancel_left p g0
  exact ⟨⟨p, hp⟩, by rw [kn, t1]; exact t2, by rw [kn, u1]; exact u2⟩
theorem len_list2 (x y : Str) : (PySem.listText [x, y]).length = x.length + y.length + 4 := by
  show (Str.ofString "[" ++ Str.ofString "" ++ x ++ Str.ofString ", " ++ y ++ Str.ofString "]").length = _
  simp only [Str.length_append]
  have e1 : (Str.ofString "[").length = 1 := rfl
  have e2 : (Str.ofString "").length = 0 := rfl
  have e3 : (Str.ofString ", ").length = 2 := rfl
  have e4 : (Str.ofString "]").length = 1 := rfl
  rw [e1, e2, e3, e4]
  omega
theorem list3_len (x y z : Str) : (PySem.listText [x, y, z]).length = x.length + y.length + z.length + 6 := by
  show (Str.ofString "[" ++ Str.ofString "" ++ x ++ Str.ofString ", " ++ y ++ Str.ofString ", " ++ z ++ Str.ofString "]").length = _
  simp only [Str.length_append]
  have e1 : (Str.ofString "[").length = 1 := rfl
  have e2 : (Str.ofString "").length = 0 := rfl
  have e3 : (Str.ofString ", ").length = 2 := rfl
  have e4 : (Str.ofString "]").length = 1 := rfl
  rw [e1, e2, e3, e4]
  omega
theorem len_tup2 (x y : Str) : (PySem.tupleText [x, y]).length = x.length + y.length + 4 := by
  unfold PySem.tupleText
  have j := PySem.join_length_add [x, y] (by simp)
  simp only [PySem.piled, List.map_cons, List.map_nil, List.sum_cons, List.sum_nil] at j
  rw [Str.length_append, Str.length_append]
  have e1 : (Str.ofString "(").length = 1 := rfl
  have e2 : (Str.ofString (if ([x, y].length == 1) = true then ",)" else ")")).length = 1 := rfl
  rw [e1, e2]
  omega
theorem wRepr_two {μ : Sto} {i : Nat} {d : D} {q : PyData} {P : D → Sto → Prop} (hl : lstAt μ i = some [d, d]) (hq : Py μ d q) (hs : q.showable = true) (hd : q.depth ≤ 50) (hn : q.shown.length ≤ 5000) (k : P (.str (PyData.list [q, q]).shown) μ) : wRepr [.ref i] μ P := by
  have line : 100000 ≤ sizeLine := by
    rw [sizeLine_eq]
    decide
  refine ⟨.list [q, q], .ref hl (.cons hq (.cons hq .nil)), ?_, ?_, ?_, k⟩
  · show (q.showable && (q.showable && true)) = true
    rw [hs] <;> rfl
  · show max q.depth (max q.depth 0) + 1 ≤ 60
    omega
  · show (PySem.listText [q.shown, q.shown]).length ≤ sizeLine
    rw [len_list2]
    omega
/-! ### primes -/
def IsPr (p : Nat) : Prop := 2 ≤ p ∧ ∀ d : Nat, d ∣ p → d = 1 ∨ d = p
theorem pr_dvd : ∀ n : Nat, 2 ≤ n → ∃ p, IsPr p ∧ p ∣ n := by
  intro n
  induction n using Nat.strongRecOn with
  | _ n ih =>
    intro hn
    by_cases h : IsPr n
    · exact ⟨n, h, Nat.dvd_refl n⟩
    · have h2 : ∃ d : Nat, d ∣ n ∧ d ≠ 1 ∧ d ≠ n := by
        refine Classical.byContradiction fun z => h ⟨hn, fun d hd => ?_⟩
        by_cases a : d = 1
        · exact .inl a
        · by_cases b : d = n
          · exact .inr b
          · exact absurd ⟨d, hd, a, b⟩ z
      obtain ⟨d, hd, a, b⟩ := h2
      have d0 : d ≠ 0 := fun z => by
        rw [z, Nat.zero_dvd] at hd
        omega
      have dn := Nat.le_of_dvd (by omega) hd
      obtain ⟨p, hp, hpd⟩ := ih d (by omega) (by omega)
      exact ⟨p, hp, Nat.dvd_trans hpd hd⟩
theorem pr_mul {p a b : Nat} (hp : IsPr p) (h : p ∣ a * b) : p ∣ a ∨ p ∣ b := by
  rcases hp.2 _ (Nat.gcd_dvd_left p a) with g | g
  · exact .inr (Nat.Coprime.dvd_of_dvd_mul_left g h)
  · exact .inl (by rw [← g]; exact Nat.gcd_dvd_right p a)
theorem pr_pow {p a : Nat} (hp : IsPr p) : ∀ {k : Nat}, p ∣ a ^ k → p ∣ a
  | 0, h => by
    rw [Nat.pow_zero] at h
    have := Nat.le_of_dvd (by decide) h
    have := hp.1
    omega
  | k + 1, h => by
    rw [Nat.pow_succ] at h
    rcases pr_mul hp h with h | h
    · exact pr_pow hp h
    · exact h
theorem pr_le {p q : Nat} (hq : 1 ≤ q) (h : p ∣ q) : p ≤ q := Nat.le_of_dvd hq h
theorem pr_eq {p q : Nat} (hp : IsPr p) (hq : IsPr q) (h : p ∣ q) : p = q := by
  have := hp.1
  rcases hq.2 p h with z | z
  · omega
  · exact z
theorem asc_eq : ∀ {L M : List Nat}, L.Pairwise (· < ·) → M.Pairwise (· < ·) → (∀ x, x ∈ L ↔ x ∈ M) → L = M
  | [], [], _, _, _ => rfl
  | [], b :: M, _, _, h => absurd ((h b).mpr (List.mem_cons_self ..)) (by simp)
  | a :: L, [], _, _, h => absurd ((h a).mp (List.mem_cons_self ..)) (by simp)
  | a :: L, b :: M, hL, hM, h => by
    obtain ⟨a1, a2⟩ := List.pairwise_cons.mp hL
    obtain ⟨b1, b2⟩ := List.pairwise_cons.mp hM
    have e : a = b := by
      rcases List.mem_cons.mp ((h a).mp (List.mem_cons_self ..)) with z | z
      · exact z
      · rcases List.mem_cons.mp ((h b).mpr (List.mem_cons_self ..)) with y | y
        · exact y.symm
        · have := a1 b y
          have := b1 a z
          omega
    subst e
    rw [asc_eq a2 b2 fun x => ⟨fun hx => ?_, fun hx => ?_⟩]
    · rcases List.mem_cons.mp ((h x).mp (List.mem_cons_of_mem _ hx)) with z | z
      · have := a1 x hx
        omega
      · exact z
    · rcases List.mem_cons.mp ((h x).mpr (List.mem_cons_of_mem _ hx)) with z | z
      · have := b1 x hx
        omega
      · exact z
theorem asc_from1 : ∀ {L : List Nat} {a b : Nat}, (a :: L).Pairwise (· < ·) → (∀ x, x ∈ a :: L → x < b) → (a :: L).length + a ≤ b
  | [], a, b, _, h => by
    have := h a (List.mem_cons_self ..)
    show 0 + 1 + a ≤ b
    omega
  | c :: L, a, b, hp, h => by
    obtain ⟨p1, p2⟩ := List.pairwise_cons.mp hp
    have ih := asc_from1 p2 fun x hx => h x (List.mem_cons_of_mem _ hx)
    have := p1 c (List.mem_cons_self ..)
    show (c :: L).length + 1 + a ≤ b
    omega
theorem asc_len {L : List Nat} {b : Nat} (hp : L.Pairwise (· < ·)) (h : ∀ x, x ∈ L → x < b) : L.length ≤ b := by
  cases L with
  | nil => exact Nat.zero_le b
  | cons a L =>
    have := asc_from1 hp h
    omega
/-- the primes that divide n, ascending -/
def PrimesIs (n : Nat) (L : List Nat) : Prop := L.Pairwise (· < ·) ∧ ∀ p, p ∈ L ↔ IsPr p ∧ p ∣ n
theorem PrimesIs.eq {n : Nat} {L M : List Nat} (h : PrimesIs n L) (g : PrimesIs n M) : L = M := asc_eq h.1 g.1 fun x => (h.2 x).trans (g.2 x).symm
theorem PrimesIs.one {p : Nat} (hp : IsPr p) : PrimesIs p [p] := ⟨List.pairwise_singleton _ _, fun q => ⟨fun h => by
  rw [List.mem_singleton.mp h]
  exact ⟨hp, Nat.dvd_refl p⟩, fun ⟨hq, h⟩ => List.mem_singleton.mpr (pr_eq hq hp h)⟩⟩
theorem pr_of {p : Nat} (h2 : 2 ≤ p) (h : ((List.range p).all fun d => decide (d < 2) || p % d != 0) = true) : IsPr p := by
  refine ⟨h2, fun d hd => ?_⟩
  have dl := Nat.le_of_dvd (by omega) hd
  have d0 : d ≠ 0 := fun z => by
    rw [z, Nat.zero_dvd] at hd
    omega
  by_cases e : d = p
  · exact .inr e
  · refine .inl ?_
    have q := List.all_eq_true.mp h d (List.mem_range.mpr (by omega))
    rw [Nat.mod_eq_zero_of_dvd hd] at q
    have : d < 2 := by simpa using q
    omega
/-- no prime below q divides v -/
def Rough (q v : Nat) : Prop := ∀ p, IsPr p → p ∣ v → q ≤ p
theorem Rough.prime {q v : Nat} (hr : Rough q v) (hq : 2 ≤ q) (h : q ∣ v) : IsPr q := by
  obtain ⟨p, hp, hpq⟩ := pr_dvd q hq
  have h1 := hr p hp (Nat.dvd_trans hpq h)
  have h2 := pr_le (by omega) hpq
  have e : p = q := by omega
  exact e ▸ hp
theorem Rough.last {q v : Nat} (hr : Rough q v) (hv : 1 < v) (h : v < q * q) : IsPr v := by
  refine ⟨hv, fun d hd => Classical.byContradiction fun z => ?_⟩
  have z1 : d ≠ 1 := fun e => z (.inl e)
  have z2 : d ≠ v := fun e => z (.inr e)
  obtain ⟨e, he⟩ := hd
  have d0 : d ≠ 0 := fun y => by
    rw [y, Nat.zero_mul] at he
    omega
  have e0 : e ≠ 0 := fun y => by
    rw [y, Nat.mul_zero] at he
    omega
  have e1 : e ≠ 1 := fun y => by
    rw [y, Nat.mul_one] at he
    exact z2 he.symm
  obtain ⟨p, hp, hpd⟩ := pr_dvd d (by omega)
  obtain ⟨p', hp', hpe⟩ := pr_dvd e (by omega)
  have h1 := hr p hp (by rw [he]; exact Nat.dvd_trans hpd (Nat.dvd_mul_right d e))
  have h2 := hr p' hp' (by rw [he]; exact Nat.dvd_trans hpe (Nat.dvd_mul_left e d))
  have h3 := pr_le (by omega) hpd
  have h4 := pr_le (by omega) hpe
  have := Nat.mul_le_mul (Nat.le_trans h1 h3) (Nat.le_trans h2 h4)
  omega
theorem Rough.next {q v : Nat} (hr : Rough q v) (h : ¬ q ∣ v) : Rough (q + 1) v := fun p hp hd => by
  have := hr p hp hd
  have ne : p ≠ q := fun z => h (z ▸ hd)
  omega
theorem Rough.two (v : Nat) : Rough 2 v := fun p hp _ => hp.1
theorem Rough.of_dvd {q u v : Nat} (hr : Rough q v) (h : u ∣ v) : Rough q u := fun p hp hd => hr p hp (Nat.dvd_trans hd h)
theorem cpow10 {n : Int} (h : 0 ≤ n ∧ n ≤ 1000000) : CPow 10 n := ⟨h.1, h.2, by decide⟩
theorem p9 : (10 : Int) ^ Int.toNat 9 = 1000000000 := by decide +kernel
theorem p10 : (10 : Int) ^ Int.toNat 10 = 10000000000 := by decide +kernel
theorem p18 : (10 : Int) ^ Int.toNat 18 = 1000000000000000000 := by decide +kernel
theorem p20 : (10 : Int) ^ Int.toNat 20 = 100000000000000000000 := by decide +kernel
theorem p30 : (10 : Int) ^ Int.toNat 30 = 1000000000000000000000000000000 := by decide +kernel
theorem Ext.set {μ μ2 : Sto} (e : Ext μ μ2) {k : Nat} (hk : μ.length ≤ k) (o : O) : Ext μ (μ2.set k o) :=
  ⟨by rw [List.length_set]; exact e.1, fun j u hj => by
    have := cell_lt hj
    rw [cell_set_ne (by omega)]
    exact e.2 j u hj⟩
theorem Grow.set {j : Nat} {μ μ2 : Sto} (e : Grow j μ μ2) {k : Nat} (hk : μ.length ≤ k) (o : O) : Grow j μ (μ2.set k o) :=
  ⟨by rw [List.length_set]; exact e.1, fun i u hj hi => by
    have := cell_lt hi
    rw [cell_set_ne (by omega)]
    exact e.2 i u hj hi⟩
theorem Jar.set {μ : Sto} {j k : Nat} {B : Int} (h : Jar μ j B) (hk : k ≠ j) (o : O) : Jar (μ.set k o) j B := by
  obtain ⟨a, m, c, h1, h2⟩ := h
  refine ⟨a, m, c, ?_, h2⟩
  rw [← h1]
  unfold lstAt
  rw [cell_set_ne (Ne.symm hk)]
/-! ### the kind of a number -/
/-- a is below 0, and a / b is -4 times a fourth power -/
def Four (a b : Int) : Prop := a < 0 ∧ ∃ r s : Nat, r ^ 4 = fourTop a b ∧ s ^ 4 = fourBot a b
def IsNumX (a b : Int) : Prop := a ≠ 0 ∧ 1 ≤ b ∧ Int.gcd a b = 1 ∧ a.natAbs < 2 ^ 125 ∧ b < 2 ^ 125
theorem IsNum.x {a b : Int} (h : IsNum a b) : IsNumX a b := by
  obtain ⟨h1, h2, h3, h4, h5⟩ := h
  have l : (1000000000000000000000000000000 : Nat) < 2 ^ 125 := by decide +kernel
  have l125 : ((2 ^ 125 : Nat) : Int) = (2 : Int) ^ 125 := by rw [Int.natCast_pow] <;> rfl
  exact ⟨h1, h2, h3, by omega, by omega⟩
theorem FourP.ofFour {a b : Int} {P : D → Prop} (h0 : a ≠ 0) (h : ∀ d, (HD.isNon d = true ↔ ¬ Four a b) → (d = .non ∨ ∃ r s : Nat, d = .tup [.int (r : Int), .int (s : Int)]) → P d) : FourP a b P :=
  ⟨fun p => h .non ⟨fun _ z => by have := z.1; omega, fun _ => rfl⟩ (.inl rfl), fun n => ⟨fun r s hr hs => h _ ⟨fun z => (by cases z), fun z => absurd ⟨n, r, s, hr, hs⟩ z⟩ (.inr ⟨r, s, rfl⟩), fun no => h .non ⟨fun _ z => by
    obtain ⟨_, r, s, hr, hs⟩ := z
    exact no r s hr hs, fun _ => rfl⟩ (.inl rfl)⟩⟩
/-! ### lists of integers from 0 on, as data -/
def natD (l : List Nat) : List D := l.map fun (p : Nat) => D.int (p : Int)
theorem natD_app (l : List Nat) (p : Nat) : natD (l ++ [p]) = natD l ++ [D.int (p : Int)] := by
  unfold natD
  rw [List.map_append]
  rfl
theorem natD_ints (l : List Nat) : natD l = (l.map Int.ofNat).map D.int := by
  unfold natD
  rw [List.map_map]
  rfl
theorem natD_len (l : List Nat) : (natD l).length = l.length := by
  unfold natD
  rw [List.length_map]
def natP (l : List Nat) : List PyData := l.map fun (p : Nat) => PyData.int (p : Int)
theorem py_nats {μ : Sto} : ∀ l : List Nat, PyAll μ (natD l) (natP l)
  | [] => .nil
  | p :: l => .cons (.int _) (py_nats l)
theorem lay_nats : ∀ l : List Nat, PyData.canLayAll0 (natP l) = true ∧ PyData.depthAll (natP l) = 0
  | [] => ⟨rfl, rfl⟩
  | p :: l => by
    obtain ⟨a, b⟩ := lay_nats l
    refine ⟨?_, ?_⟩
    · show ((PyData.int (p : Int)).canLay0 && PyData.canLayAll0 (natP l)) = true
      rw [a]
      rfl
    · show max 0 (PyData.depthAll (natP l)) = 0
      rw [b]
      rfl
theorem shaped_nats (l : List Nat) : SeqAt.shaped (.tuple (natP l)) = true ∧ SeqAt.shaped (.list (natP l)) = true := by
  obtain ⟨a, b⟩ := lay_nats l
  unfold SeqAt.shaped
  refine ⟨?_, ?_⟩
  · show (PyData.canLayAll0 (natP l) && decide (PyData.depthAll (natP l) + 1 ≤ 64)) = true
    rw [a, b]
    rfl
  · show (PyData.canLayAll0 (natP l) && decide (PyData.depthAll (natP l) + 1 ≤ 64)) = true
    rw [a, b]
    rfl
/-! ### comprehensions whose turns let the store grow -/
theorem lc_ext {i : Nat} {wt : WT} {we : WE} {δ : En} {n : Nat} {item : Nat → D} {ok : Sto → Prop} {μ : Sto} {P : D → Sto → Prop} (keep : Nat → Bool) (val : Nat → D) (hn : n ≤ 1000) (hok : ∀ μ', Ext μ μ' → ok μ')
    (ht : ∀ (j : Nat) (μ' : Sto) (Q : Bool → Sto → Prop), j < n → Ext μ μ' → (∀ μ'', Ext μ' μ'' → Q (keep j) μ'') → wt R0 (put δ i (some (item j))) μ' Q)
    (he : ∀ (j : Nat) (μ' : Sto) (Q : D → Sto → Prop), j < n → keep j = true → Ext μ μ' → (∀ μ'', Ext μ' μ'' → Q (val j) μ'') → we R0 (put δ i (some (item j))) μ' Q)
    (hP : ∀ μ', Ext μ μ' → lstAt μ' μ.length = some (((List.range n).filter keep).map val) → P (.ref μ.length) μ') : lcAll i wt we δ n item ok μ P := by
  refine ⟨fun j acc μ' => acc = ((List.range j).filter keep).map val ∧ Ext μ μ', ⟨rfl, Ext.app _ _⟩, ?_, ?_⟩
  · rintro j acc μ' hj hc ⟨rfl, e1⟩
    refine ⟨hok μ' e1, ?_⟩
    unfold lcTurn
    refine ht j μ' _ hj e1 fun μ2 e2 => ?_
    cases hk : keep j with
    | false =>
      refine ⟨e2.2 _ _ hc, ?_, e1.trans e2⟩
      rw [List.range_succ, List.filter_append, List.filter_cons, hk]
      simp
    | true =>
      refine he j μ2 _ hj hk (e1.trans e2) fun μ3 e3 => ⟨⟨(e2.trans e3).2 _ _ hc, ?_⟩, ?_, ((e1.trans e2).trans e3).set (Nat.le_refl _) _⟩
      · have := List.length_filter_le keep (List.range j)
        rw [List.length_range] at this
        rw [List.length_map]
        omega
      · rw [List.range_succ, List.filter_append, List.filter_cons, hk]
        simp
  · rintro acc μ' hc ⟨rfl, e1⟩
    exact ⟨hok μ' e1, hP μ' e1 (lstAt_of hc)⟩
theorem range_nats (L : List Nat) : (List.range L.length).map (fun m => L.getD m 0) = L := by
  refine List.ext_getElem (by simp) fun m h1 h2 => ?_
  simp [List.getElem?_eq_getElem h2]
theorem lc_nats {i : Nat} {wt : WT} {we : WE} {δ : En} {L : List Nat} {ok : Sto → Prop} {μ : Sto} {P : D → Sto → Prop} (keep : Nat → Bool) (val : Nat → D) (hn : L.length ≤ 1000) (hok : ∀ μ', Ext μ μ' → ok μ')
    (ht : ∀ p, p ∈ L → ∀ (μ' : Sto) (Q : Bool → Sto → Prop), Ext μ μ' → (∀ μ'', Ext μ' μ'' → Q (keep p) μ'') → wt R0 (put δ i (some (.int (p : Int)))) μ' Q)
    (he : ∀ p, p ∈ L → ∀ (μ' : Sto) (Q : D → Sto → Prop), keep p = true → Ext μ μ' → (∀ μ'', Ext μ' μ'' → Q (val p) μ'') → we R0 (put δ i (some (.int (p : Int)))) μ' Q)
    (hP : ∀ μ', Ext μ μ' → lstAt μ' μ.length = some ((L.filter keep).map val) → P (.ref μ.length) μ') : lcAll i wt we δ (natD L).length (fun m => (natD L).getD m .non) ok μ P := by
  have item : ∀ j, j < L.length → (natD L).getD j .non = .int ((L.getD j 0 : Nat) : Int) ∧ L.getD j 0 ∈ L := fun j hj => by
    unfold natD
    rw [List.getD_eq_getElem?_getD, List.getElem?_map, List.getD_eq_getElem?_getD, List.getElem?_eq_getElem hj]
    exact ⟨rfl, List.getElem_mem hj⟩
  rw [natD_len]
  refine lc_ext (fun m => keep (L.getD m 0)) (fun m => val (L.getD m 0)) hn hok (fun j μ' Q hj e1 q => ?_) (fun j μ' Q hj hk e1 q => ?_) fun μ' e1 hl => hP μ' e1 ?_
  · obtain ⟨e, m⟩ := item j hj
    rw [e]
    exact ht _ m μ' Q e1 q
  · obtain ⟨e, m⟩ := item j hj
    rw [e]
    exact he _ m μ' Q hk e1 q
  · rw [hl]
    congr 1
    rw [show (fun m => val (L.getD m 0)) = val ∘ (fun m => L.getD m 0) from rfl, ← List.map_map, show (fun m => keep (L.getD m 0)) = keep ∘ (fun m => L.getD m 0) from rfl, ← List.filter_map, range_nats]
theorem ints_natsP {l : List Nat} {ms : List Int} (h : ∀ k, k ∈ ms ↔ k ∈ l.map Int.ofNat) : ∃ L : List Nat, ms = L.map Int.ofNat ∧ ∀ p, p ∈ L ↔ p ∈ l := by
  have nn : ∀ k ∈ ms, ∃ p : Nat, k = Int.ofNat p := fun k hk => by
    obtain ⟨p, _, e⟩ := List.mem_map.mp ((h k).mp hk)
    exact ⟨p, e.symm⟩
  refine ⟨ms.map Int.toNat, ?_, fun p => ?_⟩
  · rw [List.map_map]
    refine (List.map_id ms).symm.trans (List.map_congr_left fun k hk => ?_)
    obtain ⟨p, rfl⟩ := nn k hk
    rfl
  · constructor
    · intro z
      obtain ⟨k, hk, e⟩ := List.mem_map.mp z
      obtain ⟨q, hq, e2⟩ := List.mem_map.mp ((h k).mp hk)
      subst e2
      have : q = p := e
      exact this ▸ hq
    · intro z
      exact List.mem_map.mpr ⟨Int.ofNat p, (h _).mpr (List.mem_map.mpr ⟨p, z, rfl⟩), rfl⟩
theorem asc_nats {L : List Nat} (h : (L.map Int.ofNat).Pairwise (· < ·)) : L.Pairwise (· < ·) := by
  rw [List.pairwise_map] at h
  exact h.imp fun z => Int.ofNat_lt.mp z
/-! ### the greatest divisor of n that is an exponent of v -/
def GPow (v n r e : Nat) : Prop := r ^ e = v ∧ e ∣ n ∧ ∀ m s : Nat, m ∣ n → s ^ m = v → m ∣ e
theorem GPow.one (n : Nat) : GPow 1 n 1 n := ⟨Nat.one_pow n, Nat.dvd_refl n, fun m _ h _ => h⟩
theorem GPow.exp {v n r e r' e' : Nat} (h : GPow v n r e) (g : GPow v n r' e') : e = e' := Nat.dvd_antisymm (g.2.2 e r h.2.1 h.1) (h.2.2 e' r' g.2.1 g.1)
theorem GPow.pos {v n r e : Nat} (h : GPow v n r e) (hv : v ≠ 1) : 1 ≤ e := Nat.pos_of_ne_zero fun z => hv (by rw [← h.1, z, Nat.pow_zero])
def SqF (c : Nat) : Prop := ∀ p, IsPr p → ¬ p * p ∣ c
theorem SqF.of_dvd {c d : Nat} (h : SqF c) (hd : d ∣ c) : SqF d := fun p hp z => h p hp (Nat.dvd_trans z hd)
theorem pr_cop {p x : Nat} (hp : IsPr p) (h : ¬ p ∣ x) : Nat.gcd p x = 1 := by
  rcases hp.2 _ (Nat.gcd_dvd_left p x) with g | g
  · exact g
  · exact absurd (g ▸ Nat.gcd_dvd_right p x) h
theorem sqf_dvd : ∀ c : Nat, 1 ≤ c → SqF c → ∀ x : Nat, (∀ p, IsPr p → p ∣ c → p ∣ x) → c ∣ x := by
  intro c
  induction c using Nat.strongRecOn with
  | _ c ih =>
    intro hc hs x hx
    by_cases h1 : c = 1
    · rw [h1]
      exact Nat.one_dvd x
    · obtain ⟨p, hp, d, rfl⟩ := pr_dvd c (by omega)
      have p2 := hp.1
      have d1 : 1 ≤ d := Nat.pos_of_ne_zero fun z => by
        rw [z, Nat.mul_zero] at hc
        omega
      have np : ¬ p ∣ d := fun z => hs p hp (Nat.mul_dvd_mul_left p z)
      have lt : d < p * d := by
        have : 2 * d ≤ p * d := Nat.mul_le_mul_right d p2
        omega
      have hd := ih d lt d1 (hs.of_dvd (Nat.dvd_mul_left d p)) x fun q hq hqd => hx q hq (Nat.dvd_trans hqd (Nat.dvd_mul_left d p))
      exact Nat.Coprime.mul_dvd_of_dvd_of_dvd (pr_cop hp np) (hx p hp (Nat.dvd_mul_right p d)) hd
theorem val_eq {p u w i j : Nat} (hp : IsPr p) (hu : ¬ p ∣ u) (hw : ¬ p ∣ w) (h : p ^ i * u = p ^ j * w) : i = j := by
  have p0 : 0 < p := by
    have := hp.1
    omega
  have key : ∀ {i j u w : Nat}, ¬ p ∣ u → p ^ i * u = p ^ j * w → ¬ i < j := fun {i j u w} hu h z => by
    obtain ⟨k, rfl⟩ : ∃ k, j = i + (k + 1) := ⟨j - i - 1, by omega⟩
    rw [Nat.pow_add, Nat.mul_assoc] at h
    have := Nat.eq_of_mul_eq_mul_left (Nat.pow_pos p0) h
    exact hu (by rw [this, Nat.pow_succ, Nat.mul_comm (p ^ k) p, Nat.mul_assoc]; exact Nat.dvd_mul_right _ _)
  have a := key hu h
  have b := key hw h.symm
  omega
theorem val_of {p : Nat} (hp : IsPr p) : ∀ s : Nat, 1 ≤ s → ∃ a b, s = p ^ a * b ∧ ¬ p ∣ b := by
  intro s
  induction s using Nat.strongRecOn with
  | _ s ih =>
    intro hs
    by_cases h : p ∣ s
    · obtain ⟨t, rfl⟩ := h
      have p2 := hp.1
      have t1 : 1 ≤ t := Nat.pos_of_ne_zero fun z => by
        rw [z, Nat.mul_zero] at hs
        omega
      have lt : t < p * t := by
        have : 2 * t ≤ p * t := Nat.mul_le_mul_right t p2
        omega
      obtain ⟨a, b, e, n⟩ := ih t lt t1
      exact ⟨a + 1, b, by rw [Nat.pow_succ, Nat.mul_comm (p ^ a) p, Nat.mul_assoc, ← e], n⟩
    · exact ⟨0, s, by rw [Nat.pow_zero, Nat.one_mul], h⟩
/-- what is divided out: the exponents of the whole are those of both -/
theorem out_pow {c t x y m s : Nat} (hc : 2 ≤ c) (hs : SqF c) (ht : 1 ≤ t) (hy : ¬ c ∣ y) (hx : x = c ^ t * y) (h : s ^ m = x) : m ∣ t ∧ ∃ u, u ^ m = y := by
  have y1 : 1 ≤ y := Nat.pos_of_ne_zero fun z => hy (by rw [z]; exact Nat.dvd_zero c)
  obtain ⟨p, hp, hpc, hpy⟩ : ∃ p, IsPr p ∧ p ∣ c ∧ ¬ p ∣ y := by
    refine Classical.byContradiction fun z => hy (sqf_dvd c (by omega) hs y fun p hp hpc => ?_)
    exact Classical.byContradiction fun w => z ⟨p, hp, hpc, w⟩
  obtain ⟨d, rfl⟩ := hpc
  have np : ¬ p ∣ d := fun z => hs p hp (Nat.mul_dvd_mul_left p z)
  have x1 : 1 ≤ x := by
    rw [hx]
    exact Nat.mul_pos (Nat.pow_pos (by omega)) y1
  have m0 : m ≠ 0 := fun z => by
    rw [z, Nat.pow_zero] at h
    rw [← h] at hx
    have : p * d ∣ 1 := by
      rw [hx]
      exact Nat.dvd_trans (Nat.dvd_trans (by rw [Nat.pow_one]; exact Nat.dvd_refl _) (Nat.pow_dvd_pow (p * d) ht)) (Nat.dvd_mul_right _ _)
    have := Nat.le_of_dvd (by decide) this
    omega
  have s1 : 1 ≤ s := Nat.pos_of_ne_zero fun z => by
    rw [z, Nat.zero_pow (by omega)] at h
    omega
  obtain ⟨a, b, rfl, nb⟩ := val_of hp s s1
  have nb' : ¬ p ∣ b ^ m := fun z => nb (pr_pow hp z)
  have nu : ¬ p ∣ d ^ t * y := fun z => (pr_mul hp z).elim (fun z => np (pr_pow hp z)) hpy
  have e : p ^ t * (d ^ t * y) = p ^ (a * m) * b ^ m := by
    rw [Nat.pow_mul, ← Nat.mul_pow, h, hx, Nat.mul_pow, Nat.mul_assoc]
  have et := val_eq hp nu nb' e
  have dv : (p * d) ^ a ∣ p ^ a * b := by
    refine (Nat.pow_dvd_pow_iff m0).mp ?_
    rw [← Nat.pow_mul, ← et, h, hx]
    exact Nat.dvd_mul_right _ _
  obtain ⟨u, hu⟩ := dv
  refine ⟨⟨a, by rw [et, Nat.mul_comm]⟩, u, ?_⟩
  rw [hu, Nat.mul_pow, ← Nat.pow_mul, ← et, hx] at h
  exact Nat.eq_of_mul_eq_mul_left (Nat.pow_pos (by omega)) h
theorem in_pow {c t x y m u : Nat} (hx : x = c ^ t * y) (hm : m ∣ t) (h : u ^ m = y) : ∃ s, s ^ m = x := by
  obtain ⟨k, rfl⟩ := hm
  exact ⟨c ^ k * u, by rw [Nat.mul_pow, ← Nat.pow_mul, Nat.mul_comm k m, h, hx]⟩
/-! ### small primes -/
def SMALL : List Nat := [2, 3, 5, 7, 11, 13, 17, 19, 23, 29, 31, 37, 41, 43, 47, 53, 59, 61, 67, 71, 73, 79, 83, 89, 97, 101, 103, 107, 109, 113, 127, 131, 137, 139, 149, 151, 157, 163, 167, 173, 179, 181, 191, 193, 197, 199, 211, 223, 227, 229, 233, 239, 241, 251]
def SML : Nat := SMALL.foldr (· * ·) 1
theorem small_pr : ∀ p ∈ SMALL, IsPr p := by
  have h : (SMALL.all fun p => decide (2 ≤ p) && (List.range p).all fun d => decide (d < 2) || p % d != 0) = true := by decide +kernel
  intro p hp
  have q := List.all_eq_true.mp h p hp
  rw [Bool.and_eq_true] at q
  exact pr_of (of_decide_eq_true q.1) q.2
theorem pr_foldr {p : Nat} (hp : IsPr p) : ∀ l : List Nat, p ∣ l.foldr (· * ·) 1 → ∃ q ∈ l, p ∣ q
  | [], h => by
    have := Nat.le_of_dvd (by decide) (show p ∣ 1 from h)
    have := hp.1
    omega
  | q :: l, h => by
    rcases pr_mul hp (show p ∣ q * l.foldr (· * ·) 1 from h) with z | z
    · exact ⟨q, List.mem_cons_self, z⟩
    · obtain ⟨r, hr, hd⟩ := pr_foldr hp l z
      exact ⟨r, List.mem_cons_of_mem _ hr, hd⟩
theorem sml_sqf : SqF SML := fun p hp z => by
  obtain ⟨q, hq, hd⟩ := pr_foldr hp SMALL (Nat.dvd_trans (Nat.dvd_mul_right p p) z)
  have e := pr_eq hp (small_pr q hq) hd
  subst e
  have h : (SMALL.all fun p => SML % (p * p) != 0) = true := by decide +kernel
  have := List.all_eq_true.mp h p hq
  rw [Nat.mod_eq_zero_of_dvd z] at this
  simp at this
theorem sml_great {v u : Nat} (hv : Nat.gcd v SML = 1) (hu : u ∣ v) (h1 : u ≠ 1) (h0 : 1 ≤ u) : 256 < u := by
  refine Nat.lt_of_not_le fun z => ?_
  have h : ((List.range 257).all fun u => decide (u < 2) || Nat.gcd u SML != 1) = true := by decide +kernel
  have q := List.all_eq_true.mp h u (List.mem_range.mpr (by omega))
  have g : Nat.gcd u SML = 1 := by
    have : Nat.gcd u SML ∣ Nat.gcd v SML := Nat.dvd_gcd (Nat.dvd_trans (Nat.gcd_dvd_left _ _) hu) (Nat.gcd_dvd_right _ _)
    rw [hv] at this
    exact Nat.dvd_one.mp this
  rw [g] at q
  simp at q
  omega
/-! ### tables of rests -/
def RTAB : List (Nat × Nat × List Nat) := [(2, 240, [1, 49, 121, 169]), (3, 819, [1, 8, 64, 118, 125, 181, 190, 307, 512, 629, 638, 694, 701, 755, 811, 818]), (5, 341, [1, 32, 56, 67, 87, 98, 243, 254, 274, 285, 309, 340]), (7, 43, [1, 6, 7, 36, 37, 42]), (11, 23, [1, 22]), (13, 53, [1, 23, 30, 52])]
def rrowOk (t : Nat × Nat × List Nat) : Bool := decide (2 ≤ t.1) && (decide (t.1 ≤ 13) && (decide (0 < t.2.1) && (decide (t.2.1 < 1000) && (((List.range t.1).all fun d => decide (d < 2) || t.1 % d != 0) && (List.range t.2.1).all fun r => (Nat.gcd (Nat.gcd r t.2.1) SML != 1) || t.2.2.contains (r ^ t.1 % t.2.1)))))
theorem rtab_ok : RTAB.all rrowOk = true := by decide +kernel
theorem rrow_ok {t : Nat × Nat × List Nat} (h : t ∈ RTAB) : IsPr t.1 ∧ t.1 ≤ 13 ∧ 0 < t.2.1 ∧ t.2.1 < 1000 ∧ ∀ r : Nat, r < t.2.1 → Nat.gcd (Nat.gcd r t.2.1) SML = 1 → t.2.2.contains (r ^ t.1 % t.2.1) = true := by
  have q := List.all_eq_true.mp rtab_ok t h
  unfold rrowOk at q
  rw [Bool.and_eq_true, Bool.and_eq_true, Bool.and_eq_true, Bool.and_eq_true, Bool.and_eq_true] at q
  obtain ⟨q1, q2, q3, q4, q5, q6⟩ := q
  refine ⟨pr_of (of_decide_eq_true q1) q5, of_decide_eq_true q2, of_decide_eq_true q3, of_decide_eq_true q4, fun r hr hg => ?_⟩
  have := List.all_eq_true.mp q6 r (List.mem_range.mpr hr)
  rw [hg] at this
  simpa using this
/-- a power of what no small prime divides leaves one of the rests -/
theorem rrest_in {t : Nat × Nat × List Nat} (h : t ∈ RTAB) {u : Nat} (hu : Nat.gcd u SML = 1) : (t.2.2.map Int.ofNat).contains (((u ^ t.1 : Nat) : Int) % (t.2.1 : Int)) = true := by
  obtain ⟨_, _, h3, _, h4⟩ := rrow_ok h
  have g : Nat.gcd (Nat.gcd (u % t.2.1) t.2.1) SML = 1 := by
    have e : Nat.gcd (u % t.2.1) t.2.1 = Nat.gcd u t.2.1 := by
      rw [Nat.gcd_comm u, ← Nat.gcd_rec t.2.1 u] <;> rfl
    rw [e]
    have : Nat.gcd (Nat.gcd u t.2.1) SML ∣ Nat.gcd u SML := Nat.dvd_gcd (Nat.dvd_trans (Nat.gcd_dvd_left _ _) (Nat.gcd_dvd_left _ _)) (Nat.gcd_dvd_right _ _)
    rw [hu] at this
    exact Nat.dvd_one.mp this
  have q := h4 (u % t.2.1) (Nat.mod_lt _ h3) g
  rw [← Nat.pow_mod] at q
  rw [← Int.natCast_emod]
  rw [List.contains_iff_mem] at q ⊢
  exact List.mem_map.mpr ⟨_, q, rfl⟩
theorem pow_cop {u q S : Nat} (hq : 1 ≤ q) (h : Nat.gcd (u ^ q) S = 1) : Nat.gcd u S = 1 := by
  have d : Nat.gcd u S ∣ Nat.gcd (u ^ q) S := Nat.dvd_gcd (Nat.dvd_trans (Nat.gcd_dvd_left _ _) (by
    have := Nat.pow_dvd_pow u hq
    rwa [Nat.pow_one] at this)) (Nat.gcd_dvd_right _ _)
  rw [h] at d
  exact Nat.dvd_one.mp d
/-- the end of the search: no prime of n is an exponent of what is left -/
theorem rough_end {v x n e k : Nat} (hv : x ^ e = v) (he : 1 ≤ e) (x1 : x ≠ 1) (hk : k = n * e) (no : ∀ q, IsPr q → q ∣ n → ∀ u, u ^ q ≠ x) : GPow v k x e := by
  refine ⟨hv, by rw [hk]; exact Nat.dvd_mul_left e n, fun m s hm hs => ?_⟩
  obtain ⟨g, hg⟩ : ∃ g, Nat.gcd m e = g := ⟨_, rfl⟩
  have g0 : 0 < g := by rw [← hg]; exact Nat.gcd_pos_of_pos_right _ he
  obtain ⟨p, hp⟩ : g ∣ e := by rw [← hg]; exact Nat.gcd_dvd_right _ _
  obtain ⟨q, hq⟩ : g ∣ m := by rw [← hg]; exact Nat.gcd_dvd_left _ _
  have cop : Nat.gcd q p = 1 := by
    have z : Nat.gcd (g * q) (g * p) = g * Nat.gcd q p := Nat.gcd_mul_left g q p
    rw [← hp, ← hq, hg] at z
    exact Nat.eq_of_mul_eq_mul_left g0 (by rw [Nat.mul_one, ← z])
  have e1 : x ^ p = s ^ q := by
    refine root_eq (n := g) g0 ?_
    rw [← Nat.pow_mul, ← Nat.pow_mul, Nat.mul_comm p, Nat.mul_comm q, ← hp, ← hq, hv, hs]
  have p1 : 1 ≤ p := Nat.pos_of_ne_zero fun z => by rw [z, Nat.mul_zero] at hp; omega
  have qn : q ∣ n := by
    have : g * q ∣ g * (n * p) := by
      rw [← hq, Nat.mul_left_comm, ← hp, ← hk]
      exact hm
    exact Nat.Coprime.dvd_of_dvd_mul_right cop ((Nat.mul_dvd_mul_iff_left g0).mp this)
  by_cases q1 : q = 1
  · rw [hq, q1, Nat.mul_one, hp]
    exact Nat.dvd_mul_right g p
  · exfalso
    by_cases q0 : q = 0
    · rw [q0, Nat.pow_zero] at e1
      have : x = 1 := root_eq p1 (by rw [e1, Nat.one_pow])
      exact x1 this
    · obtain ⟨r, hr, hd⟩ := pr_dvd q (by omega)
      obtain ⟨f, rfl⟩ := hd
      have x0 : 1 ≤ x := Nat.pos_of_ne_zero fun z => by
        rw [z, Nat.zero_pow p1] at e1
        have hs0 : s = 0 := Nat.eq_zero_of_not_pos fun y => by
          have := Nat.pow_pos (n := r * f) y
          omega
        have hm0 : 1 ≤ m := by
          rw [hq]
          exact Nat.mul_pos g0 (by omega)
        have := hr.1
        -- p and q without a common divisor: x is a power anyway
        exact no r hr (Nat.dvd_trans (Nat.dvd_mul_right r f) qn) 0 (by rw [z, Nat.zero_pow (by omega)])
      have s0 : 1 ≤ s := Nat.pos_of_ne_zero fun z => by
        rw [z, Nat.zero_pow (by omega)] at e1
        have := Nat.pow_pos (n := p) x0
        omega
      obtain ⟨t, ht, _⟩ := common_root (p + r * f) p (r * f) x s (Nat.le_refl _) p1 (by omega) (by rw [Nat.gcd_comm]; exact cop) x0 s0 e1
      exact no r hr (Nat.dvd_trans (Nat.dvd_mul_right r f) qn) (t ^ f) (by rw [← Nat.pow_mul, Nat.mul_comm f, ← ht])
/-- a power below 2 ** w with an exponent from w on is 1 -/
theorem pow_one {t n w c : Nat} (hc : 1 ≤ c) (hw : c < 2 ^ w) (hn : w ≤ n) (h : c = t ^ n) : c = 1 := by
  have t2 : t < 2 := Nat.lt_of_not_le fun z => by
    have q1 := Nat.pow_le_pow_left z n
    have q2 : (2 : Nat) ^ w ≤ 2 ^ n := Nat.pow_le_pow_right (by decide) hn
    omega
  have tl : t = 0 ∨ t = 1 := by omega
  rcases tl with e | e
  · subst e
    cases n with
    | zero => exact h
    | succ n =>
      rw [Nat.zero_pow (Nat.succ_pos n)] at h
      omega
  · rw [e, Nat.one_pow] at h
    exact h
theorem exp_lt {x y e A B w : Nat} (hx : 1 ≤ x) (hy : 1 ≤ y) (ne : x ≠ y) (ha : x ^ e = A) (hb : y ^ e = B) (aw : A < 2 ^ w) (bw : B < 2 ^ w) : e < w := by
  refine Nat.lt_of_not_le fun z => ?_
  have key : ∀ {c : Nat}, 2 ≤ c → c ^ e < 2 ^ w → False := fun {c} hc h => by
    have q1 := Nat.pow_le_pow_left hc e
    have q2 : (2 : Nat) ^ w ≤ 2 ^ e := Nat.pow_le_pow_right (by decide) z
    omega
  by_cases c : 2 ≤ x
  · exact key c (by rw [ha]; exact aw)
  · exact key (c := y) (by omega) (by rw [hb]; exact bw)
theorem pow_ge {x e : Nat} (he : 1 ≤ e) : x ≤ x ^ e := by
  cases Nat.eq_zero_or_pos x with
  | inl z => rw [z]; exact Nat.zero_le _
  | inr z => exact Nat.le_trans (Nat.le_of_eq (Nat.pow_one x).symm) (Nat.pow_le_pow_right z he)
theorem set_last (μ : Sto) (o u : O) : (μ ++ [o]).set μ.length u = μ ++ [u] := by
  rw [List.set_append_right _ _ (Nat.le_refl _), Nat.sub_self]
  rfl
theorem few_of {n v k : Nat} (h : 2 ^ k * v ≤ n) (hv : 1 ≤ v) (hn : n < 2 ^ 60) : k < 60 := by
  refine Nat.lt_of_not_le fun z => ?_
  have h1 : (2 : Nat) ^ 60 ≤ 2 ^ k := Nat.pow_le_pow_right (by decide) z
  have h2 : 2 ^ k * 1 ≤ 2 ^ k * v := Nat.mul_le_mul_left _ hv
  omega
theorem few_step {n v u q k : Nat} (h : 2 ^ k * v ≤ n) (hq : 2 ≤ q) (e : q * u ≤ v) : 2 ^ (k + 1) * u ≤ n := by
  have h1 : 2 * u ≤ v := Nat.le_trans (Nat.mul_le_mul_right u hq) e
  have h2 := Nat.mul_le_mul_left (2 ^ k) h1
  rw [Nat.pow_succ, Nat.mul_assoc]
  omega
theorem dvd_int {v q : Nat} : (v : Int) % (q : Int) = 0 ↔ q ∣ v := by
  rw [← Int.natCast_emod]
  exact ⟨fun h => Nat.dvd_of_mod_eq_zero (by omega), fun h => by rw [Nat.mod_eq_zero_of_dvd h] <;> rfl⟩
theorem s136 : (1000000000000000000000000000000 : Nat) < 2 ^ 136 := by decide +kernel
theorem lt_big {v a b : Nat} (h : v < 2 ^ a) (hab : a ≤ b) : v < 2 ^ b := Nat.lt_of_lt_of_le h (Nat.pow_le_pow_right (by decide) hab)
theorem divOk60 {q : Nat} (h : 1 ≤ q) (h2 : q < 2 ^ 130) : DivOk (q : Int) := divOk (by omega) (by
  have e : ((2 ^ 8000 : Nat) : Int) = (2 : Int) ^ 8000 := by rw [Int.natCast_pow] <;> rfl
  have l : (2 : Nat) ^ 130 < 2 ^ 8000 := Nat.pow_lt_pow_right (by decide) (by decide)
  omega)
theorem divOkN {n a : Nat} (h1 : 1 ≤ n) (h : n < 2 ^ a) (ha : a ≤ 8000) : DivOk (n : Int) := divOk (by omega) (by
  have e : ((2 ^ 8000 : Nat) : Int) = (2 : Int) ^ 8000 := by rw [Int.natCast_pow] <;> rfl
  rw [← e]
  exact Int.ofNat_lt.mpr (lt_big h ha))
/-! ### kinds -/
def GoodPrimes (l : List Nat) : Prop := l.Pairwise (· < ·) ∧ (∀ p ∈ l, IsPr p ∧ p ≤ 997) ∧ l.length ≤ 200
def primD : Option (List Nat) → D
  | none => .str "all"
  | some l => .tup (natD l)
def kindD (sg : Int) (ps : Option (List Nat)) (f : Bool) : D := .tup [.int sg, primD ps, .bl f]
def primsOk (sg : Int) (f : Bool) : Option (List Nat) → Prop
  | none => f = false
  | some l => GoodPrimes l ∧ (sg = -1 → 2 ∉ l)
def IsKind (sg : Int) (ps : Option (List Nat)) (f : Bool) : Prop := (sg = 1 ∨ sg = -1) ∧ (sg = 1 → f = false) ∧ primsOk sg f ps
/-- there is an odd prime that divides n -/
def OddPr (n : Nat) : Prop := ∃ p, IsPr p ∧ p ∣ n ∧ 2 < p
def SplK (sg : Int) (ps : Option (List Nat)) (f : Bool) (n : Nat) : Prop := match ps with
  | none => (sg = 1 ∧ 1 < n) ∨ (sg = -1 ∧ OddPr n)
  | some l => (f = true ∧ n % 4 = 0) ∨ ∃ p, p ∈ l ∧ p ∣ n
def SaysB (b : Bool) (Q : Prop) : Prop := b = true ↔ Q
theorem odd_pr {n k m : Nat} (h : n = 2 ^ k * (2 * m + 1)) : 1 < 2 * m + 1 ↔ OddPr n := by
  constructor
  · intro z
    obtain ⟨p, hp, hd⟩ := pr_dvd (2 * m + 1) (by omega)
    refine ⟨p, hp, by rw [h]; exact Nat.dvd_trans hd (Nat.dvd_mul_left _ _), ?_⟩
    have h2 := hp.1
    refine Nat.lt_of_le_of_ne h2 fun e => ?_
    subst e
    omega
  · rintro ⟨p, hp, hd, h2⟩
    rw [h] at hd
    rcases pr_mul hp hd with z | z
    · have := pr_le (by decide) (pr_pow hp z)
      omega
    · have := pr_le (by omega) z
      omega
def KindOfN (a b : Int) (sg : Int) (ps : Option (List Nat)) (f : Bool) : Prop := sg = (if 0 < a then 1 else -1) ∧ match ps with
  | none => a.natAbs = b.natAbs ∧ f = false
  | some l => a.natAbs ≠ b.natAbs ∧ (f = true ↔ Four a b) ∧ ∃ x y e L, BaseIs a.natAbs b.natAbs x y e ∧ PrimesIs e L ∧ l = if 0 < a then L else L.filter fun p => decide (2 < p)
def SignedOk (a b : Int) (e : Nat) (f : Bool) : Prop := IsNum a b ∧ ((a.natAbs = b.natAbs ∧ e = 0 ∧ f = false) ∨ (a.natAbs ≠ b.natAbs ∧ (∃ x y, BaseIs a.natAbs b.natAbs x y e) ∧ (f = true ↔ Four a b)))
def ownP (sg : Int) (p : Nat) : Bool := decide (0 < sg) || decide (2 < p)
/-! ### kinds, shown -/
def primP : Option (List Nat) → PyData
  | none => .str "all"
  | some l => .tuple (natP l)
def kindP (sg : Int) (ps : Option (List Nat)) (f : Bool) : PyData := .tuple [.int sg, primP ps, .bool f]
theorem py_kind {μ : Sto} (sg : Int) (ps : Option (List Nat)) (f : Bool) : Py μ (kindD sg ps f) (kindP sg ps f) := by
  refine .tup (.cons (.int sg) (.cons ?_ (.cons (.bl f) .nil)))
  cases ps with
  | none => exact .str _
  | some l => exact .tup (py_nats l)
theorem shown_nats : ∀ l : List Nat, (∀ p ∈ l, p ≤ 997) → PySem.piled (PyData.shownAll (natP l)) ≤ 14 * l.length ∧ PyData.showableAll (natP l) = true
  | [], _ => ⟨Nat.le_refl 0, rfl⟩
  | p :: l, h => by
    obtain ⟨a, b⟩ := shown_nats l fun q hq => h q (List.mem_cons_of_mem _ hq)
    have hp := h p (List.mem_cons_self ..)
    have hl : (p : Int).natAbs.log2 < 10 := by
      rw [Int.natAbs_natCast]
      by_cases z : p = 0
      · subst z
        decide
      · exact (Nat.log2_lt z).mpr (by omega)
    have hs : (PyData.int (p : Int)).shown.length ≤ 11 := by
      show (Str.ofString (toString (p : Int))).length ≤ 11
      rw [PySem.ofString_length]
      exact int_text_length_le (by decide) hl
    constructor
    · show PySem.piled ((PyData.int (p : Int)).shown :: PyData.shownAll (natP l)) ≤ 14 * (l.length + 1)
      rw [PySem.piled_cons]
      omega
    · show (decide ((p : Int).natAbs.log2 < 1920) && PyData.showableAll (natP l)) = true
      rw [b, decide_eq_true (by omega)]
      rfl
theorem tup_len (ts : List Str) : (PySem.tupleText ts).length ≤ PySem.piled ts + 4 := by
  unfold PySem.tupleText
  rw [Str.length_append, Str.length_append]
  have e1 : (Str.ofString "(").length = 1 := rfl
  have e2 : (Str.ofString (if (ts.length == 1) = true then ",)" else ")")).length ≤ 2 := by split <;> decide
  rw [e1]
  cases ts with
  | nil =>
    have e3 : (Str.join ", " []).length = 0 := rfl
    rw [e3]
    have : PySem.piled [] = 0 := rfl
    omega
  | cons t ts =>
    have j := PySem.join_length_add (t :: ts) (by simp)
    omega
theorem show_kind {sg : Int} {ps : Option (List Nat)} {f : Bool} (h : IsKind sg ps f) : (kindP sg ps f).showable = true ∧ (kindP sg ps f).depth ≤ 50 ∧ (kindP sg ps f).shown.length ≤ 5000 := by
  obtain ⟨h1, _, h3⟩ := h
  have hs : (PyData.int sg).showable = true ∧ (PyData.int sg).shown.length ≤ 10 := by
    rcases h1 with rfl | rfl
    · exact ⟨rfl, by decide +kernel⟩
    · exact ⟨rfl, by decide +kernel⟩
  have hb : (PyData.bool f).shown.length ≤ 10 := by cases f <;> decide +kernel
  have hp : (primP ps).showable = true ∧ (primP ps).depth ≤ 1 ∧ (primP ps).shown.length ≤ 2900 := by
    cases ps with
    | none => exact ⟨rfl, by decide, by decide +kernel⟩
    | some l =>
      obtain ⟨⟨g1, g2, g3⟩, _⟩ := h3
      obtain ⟨a, b⟩ := shown_nats l fun p hp => (g2 p hp).2
      refine ⟨b, ?_, ?_⟩
      · show PyData.depthAll (natP l) + 1 ≤ 1
        rw [(lay_nats l).2]
        exact Nat.le_refl 1
      · show (PySem.tupleText (PyData.shownAll (natP l))).length ≤ 2900
        have := tup_len (PyData.shownAll (natP l))
        omega
  refine ⟨?_, ?_, ?_⟩
  · show ((PyData.int sg).showable && ((primP ps).showable && (true && true))) = true
    rw [hs.1, hp.1]
    rfl
  · show max 0 (max (primP ps).depth (max 0 0)) + 1 ≤ 50
    have := hp.2.1
    omega
  · show (PySem.tupleText [(PyData.int sg).shown, (primP ps).shown, (PyData.bool f).shown]).length ≤ 5000
    have q := tup_len [(PyData.int sg).shown, (primP ps).shown, (PyData.bool f).shown]
    rw [PySem.piled_cons, PySem.piled_cons, PySem.piled_cons, PySem.piled_nil] at q
    have := hs.2
    have := hp.2.2
    omega
theorem KindOfN.eq {a b sg sg' : Int} {ps ps' : Option (List Nat)} {f f' : Bool} (h : KindOfN a b sg ps f) (g : KindOfN a b sg' ps' f') : sg = sg' ∧ ps = ps' ∧ f = f' := by
  obtain ⟨h1, h2⟩ := h
  obtain ⟨g1, g2⟩ := g
  refine ⟨h1.trans g1.symm, ?_⟩
  cases ps with
  | none =>
    cases ps' with
    | none => exact ⟨rfl, h2.2.trans g2.2.symm⟩
    | some l' => exact absurd h2.1 g2.1
  | some l =>
    cases ps' with
    | none => exact absurd g2.1 h2.1
    | some l' =>
      obtain ⟨_, f1, x, y, e, L, b1, p1, e1⟩ := h2
      obtain ⟨_, f2, x', y', e', L', b2, p2, e2⟩ := g2
      obtain ⟨_, _, ee⟩ := b1.same b2
      subst ee
      have eL := p1.eq p2
      subst eL
      exact ⟨by rw [e1, e2], by rw [Bool.eq_iff_iff, f1, f2]⟩
theorem wRepr_three {μ : Sto} {i : Nat} {d : D} {q : PyData} {P : D → Sto → Prop} (hl : lstAt μ i = some [d, d, d]) (hq : Py μ d q) (hs : q.showable = true) (hd : q.depth ≤ 50) (hn : q.shown.length ≤ 5000) (k : P (.str (PyData.list [q, q, q]).shown) μ) : wRepr [.ref i] μ P := by
  have line : 100000 ≤ sizeLine := by
    rw [sizeLine_eq]
    decide
  refine ⟨.list [q, q, q], .ref hl (.cons hq (.cons hq (.cons hq .nil))), ?_, ?_, ?_, k⟩
  · show (q.showable && (q.showable && (q.showable && true))) = true
    rw [hs] <;> rfl
  · show max q.depth (max q.depth (max q.depth 0)) + 1 ≤ 60
    omega
  · show (PySem.listText [q.shown, q.shown, q.shown]).length ≤ sizeLine
    have := list3_len q.shown q.shown q.shown
    omega
theorem SaysB.eq {a b : Bool} {Q : Prop} (h : SaysB a Q) (g : SaysB b Q) : a = b := by
  unfold SaysB at h g
  rw [Bool.eq_iff_iff, h, g]
theorem show_bool (b : Bool) : (PyData.bool b).showable = true ∧ (PyData.bool b).depth ≤ 50 ∧ (PyData.bool b).shown.length ≤ 5000 := by
  cases b
  · exact ⟨rfl, by decide, by decide +kernel⟩
  · exact ⟨rfl, by decide, by decide +kernel⟩
local macro_rules | `(tactic| walk_at "hd") => `(tactic| (simp only [wShlW, wShr, wSeq, wAsg, wPar, wPar3, wIfS, wRet, wRetN, wNext, wDrop, wOp, wVar, HD.wC, wCons, wNil, wTup, wLst, wIf, wNeg, wB, wAnd, wOr, HD.wNot, wAndV, wOrV, wNotV, wTruth, wBits, wChain, wCall, wCallK, wCallD, catD, wCB, wgName, wgTup, wgCons, wgEnd, wgSub, wSetL, wI, wI0, wAdd, wSub, wMul, wDiv, wMod, wPow, wShl, wLt, wLe, wGt, wGe, wEq, wNe, wIsN, wNotN, HD.isNon, wInI, wNotInI, wIsqrt, wBand, wTupOf, wBrk, wCnt, wIx, wAbs, wMax, wMin, wGcd, wInt, wStrI, wDivmod, wLen, lenOf, wIsi, tyOf, HD.ints1, HD.ints2, HD.ints3, wPart, wNoPart, wSlL, slot, put, startD, List.replicate, List.length_cons, List.length_nil, Nat.reduceAdd, Nat.zero_add, Option.map_some, and_true, true_and, at0, at1, at2, ix30, ix31, ix32, List.set_cons_zero, List.set_cons_succ]))
/-! ### when an equation splits -/
/-- p, a prime of n, is an exponent of a / b -/
def ExpOf (a b : Int) (n p : Nat) : Prop := IsPr p ∧ p ∣ n ∧ (0 < a ∨ 2 < p) ∧ ∃ x y e, BaseIs a.natAbs b.natAbs x y e ∧ p ∣ e
def SplN (a b : Int) (n : Nat) : Prop := (∃ p, ExpOf a b n p) ∨ (n % 4 = 0 ∧ Four a b)
theorem expOf_iff {a b : Int} {n p x y e : Nat} (hb : BaseIs a.natAbs b.natAbs x y e) : ExpOf a b n p ↔ IsPr p ∧ p ∣ n ∧ p ∣ e ∧ (0 < a ∨ 2 < p) := by
  constructor
  · rintro ⟨h1, h2, h3, x', y', e', hb', h4⟩
    obtain ⟨_, _, rfl⟩ := hb.same hb'
    exact ⟨h1, h2, h4, h3⟩
  · rintro ⟨h1, h2, h4, h3⟩
    exact ⟨h1, h2, h3, x, y, e, hb, h4⟩
def LeastExp (a b : Int) (n p : Nat) : Prop := ExpOf a b n p ∧ ∀ q, ExpOf a b n q → p ≤ q
theorem LeastExp.same {a b : Int} {n p q : Nat} (h : LeastExp a b n p) (g : LeastExp a b n q) : p = q := Nat.le_antisymm (h.2 q g.1) (g.2 p h.1)
def sgD (a : Int) (r : Nat) : Int := if 0 < a then (r : Int) else -(r : Int)
/-- what why tells -/
inductive Reason (a b : Int) (n : Nat) : D → Prop
  | power {p r s : Nat} : LeastExp a b n p → r ^ p = a.natAbs → s ^ p = b.natAbs → Reason a b n (.tup [.str "power", .int (p : Int), .tup [.int (sgD a r), .int (s : Int)]])
  | four {r s : Nat} : (∀ p, ¬ ExpOf a b n p) → n % 4 = 0 → a < 0 → r ^ 4 = fourTop a b → s ^ 4 = fourBot a b → Reason a b n (.tup [.str "four", .tup [.int (r : Int), .int (s : Int)]])
  | none : ¬ SplN a b n → Reason a b n .non
theorem Reason.same {a b : Int} {n : Nat} {d d' : D} (h : Reason a b n d) (g : Reason a b n d') : d = d' := by
  cases h with
  | @power p r s h1 h2 h3 =>
    cases g with
    | @power p' r' s' g1 g2 g3 =>
      have e := h1.same g1
      subst e
      have p1 : 1 ≤ p := by
        have := h1.1.1.1
        omega
      rw [root_eq p1 (h2.trans g2.symm), root_eq p1 (h3.trans g3.symm)]
    | four g1 _ _ _ _ => exact absurd h1.1 (g1 p)
    | none g1 => exact absurd (.inl ⟨p, h1.1⟩) g1
  | @four r s h1 h2 h3 h4 h5 =>
    cases g with
    | @power p' r' s' g1 g2 g3 => exact absurd g1.1 (h1 p')
    | @four r' s' g1 g2 g3 g4 g5 => rw [root_eq (n := 4) (by decide) (h4.trans g4.symm), root_eq (n := 4) (by decide) (h5.trans g5.symm)]
    | none g1 => exact absurd (.inr ⟨h2, h3, r, s, h4, h5⟩) g1
  | none h1 =>
    cases g with
    | @power p' r' s' g1 g2 g3 => exact absurd (.inl ⟨p', g1.1⟩) h1
    | @four r' s' g1 g2 g3 g4 g5 => exact absurd (.inr ⟨g2, g3, r', s', g4, g5⟩) h1
    | none g1 => rfl
theorem pr_odd {p : Nat} (h : IsPr p) (h2 : 2 < p) : p % 2 = 1 := by
  rcases Nat.mod_two_eq_zero_or_one p with z | z
  · rcases h.2 2 (Nat.dvd_of_mod_eq_zero z) with e | e
    · omega
    · omega
  · exact z
theorem root_is {a b : Int} {n p : Nat} (hn : IsNumX a b) (h : ExpOf a b n p) : ∃ r s : Nat, r ^ p = a.natAbs ∧ s ^ p = b.natAbs := by
  obtain ⟨h1, h2, h3, x, y, e, hb, f, rfl⟩ := h
  rcases hb with ⟨e1, _, _, _⟩ | ⟨_, _, e1, e2, _⟩
  · have g : Nat.gcd a.natAbs b.natAbs = 1 := hn.2.2.1
    rw [e1, Nat.gcd_self] at g
    exact ⟨1, 1, by rw [Nat.one_pow, e1, g], by rw [Nat.one_pow, g]⟩
  · exact ⟨x ^ f, y ^ f, by rw [← Nat.pow_mul, Nat.mul_comm f, e1], by rw [← Nat.pow_mul, Nat.mul_comm f, e2]⟩
/-- each fraction but 1 has a base and an exponent -/
theorem base_is {A B : Nat} (hA : 1 ≤ A) (hB : 1 ≤ B) (ne : A ≠ B) : ∃ x y k, BaseIs A B x y k := by
  have key : ∀ m : Nat, (∃ n r s : Nat, 1 ≤ n ∧ A + B ≤ n + m ∧ r ^ n = A ∧ s ^ n = B) → ∃ x y k, BaseIs A B x y k := by
    intro m
    induction m with
    | zero =>
      rintro ⟨n, r, s, hn, hm, hr, hs⟩
      exfalso
      have lt : ∀ c : Nat, c < 2 ^ c := fun c => Nat.lt_two_pow_self
      have pw : ∀ {t c : Nat}, 1 ≤ c → t ^ n = c → c < 2 ^ n → c = 1 := fun {t c} hc ht hl => by
        have t2 : t < 2 := Nat.lt_of_not_le fun z => by
          have := Nat.pow_le_pow_left z n
          omega
        have tt : t = 0 ∨ t = 1 := by omega
        rcases tt with z | z
        · rw [z, Nat.zero_pow hn] at ht
          omega
        · rw [z, Nat.one_pow] at ht
          exact ht.symm
      have := lt n
      exact ne ((pw hA hr (by omega)).trans (pw hB hs (by omega)).symm)
    | succ m ih =>
      rintro ⟨n, r, s, hn, hm, hr, hs⟩
      by_cases h : ∃ n' r' s' : Nat, n < n' ∧ r' ^ n' = A ∧ s' ^ n' = B
      · obtain ⟨n', r', s', h1, h2, h3⟩ := h
        exact ih ⟨n', r', s', by omega, by omega, h2, h3⟩
      · exact ⟨r, s, n, .inr ⟨ne, hn, hr, hs, fun n' r' s' h1 h2 h3 => h ⟨n', r', s', h1, h2, h3⟩⟩⟩
  exact key (A + B) ⟨1, A, B, Nat.le_refl 1, by omega, Nat.pow_one A, Nat.pow_one B⟩
def AlwaysN (a b : Int) : Prop := a.natAbs ≠ b.natAbs ∧ ¬ Four a b ∧ ∀ x y e p, BaseIs a.natAbs b.natAbs x y e → IsPr p → p ∣ e → ¬ (0 < a ∨ 2 < p)
theorem base_exp {A B x y e : Nat} (hA : 1 ≤ A) (hB : 1 ≤ B) (hA2 : A < 2 ^ 127) (hB2 : B < 2 ^ 127) (h : BaseIs A B x y e) : e < 127 ∧ (e = 0 ↔ A = B) := by
  rcases h with ⟨e1, _, _, e2⟩ | ⟨ne, hk, ha, hb, _⟩
  · exact ⟨by omega, fun _ => e1, fun _ => e2⟩
  · have pos : ∀ {t c : Nat}, 1 ≤ c → t ^ e = c → 1 ≤ t := fun {t c} hc q => Nat.pos_of_ne_zero fun z => by
      rw [z, Nat.zero_pow hk] at q
      omega
    have nxy : x ≠ y := fun z => ne (by rw [← ha, ← hb, z])
    exact ⟨exp_lt (pos hA ha) (pos hB hb) nxy ha hb hA2 hB2, fun z => by omega, fun z => absurd z ne⟩
/-! ### roots in the store -/
def rootO (C : Addr) (n a b : Nat) : O := .ins C [("_degree", .int (n : Int)), ("_number", .tup [.int (a : Int), .int (b : Int)])]
structure LeastForm (n a b : Nat) : Prop where
  n1 : 1 ≤ n
  n60 : n ≤ 60
  a1 : 1 ≤ a
  b1 : 1 ≤ b
  a30 : a ≤ 1000000000000000000000000000000
  b30 : b ≤ 1000000000000000000000000000000
  cop : Nat.gcd a b = 1
  least : ∀ m x y : Nat, m ∣ n → x ^ m = a → y ^ m = b → m = 1
theorem insAt_root {C : Addr} {μ : Sto} {k n a b : Nat} (h : cell μ k = some (rootO C n a b)) : insAt C μ (.ref k) := by
  show match cell μ k with | some (.ins C' _) => C' = C | _ => False
  rw [h]
  rfl
theorem insOk_root {C : Addr} {μ : Sto} {k n a b : Nat} {m : Str} (h : cell μ k = some (rootO C n a b)) (hm : List.lookup m [(("_degree" : Str), D.int (n : Int)), ("_number", .tup [.int (a : Int), .int (b : Int)])] = none) : insOk C m μ (.ref k) := by
  show match cell μ k with | some (.ins C' fs) => C' = C ∧ fs.lookup m = none | _ => False
  rw [h]
  exact ⟨rfl, hm⟩
theorem fld_deg {C : Addr} {R : XD} {δ : En} {μ : Sto} {P : D → Sto → Prop} {i k n a b : Nat} (hs : slot δ i = some (.ref k)) (h : cell μ k = some (rootO C n a b)) (hp : P (.int (n : Int)) μ) : wFld C "_degree" (wVar i) R δ μ P := by
  unfold wFld wVar
  rw [hs]
  show match cell μ k with | some (.ins C' fs) => C' = C ∧ (match fs.lookup ("_degree" : Str) with | some v => P v μ | none => False) | _ => False
  rw [h]
  exact ⟨rfl, hp⟩
theorem fld_num {C : Addr} {R : XD} {δ : En} {μ : Sto} {P : D → Sto → Prop} {i k n a b : Nat} (hs : slot δ i = some (.ref k)) (h : cell μ k = some (rootO C n a b)) (hp : P (.tup [.int (a : Int), .int (b : Int)]) μ) : wFld C "_number" (wVar i) R δ μ P := by
  unfold wFld wVar
  rw [hs]
  show match cell μ k with | some (.ins C' fs) => C' = C ∧ (match fs.lookup ("_number" : Str) with | some v => P v μ | none => False) | _ => False
  rw [h]
  exact ⟨rfl, hp⟩
theorem root_less {a b c d n m g : Nat} (hg : 1 ≤ g) (n' m' : Nat) (hn : n = g * n') (hm : m = g * m') : a ^ m' * d ^ n' < c ^ n' * b ^ m' ↔ a ^ m * d ^ n < c ^ n * b ^ m := by
  have e1 : a ^ m * d ^ n = (a ^ m' * d ^ n') ^ g := by rw [hn, hm, Nat.mul_pow, ← Nat.pow_mul, ← Nat.pow_mul, Nat.mul_comm m', Nat.mul_comm n']
  have e2 : c ^ n * b ^ m = (c ^ n' * b ^ m') ^ g := by rw [hn, hm, Nat.mul_pow, ← Nat.pow_mul, ← Nat.pow_mul, Nat.mul_comm m', Nat.mul_comm n']
  rw [e1, e2]
  exact ⟨fun h => Nat.pow_lt_pow_left h (by omega), fun h => Nat.lt_of_not_le fun z => by
    have := Nat.pow_le_pow_left z g
    omega⟩
/-- the root of a / b with n is less than that of c / d with m -/
def LessR (n a b m c d : Nat) : Prop := a ^ m * d ^ n < c ^ n * b ^ m
/-- a drawn root in the store: the exponents of 2, 3, 5, 7, and the degree -/
def Rooted (μ : Sto) (lo b r : Nat) (es : List Int) (d : Nat) : Prop := ∃ i, lo ≤ r ∧ lo ≤ i ∧ lstAt μ r = some [.ref i, .int (d : Int)] ∧ lstAt μ i = some (es.map .int) ∧ es.length = 4 ∧ (∀ e, e ∈ es → e.natAbs ≤ b) ∧ 1 ≤ d ∧ d ≤ 60
theorem Rooted.grow {μ μ' : Sto} {j lo b r : Nat} {es : List Int} {d : Nat} (h : Rooted μ lo b r es d) (hj : j < lo) (g : Grow j μ μ') : Rooted μ' lo b r es d := by
  obtain ⟨i, h1, h2, h3, h4, h5⟩ := h
  exact ⟨i, h1, h2, g.lst (by omega) h3, g.lst (by omega) h4, h5⟩
theorem Rooted.ext {μ μ' : Sto} {lo b r : Nat} {es : List Int} {d : Nat} (h : Rooted μ lo b r es d) (g : Ext μ μ') : Rooted μ' lo b r es d := by
  obtain ⟨i, h1, h2, h3, h4, h5⟩ := h
  exact ⟨i, h1, h2, g.lst h3, g.lst h4, h5⟩
theorem Rooted.mono {μ : Sto} {lo b c r : Nat} {es : List Int} {d : Nat} (h : Rooted μ lo b r es d) (hb : b ≤ c) : Rooted μ lo c r es d := by
  obtain ⟨i, h1, h2, h3, h4, h5, h6, h7⟩ := h
  exact ⟨i, h1, h2, h3, h4, h5, fun e he => Nat.le_trans (h6 e he) hb, h7⟩
theorem Rooted.low {μ : Sto} {lo lo2 b r : Nat} {es : List Int} {d : Nat} (h : Rooted μ lo b r es d) (hb : lo2 ≤ lo) : Rooted μ lo2 b r es d := by
  obtain ⟨i, h1, h2, h3⟩ := h
  exact ⟨i, by omega, by omega, h3⟩
theorem Rooted.set {μ : Sto} {lo b r : Nat} {es : List Int} {d k : Nat} {o : O} (h : Rooted μ lo b r es d) (hk : k < lo) : Rooted (μ.set k o) lo b r es d := by
  obtain ⟨i, h1, h2, h3, h4, h5⟩ := h
  refine ⟨i, h1, h2, lstAt_of ?_, lstAt_of ?_, h5⟩
  · rw [cell_set_ne (by omega)]
    exact lstAt_cell h3
  · rw [cell_set_ne (by omega)]
    exact lstAt_cell h4
/-- places, one after another -/
def refs (r : Nat → Nat) (n : Nat) : List D := (List.range n).map fun i => D.ref (r i)
theorem refs_len (r : Nat → Nat) (n : Nat) : (refs r n).length = n := by
  unfold refs
  rw [List.length_map, List.length_range]
theorem refs_get {r : Nat → Nat} {n k : Nat} (h : k < n) : (refs r n)[k]? = some (.ref (r k)) := by
  unfold refs
  rw [List.getElem?_map, List.getElem?_range h]
  rfl
theorem refs_at {r : Nat → Nat} {n k : Nat} (h : k < n) : atI (refs r n) ((k : Nat) : Int) = some (.ref (r k)) := atI_nat (j := k) (refs_get h)
theorem refs_succ {r : Nat → Nat} {n : Nat} : refs r (n + 1) = refs r n ++ [.ref (r n)] := by
  unfold refs
  rw [List.range_succ, List.map_append]
  rfl
theorem refs_congr {r s : Nat → Nat} {n : Nat} (h : ∀ i, i < n → r i = s i) : refs r n = refs s n := by
  unfold refs
  refine List.map_congr_left fun i hi => ?_
  rw [h i (List.mem_range.mp hi)]
/-- one more value of a function -/
def upto {α : Type} (f : Nat → α) (n : Nat) (x : α) : Nat → α := fun i => if i = n then x else f i
theorem upto_same {α : Type} {f : Nat → α} {n : Nat} {x : α} : upto f n x n = x := if_pos rfl
theorem upto_ne {α : Type} {f : Nat → α} {n i : Nat} {x : α} (h : i ≠ n) : upto f n x i = f i := if_neg h
theorem refs_upto {r : Nat → Nat} {n x : Nat} : refs (upto r n x) (n + 1) = refs r n ++ [.ref x] := by
  rw [refs_succ, upto_same, refs_congr fun i hi => upto_ne (by omega)]
/-- the product of the first primes with these exponents -/
def tp (es : List Int) : Nat → Nat
  | 0 => 1
  | i + 1 => tp es i * ([2, 3, 5, 7].getD i 1) ^ ((es.getD i 0).toNat)
def tpA (es : List Int) : Nat := tp es 4
def tpB (es : List Int) : Nat := tp (es.map fun e => -e) 4
theorem prime_few (i : Nat) : 1 ≤ [2, 3, 5, 7].getD i 1 ∧ [2, 3, 5, 7].getD i 1 ≤ 7 := by
  match i with
  | 0 => exact ⟨by decide, by decide⟩
  | 1 => exact ⟨by decide, by decide⟩
  | 2 => exact ⟨by decide, by decide⟩
  | 3 => exact ⟨by decide, by decide⟩
  | i + 4 => exact ⟨Nat.le_refl 1, by show 1 ≤ 7; decide⟩
theorem tp_pos (es : List Int) : ∀ i, 1 ≤ tp es i
  | 0 => Nat.le_refl 1
  | i + 1 => Nat.mul_pos (tp_pos es i) (Nat.pow_pos (prime_few i).1)
theorem getD_few {es : List Int} {b : Nat} (h : ∀ e, e ∈ es → e.natAbs ≤ b) (i : Nat) : (es.getD i 0).toNat ≤ b := by
  rw [List.getD_eq_getElem?_getD]
  cases c : es[i]? with
  | none => exact Nat.zero_le b
  | some e =>
    have := h e (List.mem_of_getElem? c)
    show e.toNat ≤ b
    omega
theorem tp_mono {es : List Int} : ∀ {i k : Nat}, i ≤ k → tp es i ≤ tp es k := fun {i k} h => by
  induction k with
  | zero =>
    have : i = 0 := by omega
    rw [this]
    exact Nat.le_refl _
  | succ k ih =>
    by_cases e : i = k + 1
    · rw [e]
      exact Nat.le_refl _
    · exact Nat.le_trans (ih (by omega)) (Nat.le_mul_of_pos_right _ (Nat.pow_pos (prime_few k).1))
theorem tp_size {es : List Int} (h : ∀ e, e ∈ es → e.natAbs ≤ 12) : tp es 4 ≤ 1000000000000000000000000000000 := by
  have q : ∀ i, [2, 3, 5, 7].getD i 1 ^ ((es.getD i 0).toNat) ≤ [2, 3, 5, 7].getD i 1 ^ 12 := fun i => Nat.pow_le_pow_right (prime_few i).1 (getD_few h i)
  have e : tp es 4 ≤ 1 * [2, 3, 5, 7].getD 0 1 ^ 12 * [2, 3, 5, 7].getD 1 1 ^ 12 * [2, 3, 5, 7].getD 2 1 ^ 12 * [2, 3, 5, 7].getD 3 1 ^ 12 :=
    Nat.mul_le_mul (Nat.mul_le_mul (Nat.mul_le_mul (Nat.mul_le_mul (Nat.le_refl _) (q 0)) (q 1)) (q 2)) (q 3)
  exact Nat.le_trans e (by decide +kernel)
theorem neg_few {es : List Int} {b : Nat} (h : ∀ e, e ∈ es → e.natAbs ≤ b) : ∀ e, e ∈ es.map (fun e => -e) → e.natAbs ≤ b := fun e he => by
  obtain ⟨x, hx, rfl⟩ := List.mem_map.mp he
  rw [Int.natAbs_neg]
  exact h x hx
theorem tpB_def (es : List Int) : tpB es = tp (es.map fun e => -e) 4 := rfl
theorem cop_one {p : Nat} (e : Int) : Nat.Coprime (p ^ e.toNat) (p ^ (-e).toNat) := by
  by_cases h : 0 ≤ e
  · rw [show (-e).toNat = 0 by omega, Nat.pow_zero]
    exact Nat.coprime_one_right _
  · rw [show e.toNat = 0 by omega, Nat.pow_zero]
    exact Nat.coprime_one_left _
theorem cop_two {p q : Nat} (h : Nat.Coprime p q) (n m : Nat) : Nat.Coprime (p ^ n) (q ^ m) := Nat.Coprime.pow n m h
theorem tp_cop {es : List Int} (h : es.length = 4) : Nat.gcd (tpA es) (tpB es) = 1 := by
  match es, h with
  | [a, b, c, d], _ =>
    show Nat.Coprime (1 * 2 ^ a.toNat * 3 ^ b.toNat * 5 ^ c.toNat * 7 ^ d.toNat) (1 * 2 ^ (-a).toNat * 3 ^ (-b).toNat * 5 ^ (-c).toNat * 7 ^ (-d).toNat)
    rw [Nat.one_mul, Nat.one_mul]
    have two : ∀ p q n m, Nat.gcd p q = 1 → Nat.Coprime (p ^ n) (q ^ m) := fun p q n m h => Nat.Coprime.pow n m h
    refine Nat.Coprime.mul_left (Nat.Coprime.mul_left (Nat.Coprime.mul_left ?_ ?_) ?_) ?_ <;> refine Nat.Coprime.mul_right (Nat.Coprime.mul_right (Nat.Coprime.mul_right ?_ ?_) ?_) ?_
    all_goals first
      | exact cop_one _
      | exact two _ _ _ _ (by decide)
/-- a root in the store that is the d-th root of A / B -/
def RootAt (C : Addr) (μ : Sto) (k d A B : Nat) : Prop := ∃ n a b e, cell μ k = some (rootO C n a b) ∧ LeastForm n a b ∧ 1 ≤ e ∧ a ^ e = A ∧ b ^ e = B ∧ d = n * e
theorem RootAt.ext {C : Addr} {μ μ' : Sto} {k d A B : Nat} (h : RootAt C μ k d A B) (g : Ext μ μ') : RootAt C μ' k d A B := by
  obtain ⟨n, a, b, e, h1, h2⟩ := h
  exact ⟨n, a, b, e, g.2 _ _ h1, h2⟩
theorem root_cross {n a b e m c d f : Nat} (he : 1 ≤ e) (hf : 1 ≤ f) : LessR n a b m c d ↔ LessR (n * e) (a ^ e) (b ^ e) (m * f) (c ^ f) (d ^ f) := by
  unfold LessR
  have e1 : (a ^ e) ^ (m * f) * (d ^ f) ^ (n * e) = (a ^ m * d ^ n) ^ (e * f) := by
    rw [Nat.mul_pow, ← Nat.pow_mul, ← Nat.pow_mul, ← Nat.pow_mul, ← Nat.pow_mul]
    congr 2 <;> ac_rfl
  have e2 : (c ^ f) ^ (n * e) * (b ^ e) ^ (m * f) = (c ^ n * b ^ m) ^ (e * f) := by
    rw [Nat.mul_pow, ← Nat.pow_mul, ← Nat.pow_mul, ← Nat.pow_mul, ← Nat.pow_mul]
    congr 2 <;> ac_rfl
  rw [e1, e2]
  have ef : e * f ≠ 0 := Nat.ne_of_gt (Nat.mul_pos he hf)
  exact ⟨fun h => Nat.pow_lt_pow_left h ef, fun h => Nat.lt_of_not_le fun z => by
    have := Nat.pow_le_pow_left z (e * f)
    omega⟩
/-- powers with exponents that have nothing in common are powers of one number -/
theorem LessR.irrefl {n a b : Nat} : ¬ LessR n a b n a b := fun h => by
  unfold LessR at h
  omega
theorem LessR.asymm {n a b m c d : Nat} (h : LessR n a b m c d) : ¬ LessR m c d n a b := fun g => by
  unfold LessR at h g
  rw [Nat.mul_comm (c ^ n), Nat.mul_comm (a ^ m)] at *
  omega
theorem LessR.turned {n a b m c d : Nat} : LessR n a b m c d ↔ LessR m d c n b a := by
  unfold LessR
  rw [Nat.mul_comm (d ^ n), Nat.mul_comm (b ^ m)]
theorem RootAt.set {C : Addr} {μ : Sto} {k d A B i : Nat} {acc : List D} {o : O} (h : RootAt C μ k d A B) (hi : cell μ i = some (.lst acc)) : RootAt C (μ.set i o) k d A B := by
  obtain ⟨n, a, b, e, h1, h2⟩ := h
  refine ⟨n, a, b, e, ?_, h2⟩
  rw [cell_set_ne fun z => ?_]
  · exact h1
  · subst z
    rw [h1] at hi
    cases hi
theorem root_equal {n a b m c d : Nat} (f : LeastForm n a b) (g : LeastForm m c d) (h1 : ¬ LessR n a b m c d) (h2 : ¬ LessR m c d n a b) : n = m ∧ a = c ∧ b = d := by
  have e : a ^ m * d ^ n = c ^ n * b ^ m := by
    unfold LessR at h1 h2
    omega
  have c1 : Nat.Coprime (a ^ m) (b ^ m) := Nat.Coprime.pow m m f.cop
  have c2 : Nat.Coprime (c ^ n) (d ^ n) := Nat.Coprime.pow n n g.cop
  have d1 : a ^ m ∣ c ^ n := c1.dvd_of_dvd_mul_right (by rw [← e]; exact Nat.dvd_mul_right _ _)
  have d2 : c ^ n ∣ a ^ m := c2.dvd_of_dvd_mul_right (by rw [e]; exact Nat.dvd_mul_right _ _)
  have ea : a ^ m = c ^ n := Nat.dvd_antisymm d1 d2
  have eb : b ^ m = d ^ n := by
    rw [← ea] at e
    exact (Nat.eq_of_mul_eq_mul_left (Nat.pow_pos f.a1) e).symm
  have n1 := f.n1
  have m1 := g.n1
  obtain ⟨w, hw⟩ : ∃ w, Nat.gcd n m = w := ⟨_, rfl⟩
  have w1 : 1 ≤ w := by rw [← hw]; exact Nat.gcd_pos_of_pos_left _ n1
  obtain ⟨n', hn'⟩ : w ∣ n := by rw [← hw]; exact Nat.gcd_dvd_left _ _
  obtain ⟨m', hm'⟩ : w ∣ m := by rw [← hw]; exact Nat.gcd_dvd_right _ _
  have cop : Nat.gcd m' n' = 1 := by
    rw [hn', hm', Nat.gcd_mul_left] at hw
    have : Nat.gcd n' m' = 1 := Nat.eq_of_mul_eq_mul_left w1 (by omega)
    rw [Nat.gcd_comm]
    exact this
  have n1' : 1 ≤ n' := Nat.pos_of_ne_zero fun z => by
    rw [z, Nat.mul_zero] at hn'
    omega
  have m1' : 1 ≤ m' := Nat.pos_of_ne_zero fun z => by
    rw [z, Nat.mul_zero] at hm'
    omega
  have ea' : a ^ m' = c ^ n' := root_eq w1 (by rw [← Nat.pow_mul, ← Nat.pow_mul, Nat.mul_comm m', Nat.mul_comm n', ← hm', ← hn', ea])
  have eb' : b ^ m' = d ^ n' := root_eq w1 (by rw [← Nat.pow_mul, ← Nat.pow_mul, Nat.mul_comm m', Nat.mul_comm n', ← hm', ← hn', eb])
  obtain ⟨t, ta, tc⟩ := common_root (m' + n') m' n' a c (Nat.le_refl _) m1' n1' cop f.a1 g.a1 ea'
  obtain ⟨u, ub, ud⟩ := common_root (m' + n') m' n' b d (Nat.le_refl _) m1' n1' cop f.b1 g.b1 eb'
  have q1 : n' = 1 := f.least n' t u ⟨w, by rw [hn', Nat.mul_comm]⟩ ta.symm ub.symm
  have q2 : m' = 1 := g.least m' t u ⟨w, by rw [hm', Nat.mul_comm]⟩ tc.symm ud.symm
  subst q1 q2
  exact ⟨by omega, by omega, by omega⟩
theorem RootAt.ok {C : Addr} {μ : Sto} {k d A B : Nat} {m : Str} (h : RootAt C μ k d A B) (hm : ∀ n a b : Nat, List.lookup m [(("_degree" : Str), D.int (n : Int)), ("_number", .tup [.int (a : Int), .int (b : Int)])] = none) : insOk C m μ (.ref k) := by
  obtain ⟨n, a, b, e, c1, _⟩ := h
  exact insOk_root c1 (hm n a b)
theorem RootAt.isIns {C : Addr} {μ : Sto} {k d A B : Nat} (h : RootAt C μ k d A B) : insAt C μ (.ref k) := by
  obtain ⟨n, a, b, e, c1, _⟩ := h
  exact insAt_root c1
/-! ### shared bases -/
/-- products of these -/
inductive Gen (l : List Nat) : Nat → Prop
  | one : Gen l 1
  | mul {x v : Nat} : x ∈ l → Gen l v → Gen l (x * v)
theorem Gen.mem {l : List Nat} {x : Nat} (h : x ∈ l) : Gen l x := by
  have := Gen.mul h .one
  rwa [Nat.mul_one] at this
theorem Gen.app {l : List Nat} {a b : Nat} (h : Gen l a) (g : Gen l b) : Gen l (a * b) := by
  induction h with
  | one => rwa [Nat.one_mul]
  | mul hx _ ih => rw [Nat.mul_assoc]; exact .mul hx ih
theorem Gen.pow {l : List Nat} {a : Nat} (h : Gen l a) : ∀ n, Gen l (a ^ n)
  | 0 => .one
  | n + 1 => by
    rw [Nat.pow_succ]
    exact (h.pow n).app h
theorem Gen.sub {l l' : List Nat} {a : Nat} (h : Gen l a) (k : ∀ x, x ∈ l → Gen l' x) : Gen l' a := by
  induction h with
  | one => exact .one
  | mul hx _ ih => exact (k _ hx).app ih
/-- no power -/
def NoPow (c : Nat) : Prop := 2 ≤ c ∧ ∀ m x : Nat, x ^ m = c → m = 1
/-- how often c divides v -/
def mu (c v : Nat) : Nat := if h : 2 ≤ c ∧ 1 ≤ v ∧ c ∣ v then mu c (v / c) + 1 else 0
termination_by v
decreasing_by exact Nat.div_lt_self (by omega) (by omega)
theorem mu_spec {c : Nat} (hc : 2 ≤ c) : ∀ (N v : Nat), v ≤ N → 1 ≤ v → ∃ y, v = c ^ mu c v * y ∧ ¬ c ∣ y
  | 0, v, h, h1 => by omega
  | N + 1, v, h, h1 => by
    by_cases d : c ∣ v
    · have lt := Nat.div_lt_self (by omega : 0 < v) (by omega : 1 < c)
      have p := Nat.div_pos (Nat.le_of_dvd (by omega) d) (by omega : 0 < c)
      obtain ⟨y, e, n⟩ := mu_spec hc N (v / c) (by omega) p
      refine ⟨y, ?_, n⟩
      rw [mu, dif_pos ⟨hc, h1, d⟩, Nat.pow_succ, Nat.mul_right_comm, ← e, Nat.div_mul_cancel d]
    · refine ⟨v, ?_, d⟩
      rw [mu, dif_neg fun z => d z.2.2, Nat.pow_zero, Nat.one_mul]
theorem pow_part {c t s y z : Nat} (hc : 2 ≤ c) (h : c ^ t * y = c ^ s * z) (hz : ¬ c ∣ z) : t ≤ s := by
  refine Nat.le_of_not_lt fun lt => hz ?_
  have e : t = s + (t - s - 1) + 1 := by omega
  rw [e, Nat.pow_succ, Nat.pow_add, Nat.mul_assoc, Nat.mul_assoc] at h
  have := Nat.eq_of_mul_eq_mul_left (Nat.pow_pos (by omega : 0 < c)) h
  rw [← this, Nat.mul_left_comm]
  exact Nat.dvd_mul_right _ _
theorem mu_is {c v t y : Nat} (hc : 2 ≤ c) (hv : 1 ≤ v) (h : v = c ^ t * y) (hy : ¬ c ∣ y) : mu c v = t := by
  obtain ⟨z, e, n⟩ := mu_spec hc v v (Nat.le_refl _) hv
  exact Nat.le_antisymm (pow_part hc (e.symm.trans h) hy) (pow_part hc (h.symm.trans e) n)
theorem mu_not {c v : Nat} (h : ¬ c ∣ v) : mu c v = 0 := by
  rw [mu, dif_neg fun z => h z.2.2]
/-- the product of powers of these -/
def prodF (l : List Nat) (f : Nat → Nat) : Nat := l.foldr (fun c a => c ^ f c * a) 1
theorem prodF_cons (c : Nat) (l : List Nat) (f : Nat → Nat) : prodF (c :: l) f = c ^ f c * prodF l f := rfl
theorem prodF_pos {l : List Nat} {f : Nat → Nat} (h : ∀ c, c ∈ l → 2 ≤ c) : 1 ≤ prodF l f := by
  induction l with
  | nil => exact Nat.le_refl 1
  | cons c l ih =>
    have := h c (List.mem_cons_self ..)
    exact Nat.mul_pos (Nat.pow_pos (by omega)) (ih fun x hx => h x (List.mem_cons_of_mem _ hx))
theorem prodF_congr {l : List Nat} {f g : Nat → Nat} (h : ∀ c, c ∈ l → f c = g c) : prodF l f = prodF l g := by
  induction l with
  | nil => rfl
  | cons c l ih =>
    rw [prodF_cons, prodF_cons, h c (List.mem_cons_self ..), ih fun x hx => h x (List.mem_cons_of_mem _ hx)]
theorem prodF_mul (l : List Nat) (f g : Nat → Nat) : prodF l (fun c => f c + g c) = prodF l f * prodF l g := by
  induction l with
  | nil => rfl
  | cons c l ih =>
    rw [prodF_cons, prodF_cons, prodF_cons, ih, Nat.pow_add, Nat.mul_mul_mul_comm]
theorem prodF_pow (l : List Nat) (f : Nat → Nat) (k : Nat) : prodF l (fun c => k * f c) = prodF l f ^ k := by
  induction l with
  | nil => exact (Nat.one_pow k).symm
  | cons c l ih =>
    rw [prodF_cons, prodF_cons, ih, Nat.mul_comm k, Nat.pow_mul, Nat.mul_pow]
theorem prodF_zero (l : List Nat) : prodF l (fun _ => 0) = 1 := by
  induction l with
  | nil => rfl
  | cons c l ih => rw [prodF_cons, ih, Nat.pow_zero]
abbrev Cop (l : List Nat) : Prop := l.Pairwise Nat.Coprime
theorem prodF_cop {l : List Nat} {f : Nat → Nat} {k : Nat} (h : ∀ c, c ∈ l → Nat.Coprime k (c ^ f c)) : Nat.Coprime k (prodF l f) := by
  induction l with
  | nil => exact Nat.coprime_one_right k
  | cons c l ih => exact Nat.Coprime.mul_right (h c (List.mem_cons_self ..)) (ih fun x hx => h x (List.mem_cons_of_mem _ hx))
theorem Cop.ne {l : List Nat} (h : Cop l) {c d : Nat} (hc : c ∈ l) (hd : d ∈ l) (n : c ≠ d) : Nat.Coprime c d := by
  induction l with
  | nil => cases hc
  | cons x l ih =>
    obtain ⟨h1, h2⟩ := List.pairwise_cons.mp h
    rcases List.mem_cons.mp hc with e1 | hc'
    · rcases List.mem_cons.mp hd with e2 | hd'
      · exact absurd (e1.trans e2.symm) n
      · rw [e1]; exact h1 _ hd'
    · rcases List.mem_cons.mp hd with e2 | hd'
      · rw [e2]; exact (h1 _ hc').symm
      · exact ih h2 hc' hd'
theorem cop_self {c : Nat} (hc : 2 ≤ c) (h : Nat.Coprime c c) : False := by
  have : Nat.gcd c c = 1 := h
  rw [Nat.gcd_self] at this
  omega
theorem prodF_split {l : List Nat} (hl : Cop l) (h2 : ∀ c, c ∈ l → 2 ≤ c) (f : Nat → Nat) {c : Nat} (hc : c ∈ l) : ∃ r, prodF l f = c ^ f c * r ∧ Nat.Coprime c r := by
  induction l with
  | nil => cases hc
  | cons x l ih =>
    obtain ⟨h1, h3⟩ := List.pairwise_cons.mp hl
    have h2' : ∀ c, c ∈ l → 2 ≤ c := fun y hy => h2 y (List.mem_cons_of_mem _ hy)
    rcases List.mem_cons.mp hc with rfl | hc'
    · exact ⟨_, prodF_cons .., prodF_cop fun y hy => by
        have := Nat.Coprime.pow 1 (f y) (h1 y hy)
        rwa [Nat.pow_one] at this⟩
    · obtain ⟨r, e, co⟩ := ih h3 h2' hc'
      refine ⟨x ^ f x * r, ?_, Nat.Coprime.mul_right ?_ co⟩
      · rw [prodF_cons, e, Nat.mul_left_comm]
      · have := Nat.Coprime.pow 1 (f x) (h1 c hc').symm
        rwa [Nat.pow_one] at this
theorem mu_prodF {l : List Nat} (hl : Cop l) (h2 : ∀ c, c ∈ l → 2 ≤ c) (f : Nat → Nat) {c : Nat} (hc : c ∈ l) : mu c (prodF l f) = f c := by
  obtain ⟨r, e, co⟩ := prodF_split hl h2 f hc
  exact mu_is (h2 c hc) (prodF_pos h2) e fun d => cop_self (h2 c hc) (Nat.Coprime.coprime_dvd_right d co)
theorem gen_prodF {l : List Nat} (hl : Cop l) (h2 : ∀ c, c ∈ l → 2 ≤ c) {v : Nat} (h : Gen l v) : ∃ f, v = prodF l f := by
  induction h with
  | one => exact ⟨fun _ => 0, (prodF_zero l).symm⟩
  | @mul x v hx hw ih =>
    obtain ⟨f, e⟩ := ih
    clear hw
    refine ⟨fun c => (if c = x then 1 else 0) + f c, ?_⟩
    rw [prodF_mul, ← e]
    congr 1
    clear e
    induction l with
    | nil => cases hx
    | cons y l ih2 =>
      obtain ⟨h1, h3⟩ := List.pairwise_cons.mp hl
      rw [prodF_cons]
      by_cases q : y = x
      · subst q
        rw [if_pos rfl, Nat.pow_one, prodF_congr (g := fun _ => 0) fun c hc => if_neg fun z => ?_, prodF_zero, Nat.mul_one]
        subst z
        exact cop_self (h2 c hx) (h1 c hc)
      · rw [if_neg q, Nat.pow_zero, Nat.one_mul]
        rcases List.mem_cons.mp hx with z | hx
        · exact absurd z.symm q
        · exact ih2 h3 (fun c hc => h2 c (List.mem_cons_of_mem _ hc)) hx
theorem gen_mu {l : List Nat} (hl : Cop l) (h2 : ∀ c, c ∈ l → 2 ≤ c) {v : Nat} (h : Gen l v) : v = prodF l fun c => mu c v := by
  obtain ⟨f, e⟩ := gen_prodF hl h2 h
  have : prodF l (fun c => mu c v) = prodF l f := prodF_congr fun c hc => by rw [e, mu_prodF hl h2 f hc]
  rw [this]
  exact e
theorem cop_pow {x m a b : Nat} (hm : 1 ≤ m) (h : Nat.Coprime a b) (e : x ^ m = a * b) : ∃ y, y ^ m = a := by
  refine ⟨Nat.gcd x a, ?_⟩
  rw [← Nat.pow_gcd_pow, e]
  have e2 : a ^ m = a * a ^ (m - 1) := by
    rw [← Nat.pow_succ', Nat.succ_eq_add_one]
    congr 1
    omega
  rw [e2, Nat.gcd_mul_left]
  have : Nat.Coprime b (a ^ (m - 1)) := by
    have := Nat.Coprime.pow 1 (m - 1) h.symm
    rwa [Nat.pow_one] at this
  have z : Nat.gcd b (a ^ (m - 1)) = 1 := this
  rw [z, Nat.mul_one]
theorem noPow_dvd {c y m e : Nat} (hc : NoPow c) (hm : 1 ≤ m) (h : y ^ m = c ^ e) : m ∣ e := by
  obtain ⟨c2, hn⟩ := hc
  by_cases e0 : e = 0
  · subst e0
    exact Nat.dvd_zero m
  obtain ⟨g, hg⟩ : ∃ g, Nat.gcd m e = g := ⟨_, rfl⟩
  have g1 : 1 ≤ g := by rw [← hg]; exact Nat.gcd_pos_of_pos_left _ hm
  obtain ⟨m', em⟩ : g ∣ m := by rw [← hg]; exact Nat.gcd_dvd_left _ _
  obtain ⟨e', ee⟩ : g ∣ e := by rw [← hg]; exact Nat.gcd_dvd_right _ _
  have co : Nat.gcd m' e' = 1 := by
    rw [em, ee, Nat.gcd_mul_left] at hg
    exact Nat.eq_of_mul_eq_mul_left g1 (by omega)
  have m1 : 1 ≤ m' := Nat.pos_of_ne_zero fun z => by rw [z] at em; omega
  have e1 : 1 ≤ e' := Nat.pos_of_ne_zero fun z => by rw [z] at ee; omega
  have q : y ^ m' = c ^ e' := root_eq g1 (by rw [← Nat.pow_mul, ← Nat.pow_mul, Nat.mul_comm m', Nat.mul_comm e', ← em, ← ee, h])
  have y1 : 1 ≤ y := Nat.pos_of_ne_zero fun z => by
    rw [z, Nat.zero_pow m1] at q
    have := Nat.pow_pos (n := e') (by omega : 0 < c)
    omega
  obtain ⟨t, _, hc⟩ := common_root (m' + e') m' e' y c (Nat.le_refl _) m1 e1 co y1 (by omega) q
  have := hn m' t hc.symm
  exact ⟨e', by rw [ee, em, this, Nat.mul_one]⟩
theorem prodF_pow_dvd {l : List Nat} (hl : Cop l) (hn : ∀ c, c ∈ l → NoPow c) {f : Nat → Nat} {x m : Nat} (hm : 1 ≤ m) (h : x ^ m = prodF l f) {c : Nat} (hc : c ∈ l) : m ∣ f c := by
  obtain ⟨r, e, co⟩ := prodF_split hl (fun c hc => (hn c hc).1) f hc
  have co' : Nat.Coprime (c ^ f c) r := by
    have := Nat.Coprime.pow (f c) 1 co
    rwa [Nat.pow_one] at this
  obtain ⟨y, hy⟩ := cop_pow hm co' (h.trans e)
  exact noPow_dvd (hn c hc) hm hy
def posE (E : Nat → Int) (c : Nat) : Nat := (E c).toNat
def negE (E : Nat → Int) (c : Nat) : Nat := (-E c).toNat
theorem prod_cop {l : List Nat} (hl : Cop l) (h2 : ∀ c, c ∈ l → 2 ≤ c) (E : Nat → Int) : Nat.Coprime (prodF l (posE E)) (prodF l (negE E)) := by
  refine prodF_cop fun c hc => (prodF_cop fun d hd => ?_).symm
  by_cases q : c = d
  · subst q
    by_cases p : 0 ≤ E c
    · rw [show negE E c = 0 from by unfold negE; omega, Nat.pow_zero]
      exact Nat.coprime_one_left _
    · rw [show posE E c = 0 from by unfold posE; omega, Nat.pow_zero]
      exact Nat.coprime_one_right _
  · exact Nat.Coprime.pow _ _ (hl.ne hc hd q)
theorem prod_least {l : List Nat} (hl : Cop l) (hn : ∀ c, c ∈ l → NoPow c) {E : Nat → Int} {n : Nat} (n1 : 1 ≤ n) (hg : ∀ m : Nat, m ∣ n → (∀ c, c ∈ l → m ∣ (E c).natAbs) → m = 1) {m x y : Nat} (hm : m ∣ n) (hx : x ^ m = prodF l (posE E)) (hy : y ^ m = prodF l (negE E)) : m = 1 := by
  have m1 : 1 ≤ m := Nat.pos_of_dvd_of_pos hm n1
  refine hg m hm fun c hc => ?_
  have d1 := prodF_pow_dvd hl hn m1 hx hc
  have d2 := prodF_pow_dvd hl hn m1 hy hc
  unfold posE at d1
  unfold negE at d2
  by_cases p : 0 ≤ E c
  · rwa [show (E c).natAbs = (E c).toNat by omega]
  · rwa [show (E c).natAbs = (-E c).toNat by omega]
theorem prod_value {l : List Nat} (hl : Cop l) (h2 : ∀ c, c ∈ l → 2 ≤ c) {E : Nat → Int} {G p q a b c d : Nat} (ha : Gen l a) (hb : Gen l b) (hc : Gen l c) (hd : Gen l d)
    (hE : ∀ x, x ∈ l → (G : Int) * E x = (p : Int) * ((mu x a : Int) - mu x b) + (q : Int) * ((mu x c : Int) - mu x d)) : prodF l (posE E) ^ G * (b ^ p * d ^ q) = prodF l (negE E) ^ G * (a ^ p * c ^ q) := by
  have w : ∀ v k, Gen l v → v ^ k = prodF l (fun x => k * mu x v) := fun v k hv => by
    rw [prodF_pow, ← gen_mu hl h2 hv]
  rw [w _ _ ha, w _ _ hb, w _ _ hc, w _ _ hd, ← prodF_pow, ← prodF_pow, ← prodF_mul, ← prodF_mul, ← prodF_mul, ← prodF_mul]
  refine prodF_congr fun x hx => ?_
  have e := hE x hx
  have f : E x = (posE E x : Int) - negE E x := by unfold posE negE; omega
  rw [f, Int.mul_sub, Int.mul_sub, Int.mul_sub] at e
  have z : ((G * posE E x + (p * mu x b + q * mu x d) : Nat) : Int) = ((G * negE E x + (p * mu x a + q * mu x c) : Nat) : Int) := by
    simp only [Int.natCast_add, Int.natCast_mul]
    omega
  exact Int.ofNat.inj z
def prodN (l : List Nat) : Nat := l.foldr (fun x a => x * a) 1
theorem prodN_app (l k : List Nat) : prodN (l ++ k) = prodN l * prodN k := by
  induction l with
  | nil => exact (Nat.one_mul _).symm
  | cons x l ih =>
    show x * prodN (l ++ k) = x * prodN l * prodN k
    rw [ih, Nat.mul_assoc]
theorem prodN_one (x : Nat) : prodN [x] = x := Nat.mul_one x
theorem prodN_two {l : List Nat} (h : ∀ x, x ∈ l → 2 ≤ x) : 2 ^ l.length ≤ prodN l := by
  induction l with
  | nil => exact Nat.le_refl 1
  | cons x l ih =>
    have := ih fun y hy => h y (List.mem_cons_of_mem _ hy)
    show 2 ^ (l.length + 1) ≤ x * prodN l
    rw [Nat.pow_succ, Nat.mul_comm]
    exact Nat.mul_le_mul (h x (List.mem_cons_self ..)) this
theorem prodN_erase : ∀ {l : List Nat} {k x : Nat}, l[k]? = some x → prodN l = x * prodN (l.eraseIdx k)
  | [], k, x, h => by cases h
  | y :: l, 0, x, h => by
    cases h
    rfl
  | y :: l, k + 1, x, h => by
    have := prodN_erase (l := l) (k := k) (x := x) h
    show y * prodN l = x * (y * prodN (l.eraseIdx k))
    rw [this, Nat.mul_left_comm]
theorem prodN_filter {l : List Nat} (h : ∀ x, x ∈ l → 1 ≤ x) : prodN (l.filter fun x => decide (1 < x)) = prodN l := by
  induction l with
  | nil => rfl
  | cons x l ih =>
    have i := ih fun y hy => h y (List.mem_cons_of_mem _ hy)
    have := h x (List.mem_cons_self ..)
    by_cases c : 1 < x
    · rw [List.filter_cons_of_pos (by simpa using c)]
      exact congrArg (x * ·) i
    · rw [List.filter_cons_of_neg (by simpa using c)]
      have : x = 1 := by omega
      rw [i, this]
      exact (Nat.one_mul _).symm
/-- what is found and what waits -/
structure SB (vs : List Nat) (P : Nat) (F W : List Nat) : Prop where
  f2 : ∀ x, x ∈ F → 2 ≤ x ∧ x ≤ 1000000000000000000000000000000
  w2 : ∀ x, x ∈ W → 2 ≤ x ∧ x ≤ 1000000000000000000000000000000
  cop : Cop F
  gen : ∀ v, v ∈ vs → Gen (F ++ W) v
  prod : prodN F * prodN W ≤ P
def sbM (F W : List Nat) : Nat := (prodN F * prodN W) * (prodN F * prodN W) + W.length
theorem prodN_pos {l : List Nat} (h : ∀ x, x ∈ l → 2 ≤ x) : 1 ≤ prodN l := Nat.le_trans (Nat.pow_pos (by decide)) (prodN_two h)
theorem SB.few {vs F W : List Nat} {P : Nat} (h : SB vs P F W) (hP : P < 2 ^ 1000) : F.length < 1000 ∧ W.length < 1000 := by
  have a := prodN_two fun x hx => (h.f2 x hx).1
  have b := prodN_two fun x hx => (h.w2 x hx).1
  have a1 := prodN_pos fun x hx => (h.f2 x hx).1
  have b1 := prodN_pos fun x hx => (h.w2 x hx).1
  have c := h.prod
  have d1 : prodN F ≤ prodN F * prodN W := Nat.le_mul_of_pos_right _ b1
  have d2 : prodN W ≤ prodN F * prodN W := Nat.le_mul_of_pos_left _ a1
  refine ⟨(Nat.pow_lt_pow_iff_right (a := 2) (by decide)).mp ?_, (Nat.pow_lt_pow_iff_right (a := 2) (by decide)).mp ?_⟩
  · exact Nat.lt_of_le_of_lt (Nat.le_trans a (Nat.le_trans d1 c)) hP
  · exact Nat.lt_of_le_of_lt (Nat.le_trans b (Nat.le_trans d2 c)) hP
theorem SB.found {vs F W : List Nat} {P v : Nat} (h : SB vs P F (W ++ [v])) (hn : ∀ x, x ∈ F → Nat.gcd x v ≤ 1) : SB vs P (F ++ [v]) W ∧ sbM (F ++ [v]) W < sbM F (W ++ [v]) := by
  have hv := h.w2 v (List.mem_append_right _ (List.mem_singleton.mpr rfl))
  have e : prodN (F ++ [v]) * prodN W = prodN F * prodN (W ++ [v]) := by
    rw [prodN_app, prodN_app, prodN_one, Nat.mul_assoc, Nat.mul_comm v]
  refine ⟨⟨fun x hx => ?_, fun x hx => h.w2 x (List.mem_append_left _ hx), ?_, fun w hw => (h.gen w hw).sub fun x hx => .mem ?_, ?_⟩, ?_⟩
  · rcases List.mem_append.mp hx with hx | hx
    · exact h.f2 x hx
    · rw [List.mem_singleton.mp hx]
      exact hv
  · refine List.pairwise_append.mpr ⟨h.cop, List.pairwise_singleton _ _, fun x hx y hy => ?_⟩
    rw [List.mem_singleton.mp hy]
    have g1 := hn x hx
    have g0 := Nat.gcd_pos_of_pos_right x (show 0 < v by omega)
    show Nat.gcd x v = 1
    omega
  · rw [List.mem_append, List.mem_append] at hx
    rw [List.mem_append, List.mem_append]
    rcases hx with a | a | a
    · exact .inl (.inl a)
    · exact .inr a
    · exact .inl (.inr a)
  · rw [e]
    exact h.prod
  · unfold sbM
    rw [e, List.length_append]
    exact Nat.lt_succ_self _
theorem SB.split {vs F W : List Nat} {P v k o s t y z : Nat} (h : SB vs P F (W ++ [v])) (hk : F[k]? = some o) (hg : 1 < Nat.gcd v o) (hs : 1 ≤ s) (ht : 1 ≤ t) (hy : v = Nat.gcd v o ^ s * y) (hz : o = Nat.gcd v o ^ t * z) :
    SB vs P (F.eraseIdx k) (W ++ [Nat.gcd v o] ++ [y, z].filter fun x => decide (1 < x)) ∧ sbM (F.eraseIdx k) (W ++ [Nat.gcd v o] ++ [y, z].filter fun x => decide (1 < x)) < sbM F (W ++ [v]) := by
  obtain ⟨g, eg⟩ : ∃ g, Nat.gcd v o = g := ⟨_, rfl⟩
  rw [eg] at hg hy hz ⊢
  have hv := h.w2 v (List.mem_append_right _ (List.mem_singleton.mpr rfl))
  have ho := h.f2 o (List.mem_of_getElem? hk)
  have y1 : 1 ≤ y := Nat.pos_of_ne_zero fun w => by rw [w, Nat.mul_zero] at hy; omega
  have z1 : 1 ≤ z := Nat.pos_of_ne_zero fun w => by rw [w, Nat.mul_zero] at hz; omega
  have gv : g ∣ v := by rw [← eg]; exact Nat.gcd_dvd_left _ _
  have gle := Nat.le_of_dvd (by omega) gv
  have pw : ∀ {n : Nat}, 1 ≤ n → g ≤ g ^ n := fun {n} hn => by
    have := Nat.pow_le_pow_right (show 0 < g by omega) hn
    rwa [Nat.pow_one] at this
  have gy : g * y ≤ v := by
    have := Nat.mul_le_mul_right y (pw hs)
    omega
  have yv : y ≤ v := Nat.le_trans (Nat.le_mul_of_pos_left y (by omega)) gy
  have gz : g * z ≤ o := by
    have := Nat.mul_le_mul_right z (pw ht)
    omega
  have zo : z < o := by
    have := Nat.mul_le_mul_right z (show 2 ≤ g by omega)
    omega
  have eW : prodN (W ++ [g] ++ [y, z].filter fun x => decide (1 < x)) = prodN W * (g * (y * z)) := by
    rw [prodN_app, prodN_app, prodN_one, prodN_filter fun x hx => ?_]
    · show prodN W * g * (y * (z * 1)) = _
      rw [Nat.mul_one, Nat.mul_assoc]
    · rcases List.mem_cons.mp hx with rfl | hx
      · exact y1
      · rw [List.mem_singleton.mp hx]
        exact z1
  have eF := prodN_erase hk
  have W1 : 1 ≤ prodN W := prodN_pos fun x hx => (h.w2 x (List.mem_append_left _ hx)).1
  have mem : ∀ x, x ∈ F.eraseIdx k → x ∈ F := fun x hx => List.mem_of_mem_eraseIdx hx
  have F1 : 1 ≤ prodN (F.eraseIdx k) := prodN_pos fun x hx => (h.f2 x (mem x hx)).1
  have lt : g * (y * z) < v * o := by
    rw [← Nat.mul_assoc]
    exact Nat.mul_lt_mul_of_le_of_lt gy zo (by omega)
  have LT : prodN (F.eraseIdx k) * (prodN W * (g * (y * z))) < prodN F * prodN (W ++ [v]) := by
    rw [eF, prodN_app, prodN_one]
    have : o * prodN (F.eraseIdx k) * (prodN W * v) = prodN (F.eraseIdx k) * (prodN W * (v * o)) := by ac_rfl
    rw [this]
    exact Nat.mul_lt_mul_of_pos_left (Nat.mul_lt_mul_of_pos_left lt W1) F1
  have w2' : ∀ x, x ∈ W ++ [g] ++ ([y, z].filter fun x => decide (1 < x)) → 2 ≤ x ∧ x ≤ 1000000000000000000000000000000 := fun x hx => by
    rcases List.mem_append.mp hx with hx | hx
    · rcases List.mem_append.mp hx with hx | hx
      · exact h.w2 x (List.mem_append_left _ hx)
      · rw [List.mem_singleton.mp hx]
        omega
    · obtain ⟨hx, c⟩ := List.mem_filter.mp hx
      have c : 1 < x := of_decide_eq_true c
      rcases List.mem_cons.mp hx with rfl | hx
      · omega
      · rw [List.mem_singleton.mp hx] at c ⊢
        omega
  have inG : Gen (F.eraseIdx k ++ (W ++ [g] ++ [y, z].filter fun x => decide (1 < x))) g := .mem (List.mem_append_right _ (List.mem_append_left _ (List.mem_append_right _ (List.mem_singleton.mpr rfl))))
  have inL : ∀ x, x = y ∨ x = z → Gen (F.eraseIdx k ++ (W ++ [g] ++ [y, z].filter fun x => decide (1 < x))) x := fun x hx => by
    by_cases c : 1 < x
    · refine .mem (List.mem_append_right _ (List.mem_append_right _ (List.mem_filter.mpr ⟨?_, decide_eq_true c⟩)))
      rcases hx with rfl | rfl
      · exact List.mem_cons_self ..
      · exact List.mem_cons_of_mem _ (List.mem_singleton.mpr rfl)
    · have : x = 1 := by rcases hx with rfl | rfl <;> omega
      rw [this]
      exact .one
  refine ⟨⟨fun x hx => h.f2 x (mem x hx), w2', h.cop.sublist (List.eraseIdx_sublist ..), fun w hw => (h.gen w hw).sub fun x hx => ?_, ?_⟩, ?_⟩
  · rcases List.mem_append.mp hx with hx | hx
    · by_cases c : x = o
      · rw [c, hz]
        exact (inG.pow t).app (inL z (.inr rfl))
      · refine .mem (List.mem_append_left _ ?_)
        obtain ⟨i, hi, rfl⟩ := List.getElem_of_mem hx
        refine List.mem_eraseIdx_iff_getElem?.mpr ⟨i, fun z => ?_, List.getElem?_eq_getElem hi⟩
        subst z
        rw [List.getElem?_eq_getElem hi] at hk
        exact c (Option.some.inj hk)
    · rcases List.mem_append.mp hx with hx | hx
      · exact .mem (List.mem_append_right _ (List.mem_append_left _ (List.mem_append_left _ hx)))
      · rw [List.mem_singleton.mp hx, hy]
        exact (inG.pow s).app (inL y (.inl rfl))
  · rw [eW]
    exact Nat.le_trans (Nat.le_of_lt LT) h.prod
  · unfold sbM
    rw [eW]
    have l2 := prodN_two fun x hx => (w2' x hx).1
    rw [eW] at l2
    have l3 := Nat.lt_two_pow_self (n := (W ++ [g] ++ [y, z].filter fun x => decide (1 < x)).length)
    have p2 : 1 ≤ prodN W * (g * (y * z)) := Nat.mul_pos W1 (Nat.mul_pos (by omega) (Nat.mul_pos y1 z1))
    have l4 : prodN W * (g * (y * z)) ≤ prodN (F.eraseIdx k) * (prodN W * (g * (y * z))) := Nat.le_mul_of_pos_left _ F1
    generalize prodN (F.eraseIdx k) * (prodN W * (g * (y * z))) = p at *
    generalize prodN F * prodN (W ++ [v]) = q at *
    have l5 : p * p + p ≤ p * q := by
      rw [← Nat.mul_succ]
      exact Nat.mul_le_mul_left p LT
    have l6 : p * q < q * q := Nat.mul_lt_mul_of_pos_right LT (by omega)
    omega
/-- shared bases of these -/
structure Bases (vs bs : List Nat) : Prop where
  no : ∀ c, c ∈ bs → NoPow c
  cop : Cop bs
  gen : ∀ v, v ∈ vs → Gen bs v
  top : ∀ c, c ∈ bs → c ≤ 1000000000000000000000000000000
theorem Bases.of {vs F : List Nat} {P : Nat} (h : SB vs P F []) {r e : Nat → Nat} (hr : ∀ x, x ∈ F → r x ^ e x = x ∧ ∀ m y : Nat, y ^ m = x → m ∣ e x) : Bases vs (F.map r) := by
  have e1 : ∀ x, x ∈ F → 1 ≤ e x := fun x hx => Nat.pos_of_ne_zero fun z => by
    have h2 := (h.f2 x hx).1
    have := (hr x hx).1
    rw [z, Nat.pow_zero] at this
    omega
  have r2 : ∀ x, x ∈ F → 2 ≤ r x ∧ r x ≤ x := fun x hx => by
    have h2 := (h.f2 x hx).1
    have e := (hr x hx).1
    have e1' := e1 x hx
    refine ⟨Nat.le_of_not_lt fun z => ?_, ?_⟩
    · have : r x = 0 ∨ r x = 1 := by omega
      rcases this with z | z
      · rw [z, Nat.zero_pow e1'] at e
        omega
      · rw [z, Nat.one_pow] at e
        omega
    · rcases Nat.eq_zero_or_pos (r x) with z | z
      · omega
      · have := Nat.pow_le_pow_right z e1'
        rw [Nat.pow_one, e] at this
        exact this
  refine ⟨fun c hc => ?_, ?_, fun v hv => (h.gen v hv).sub fun x hx => ?_, fun c hc => ?_⟩
  · obtain ⟨x, hx, rfl⟩ := List.mem_map.mp hc
    refine ⟨(r2 x hx).1, fun m y hy => ?_⟩
    have d := (hr x hx).2 (m * e x) y (by rw [Nat.pow_mul, hy]; exact (hr x hx).1)
    have l := Nat.le_of_dvd (e1 x hx) d
    have e1' := e1 x hx
    refine Nat.le_antisymm (Nat.le_of_not_lt fun z => ?_) (Nat.pos_of_ne_zero fun z => ?_)
    · have := Nat.mul_le_mul_right (e x) z
      omega
    · rw [z, Nat.zero_mul] at d
      have := Nat.zero_dvd.mp d
      omega
  · refine List.pairwise_map.mpr (List.Pairwise.imp_of_mem (fun {a b} ha hb c => ?_) h.cop)
    have d : ∀ x, x ∈ F → r x ∣ x := fun x hx => by
      have := Nat.pow_dvd_pow (r x) (e1 x hx)
      rwa [Nat.pow_one, (hr x hx).1] at this
    exact Nat.Coprime.coprime_dvd_left (d a ha) (Nat.Coprime.coprime_dvd_right (d b hb) c)
  · rw [List.append_nil] at hx
    have : Gen (F.map r) (r x ^ e x) := (Gen.mem (List.mem_map.mpr ⟨x, hx, rfl⟩)).pow _
    rwa [(hr x hx).1] at this
  · obtain ⟨x, hx, rfl⟩ := List.mem_map.mp hc
    exact Nat.le_trans (r2 x hx).2 (h.f2 x hx).2
theorem noPow_root : ∀ (N v : Nat), v ≤ N → 2 ≤ v → ∃ r e, NoPow r ∧ r ^ e = v
  | 0, v, h, h2 => by omega
  | N + 1, v, h, h2 => by
    by_cases c : ∀ m x : Nat, x ^ m = v → m = 1
    · exact ⟨v, 1, ⟨h2, c⟩, Nat.pow_one v⟩
    · have : ∃ m x : Nat, x ^ m = v ∧ m ≠ 1 := by
        refine Classical.byContradiction fun z => c fun m x e => Classical.byContradiction fun w => z ⟨m, x, e, w⟩
      obtain ⟨m, x, e, m1⟩ := this
      have m0 : m ≠ 0 := fun z => by rw [z, Nat.pow_zero] at e; omega
      have x2 : 2 ≤ x := Nat.le_of_not_lt fun z => by
        have : x = 0 ∨ x = 1 := by omega
        rcases this with z | z
        · rw [z, Nat.zero_pow (by omega)] at e; omega
        · rw [z, Nat.one_pow] at e; omega
      have lt : x < v := by
        have := Nat.pow_lt_pow_right (show 1 < x by omega) (show 1 < m by omega)
        rwa [Nat.pow_one, e] at this
      obtain ⟨r, f, hr, hf⟩ := noPow_root N x (by omega) x2
      exact ⟨r, f * m, hr, by rw [Nat.pow_mul, hf, e]⟩
theorem noPow_exp {r e v : Nat} (hr : NoPow r) (h : r ^ e = v) (hv : 2 ≤ v) : ∀ m y : Nat, y ^ m = v → m ∣ e := fun m y hy => by
  have m1 : 1 ≤ m := Nat.pos_of_ne_zero fun z => by rw [z, Nat.pow_zero] at hy; omega
  exact noPow_dvd hr m1 (hy.trans h.symm)
/-- the number whose power it is, and the exponent -/
noncomputable def baseN (v : Nat) : Nat := Classical.epsilon fun r => ∃ e, NoPow r ∧ r ^ e = v
noncomputable def expN (v : Nat) : Nat := Classical.epsilon fun e => baseN v ^ e = v
theorem baseN_is {v : Nat} (hv : 2 ≤ v) : NoPow (baseN v) ∧ baseN v ^ expN v = v := by
  have h := noPow_root v v (Nat.le_refl v) hv
  have h1 : ∃ e, NoPow (baseN v) ∧ baseN v ^ e = v := Classical.epsilon_spec (p := fun r => ∃ e, NoPow r ∧ r ^ e = v) h
  obtain ⟨e, a, b⟩ := h1
  exact ⟨a, Classical.epsilon_spec (p := fun e => baseN v ^ e = v) ⟨e, b⟩⟩
theorem baseN_of {v r e : Nat} (hv : 2 ≤ v) (h : r ^ e = v) (hm : ∀ m y : Nat, y ^ m = v → m ∣ e) : r = baseN v := by
  obtain ⟨h1, h2⟩ := baseN_is hv
  have d1 := noPow_exp h1 h2 hv e r h
  have d2 := hm _ _ h2
  have ee := Nat.dvd_antisymm d1 d2
  have e1 : 1 ≤ e := Nat.pos_of_ne_zero fun z => by rw [z, Nat.pow_zero] at h; omega
  exact root_eq e1 (by rw [h, ee, h2])
theorem prodF_app (l k : List Nat) (f : Nat → Nat) : prodF (l ++ k) f = prodF l f * prodF k f := by
  induction l with
  | nil => exact (Nat.one_mul _).symm
  | cons c l ih =>
    show c ^ f c * prodF (l ++ k) f = c ^ f c * prodF l f * prodF k f
    rw [ih, Nat.mul_assoc]
theorem prodF_take_le {l : List Nat} (h2 : ∀ c, c ∈ l → 2 ≤ c) (f : Nat → Nat) (i : Nat) : prodF (l.take i) f ≤ prodF l f := by
  have e : prodF l f = prodF (l.take i) f * prodF (l.drop i) f := by rw [← prodF_app, List.take_append_drop]
  rw [e]
  exact Nat.le_mul_of_pos_right _ (prodF_pos fun c hc => h2 c (List.mem_of_mem_drop hc))
theorem prodF_snoc {l : List Nat} {i c : Nat} (h : l[i]? = some c) (f : Nat → Nat) : prodF (l.take (i + 1)) f = prodF (l.take i) f * c ^ f c := by
  obtain ⟨hi, e⟩ := List.getElem?_eq_some_iff.mp h
  rw [← List.take_append_getElem hi, prodF_app, e]
  show _ * (c ^ f c * 1) = _
  rw [Nat.mul_one]
theorem prodF_pow_le {l : List Nat} (h2 : ∀ c, c ∈ l → 2 ≤ c) (f : Nat → Nat) {c : Nat} (hc : c ∈ l) : c ^ f c ≤ prodF l f := by
  obtain ⟨i, hi, e⟩ := List.getElem_of_mem hc
  have q := prodF_snoc (i := i) (c := c) (by rw [List.getElem?_eq_getElem hi, e]) f
  have w := prodF_take_le h2 f (i + 1)
  have p := prodF_pos (f := f) fun x hx => h2 x (List.mem_of_mem_take (i := i) hx)
  exact Nat.le_trans (Nat.le_mul_of_pos_left _ p) (Nat.le_trans (Nat.le_of_eq q.symm) w)
def intsD (bs : List Nat) (f : Nat → Int) : List D := bs.map fun c => .int (f c)
theorem intsD_len (bs : List Nat) (f : Nat → Int) : (intsD bs f).length = bs.length := by
  unfold intsD
  rw [List.length_map]
theorem intsD_getD {bs : List Nat} {f : Nat → Int} {m : Nat} (h : m < bs.length) : (intsD bs f).getD m .non = .int (f (bs.getD m 0)) := by
  unfold intsD
  rw [List.getD_eq_getElem?_getD, List.getElem?_map, List.getD_eq_getElem?_getD, List.getElem?_eq_getElem h]
  rfl
theorem range_ints (bs : List Nat) (f : Nat → Int) : (List.range bs.length).map (fun m => D.int (f (bs.getD m 0))) = intsD bs f := by
  have := range_nats bs
  unfold intsD
  conv => rhs; rw [← this, List.map_map]
  rfl
theorem mu_small {c v : Nat} (hc : 2 ≤ c) (h1 : 1 ≤ v) (hv : v ≤ 1000000000000000000000000000000) : mu c v < 100 := by
  obtain ⟨y, e, n⟩ := mu_spec hc v v (Nat.le_refl _) h1
  have y1 : 1 ≤ y := Nat.pos_of_ne_zero fun z => by rw [z, Nat.mul_zero] at e; omega
  have l : c ^ mu c v ≤ v := by
    have := Nat.le_mul_of_pos_right (c ^ mu c v) y1
    omega
  have l30 : 1000000000000000000000000000000 < 2 ^ 100 := by decide +kernel
  have p := Nat.pow_le_pow_left hc (mu c v)
  exact (Nat.pow_lt_pow_iff_right (a := 2) (by decide)).mp (by omega)
/-- the greatest common divisor of d and the first values -/
def gcdN (d : Nat) (bs : List Nat) (S : Nat → Int) : Nat → Nat
  | 0 => d
  | i + 1 => Nat.gcd (gcdN d bs S i) (S (bs.getD i 0)).natAbs
theorem gcdN_dvd {d : Nat} {bs : List Nat} {S : Nat → Int} : ∀ i, gcdN d bs S i ∣ d
  | 0 => Nat.dvd_refl d
  | i + 1 => Nat.dvd_trans (Nat.gcd_dvd_left _ _) (gcdN_dvd i)
theorem gcdN_val {d : Nat} {bs : List Nat} {S : Nat → Int} : ∀ {i j}, j < i → gcdN d bs S i ∣ (S (bs.getD j 0)).natAbs
  | 0, j, h => by omega
  | i + 1, j, h => by
    by_cases e : j = i
    · rw [e]
      exact Nat.gcd_dvd_right _ _
    · exact Nat.dvd_trans (Nat.gcd_dvd_left _ _) (gcdN_val (i := i) (by omega))
theorem gcdN_of {d : Nat} {bs : List Nat} {S : Nat → Int} {m : Nat} (hd : m ∣ d) : ∀ {i}, (∀ j, j < i → m ∣ (S (bs.getD j 0)).natAbs) → m ∣ gcdN d bs S i
  | 0, _ => hd
  | i + 1, h => Nat.dvd_gcd (gcdN_of hd fun j hj => h j (by omega)) (h i (by omega))
theorem getD_mem {l : List Nat} {i : Nat} (h : i < l.length) : l.getD i 0 ∈ l := by
  rw [List.getD_eq_getElem?_getD, List.getElem?_eq_getElem h]
  exact List.getElem_mem h
theorem mem_getD {l : List Nat} {c : Nat} (h : c ∈ l) : ∃ i, i < l.length ∧ l.getD i 0 = c := by
  obtain ⟨i, hi, e⟩ := List.getElem_of_mem h
  refine ⟨i, hi, ?_⟩
  rw [List.getD_eq_getElem?_getD, List.getElem?_eq_getElem hi]
  exact e
/-! ### texts of numbers -/
def tL (x : Str) : List Nat := x.cps.toList
def ofC (l : List Nat) : Str := ⟨l.toArray⟩
theorem tL_ofC (l : List Nat) : tL (ofC l) = l := by
  unfold tL ofC
  exact List.toList_toArray ..
theorem ofC_tL (x : Str) : ofC (tL x) = x := by
  unfold tL ofC
  rw [Array.toArray_toList]
theorem tL_inj {x y : Str} (h : tL x = tL y) : x = y := by
  rw [← ofC_tL x, h, ofC_tL]
theorem tL_len (x : Str) : x.length = (tL x).length := by
  show x.cps.size = x.cps.toList.length
  exact (Array.length_toList ..).symm
theorem tL_app (x y : Str) : tL (x ++ y) = tL x ++ tL y := by
  show (x.cps ++ y.cps).toList = _
  exact Array.toList_append ..
/-- the figures of a number -/
def numC (m : Nat) : List Nat := (Nat.toDigits 10 m).map Char.toNat
theorem numC_text (m : Nat) : tL (Str.ofString (toString ((m : Nat) : Int))) = numC m := PySem.W.KIN.signs_num m
theorem numC_lt {m : Nat} (h : m < 10) : numC m = [48 + m] := by
  unfold numC
  rw [Nat.toDigits_of_lt_base h]
  have : ∀ d : Nat, d < 10 → (Nat.digitChar d).toNat = 48 + d := by decide
  show [(Nat.digitChar m).toNat] = _
  rw [this m h]
theorem numC_ge {m : Nat} (h : 10 ≤ m) : numC m = numC (m / 10) ++ [48 + m % 10] := by
  have hm : m % 10 < 10 := Nat.mod_lt m (by decide)
  have t : Nat.toDigits 10 (m / 10) ++ Nat.toDigits 10 (m % 10) = Nat.toDigits 10 (10 * (m / 10) + m % 10) := Nat.toDigits_append_toDigits (by decide) (by omega) hm
  rw [Nat.div_add_mod] at t
  have := numC_lt hm
  unfold numC at this ⊢
  rw [← t, List.map_append, this]
open PySem.NumText in
theorem numC_digits (m : Nat) : AllDigits (numC m) := by
  induction m using Nat.strongRecOn with
  | _ m ih =>
    by_cases h : m < 10
    · rw [numC_lt h]
      intro c hc
      rw [List.mem_singleton.mp hc]
      omega
    · rw [numC_ge (by omega)]
      intro c hc
      rcases List.mem_append.mp hc with hc | hc
      · exact ih (m / 10) (by omega) c hc
      · rw [List.mem_singleton.mp hc]
        have := Nat.mod_lt m (show 0 < 10 by decide)
        omega
theorem numC_ne (m : Nat) : numC m ≠ [] := by
  by_cases h : m < 10
  · rw [numC_lt h]
    simp
  · rw [numC_ge (by omega)]
    simp
theorem numC_head {m : Nat} (h : 0 < m) : ∃ c r, numC m = c :: r ∧ 49 ≤ c := by
  induction m using Nat.strongRecOn with
  | _ m ih =>
    by_cases l : m < 10
    · exact ⟨48 + m, [], numC_lt l, by omega⟩
    · obtain ⟨c, r, e, hc⟩ := ih (m / 10) (by omega) (by omega)
      exact ⟨c, r ++ [48 + m % 10], by rw [numC_ge (by omega), e]; rfl, hc⟩
theorem numC_len {m k : Nat} (hk : 1 ≤ k) (h : m < 10 ^ k) : (numC m).length ≤ k := by
  induction k generalizing m with
  | zero => omega
  | succ k ih =>
    by_cases l : m < 10
    · rw [numC_lt l]
      exact hk
    · have k1 : 1 ≤ k := Nat.pos_of_ne_zero fun z => by
        subst z
        omega
      rw [numC_ge (by omega), List.length_append, List.length_singleton]
      have := ih k1 (m := m / 10) (by rw [Nat.pow_succ] at h; omega)
      omega
open PySem.NumText in
theorem numC_val (m : Nat) : digitsVal (numC m) = m := PySem.W.KIN.val_back m
open PySem.NumText in
theorem zeros_val (l : List Nat) : ∀ n, digitsVal (List.replicate n 48 ++ l) = digitsVal l
  | 0 => rfl
  | n + 1 => by
    rw [List.replicate_succ, List.cons_append, digitsVal_zero, zeros_val l n]
open PySem.NumText in
theorem zeros_digits {l : List Nat} (h : AllDigits l) (n : Nat) : AllDigits (List.replicate n 48 ++ l) := fun c hc => by
  rcases List.mem_append.mp hc with hc | hc
  · rw [List.eq_of_mem_replicate hc]
    omega
  · exact h c hc
/-- the figures of m, at least p + 1 of them -/
def padC (m p : Nat) : List Nat := List.replicate (p + 1 - (numC m).length) 48 ++ numC m
theorem padC_len (m p : Nat) : p + 1 ≤ (padC m p).length ∧ (padC m p).length = max (p + 1) (numC m).length := by
  unfold padC
  rw [List.length_append, List.length_replicate]
  omega
theorem zfill_num (m p : Nat) : tL (Txt.zfill (Str.ofString (toString ((m : Nat) : Int))) ((p + 1 : Nat) : Int)) = padC m p := by
  obtain ⟨x, hx⟩ : ∃ x, Str.ofString (toString ((m : Nat) : Int)) = x := ⟨_, rfl⟩
  have tx : tL x = numC m := by rw [← hx]; exact numC_text m
  rw [hx]
  unfold Txt.zfill padC
  have lx := tL_len x
  rw [tx] at lx
  by_cases h : ((p + 1 : Nat) : Int) ≤ x.length
  · rw [if_pos h, tx, show p + 1 - (numC m).length = 0 by omega]
    rfl
  · rw [if_neg h]
    have e : ((p + 1 : Nat) : Int).toNat - x.length = p + 1 - (numC m).length := by
      rw [Int.toNat_natCast, lx]
    rw [e]
    have hd : ∀ c, x.cps[0]? = some c → 48 ≤ c := fun c hc => by
      have m : c ∈ tL x := by
        unfold tL
        rw [Array.mem_toList_iff]
        exact Array.mem_of_getElem? hc
      rw [tx] at m
      exact (numC_digits _ c m).1
    have pad : tL (Builtin.Str.padded x (p + 1 - (numC m).length) 0 48) = List.replicate (p + 1 - (numC m).length) 48 ++ numC m := by
      unfold Builtin.Str.padded tL
      show (Array.replicate (p + 1 - (numC m).length) 48 ++ x.cps ++ Array.replicate 0 48).toList = _
      rw [Array.toList_append, Array.toList_append, Array.toList_replicate, Array.toList_replicate, List.replicate_zero, List.append_nil]
      exact congrArg (List.replicate (p + 1 - (numC m).length) 48 ++ ·) tx
    unfold zfilled
    split
    · rename_i c
      have := hd _ c
      omega
    · rename_i c
      have := hd _ c
      omega
    · exact pad
/-- the text with p decimals of m in the last place -/
def cutC (m p : Nat) : List Nat := if p = 0 then numC m else (padC m p).take ((padC m p).length - p) ++ 46 :: (padC m p).drop ((padC m p).length - p)
theorem cut_at {l : List Nat} {k : Nat} (h : k ≤ l.length) : tL (cutS (ofC l) none (some (k : Int))) = l.take k ∧ tL (cutS (ofC l) (some (k : Int)) none) = l.drop k := by
  have e : (ofC l).length = l.length := by rw [tL_len, tL_ofC]
  have e2 : (ofC l).cps.toList = l := tL_ofC l
  unfold cutS
  rw [e, e2]
  unfold tL
  simp only [HT.sIx_none, HT.sIx_nat, List.drop_zero, Nat.sub_zero]
  rw [Nat.min_eq_left h]
  refine ⟨rfl, ?_⟩
  exact List.take_of_length_le (by rw [List.length_drop]; exact Nat.le_refl _)
theorem list_uniq {c : Nat} : ∀ {a b p q : List Nat}, c ∉ a → c ∉ p → a ++ c :: b = p ++ c :: q → a = p ∧ b = q
  | [], b, [], q, _, _, h => ⟨rfl, (List.cons.inj h).2⟩
  | [], b, y :: p, q, _, hp, h => by
    have := (List.cons.inj h).1
    exact absurd (by rw [this]; exact List.mem_cons_self ..) hp
  | x :: a, b, [], q, ha, _, h => by
    have := (List.cons.inj h).1
    exact absurd (by rw [← this]; exact List.mem_cons_self ..) ha
  | x :: a, b, y :: p, q, ha, hp, h => by
    obtain ⟨h1, h2⟩ := List.cons.inj h
    obtain ⟨e1, e2⟩ := list_uniq (fun z => ha (List.mem_cons_of_mem _ z)) (fun z => hp (List.mem_cons_of_mem _ z)) h2
    exact ⟨by rw [h1, e1], e2⟩
theorem cnt_two (c : Nat) : ∀ a b : List Nat, cnt c (a ++ b) = cnt c a + cnt c b
  | [], b => by
    rw [List.nil_append, cnt_nil]
    omega
  | x :: a, b => by
    rw [List.cons_append, cnt_cons, cnt_cons, cnt_two c a b]
    omega
/-- a text without the sign, split by it -/
theorem split_none {x : Str} {c : Nat} (h : c ∉ tL x) : Txt.split x ⟨#[c]⟩ = [x] := by
  have l := split_len x c
  have e0 : cnt c x.cps.toList = 0 := cnt_none c _ h
  rw [e0] at l
  have j := StrLaws.join_split x ⟨#[c]⟩
  generalize Txt.split x ⟨#[c]⟩ = ps at l j
  match ps, l with
  | [p], _ =>
    have e : p = x := j
    rw [e]
/-- a text with the sign once, split by it -/
theorem split_once {x : Str} {c : Nat} {a b : List Nat} (e : tL x = a ++ c :: b) (ha : c ∉ a) (hb : c ∉ b) : Txt.split x ⟨#[c]⟩ = [ofC a, ofC b] := by
  have l := split_len x c
  have ec : cnt c (tL x) = 1 := by
    rw [e, cnt_two, cnt_none c a ha, cnt_cons, if_pos rfl, cnt_none c b hb]
    rfl
  have ec' : cnt c x.cps.toList = 1 := ec
  rw [ec'] at l
  have j := StrLaws.join_split x ⟨#[c]⟩
  have f := StrLaws.split_free x c
  generalize Txt.split x ⟨#[c]⟩ = ps at l j f
  match ps, l with
  | [p, q], _ =>
    have j' : p ++ ⟨#[c]⟩ ++ q = x := j
    have t : tL p ++ c :: tL q = a ++ c :: b := by
      rw [← e, ← j', tL_app, tL_app]
      show _ = tL p ++ [c] ++ tL q
      simp
    obtain ⟨e1, e2⟩ := list_uniq (f p (List.mem_cons_self ..)) ha t
    have p1 : ofC a = p := by rw [← e1]; exact ofC_tL p
    have p2 : ofC b = q := by rw [← e2]; exact ofC_tL q
    rw [p1, p2]
theorem join_one (x : Str) : Txt.join ⟨#[]⟩ [x] = x := by
  unfold Txt.join
  rw [StrLaws.glued_eq_join]
  rfl
theorem join_both (x y : Str) : Txt.join ⟨#[]⟩ [x, y] = x ++ y := by
  unfold Txt.join
  rw [StrLaws.glued_eq_join]
  refine tL_inj ?_
  show tL (x ++ ⟨#[]⟩ ++ y) = _
  rw [tL_app, tL_app, tL_app]
  show tL x ++ [] ++ tL y = _
  rw [List.append_nil]
open PySem.NumText in
theorem padC_digits (m p : Nat) : AllDigits (padC m p) := zeros_digits (numC_digits m) _
open PySem.NumText in
theorem padC_val (m p : Nat) : digitsVal (padC m p) = m := by
  unfold padC
  rw [zeros_val, numC_val]
/-- the figures ahead of the point -/
def headC (m p : Nat) : List Nat := (padC m p).take ((padC m p).length - p)
theorem headC_zero {m p : Nat} (h : (headC m p).take 1 = [48]) : headC m p = [48] := by
  have l := padC_len m p
  unfold headC at h ⊢
  by_cases c : (numC m).length ≤ p + 1
  · have e : (padC m p).length - p = 1 := by omega
    rw [e] at h ⊢
    rw [List.take_take] at h
    exact h
  · have e : padC m p = numC m := by
      unfold padC
      rw [show p + 1 - (numC m).length = 0 by omega]
      rfl
    have m0 : 0 < m := Nat.pos_of_ne_zero fun z => by
      subst z
      rw [numC_lt (by decide)] at c
      simp at c
    obtain ⟨x, r, ex, hx⟩ := numC_head m0
    rw [e, ex] at h
    have : ((x :: r).take ((x :: r).length - p)).take 1 = [x] := by
      have k : 1 ≤ (x :: r).length - p := by
        rw [← ex]
        omega
      rw [List.take_take, Nat.min_eq_left k]
      rfl
    rw [this] at h
    have := (List.cons.inj h).1
    omega
theorem signs_free {l : List Nat} (h : PySem.NumText.AllDigits l) : 46 ∉ l := fun z => by
  have := h 46 z
  omega
/-- what is ahead of the point and behind it -/
theorem halves (m p : Nat) : ∃ hs : List Str, Txt.split (ofC (cutC m p)) ⟨#[46]⟩ = hs ∧ hs.length = (if p = 0 then 1 else 2) ∧ hs[0]? = some (ofC (headC m p)) ∧ (0 < p → ∃ t, hs[1]? = some t ∧ t.length = p) ∧ Txt.join ⟨#[]⟩ hs = ofC (padC m p) ∧ (hs.map (·.length)).sum ≤ (padC m p).length := by
  by_cases p0 : p = 0
  · subst p0
    have e : cutC m 0 = numC m := rfl
    have ep : padC m 0 = numC m := by
      unfold padC
      have := List.length_pos_iff.mpr (numC_ne m)
      rw [show 0 + 1 - (numC m).length = 0 by omega]
      rfl
    have eh : headC m 0 = numC m := by
      unfold headC
      rw [ep, Nat.sub_zero, List.take_length]
    rw [e, eh, ep, split_none (by rw [tL_ofC]; exact signs_free (numC_digits m))]
    refine ⟨_, rfl, rfl, rfl, fun h => by omega, join_one _, ?_⟩
    show (ofC (numC m)).length + 0 ≤ _
    rw [tL_len, tL_ofC]
    omega
  · obtain ⟨g1, g2⟩ := padC_len m p
    have e : cutC m p = headC m p ++ 46 :: (padC m p).drop ((padC m p).length - p) := by
      unfold cutC headC
      rw [if_neg p0]
    have h1 : 46 ∉ headC m p := fun z => signs_free (padC_digits m p) (List.mem_of_mem_take z)
    have h2 : 46 ∉ (padC m p).drop ((padC m p).length - p) := fun z => signs_free (padC_digits m p) (List.mem_of_mem_drop z)
    rw [split_once (x := ofC (cutC m p)) (by rw [tL_ofC]; exact e) h1 h2]
    have l1 : (headC m p).length = (padC m p).length - p := by
      unfold headC
      rw [List.length_take]
      omega
    have l2 : ((padC m p).drop ((padC m p).length - p)).length = p := by
      rw [List.length_drop]
      omega
    refine ⟨_, rfl, by rw [if_neg p0]; rfl, rfl, fun _ => ⟨_, rfl, by rw [tL_len, tL_ofC]; exact l2⟩, ?_, ?_⟩
    · rw [join_both]
      refine tL_inj ?_
      rw [tL_app, tL_ofC, tL_ofC, tL_ofC]
      exact List.take_append_drop _ _
    · show (ofC (headC m p)).length + ((ofC ((padC m p).drop ((padC m p).length - p))).length + 0) ≤ _
      rw [tL_len, tL_ofC, tL_len, tL_ofC, l1, l2]
      omega
/-! ### numbers and their texts -/
/-- the sign of an integer's text -/
def signC (a : Int) : List Nat := if a < 0 then [45] else []
/-- the text of a number -/
def textN (a b : Int) : List Nat := signC a ++ numC a.natAbs ++ (if b = 1 then [] else 47 :: numC b.natAbs)
theorem tL_ofString (s : String) : tL (Str.ofString s) = s.toList.map Char.toNat := by
  rw [Str.ofString_eq_toList]
  exact List.toList_toArray ..
theorem int_text (i : Int) : tL (Str.ofString (toString i)) = signC i ++ numC i.natAbs := by
  cases i with
  | ofNat m =>
    rw [show signC (Int.ofNat m) = [] from if_neg (Int.not_lt.mpr (Int.natCast_nonneg m))]
    exact numC_text m
  | negSucc k =>
    rw [show signC (Int.negSucc k) = [45] from if_pos (by omega)]
    have e : toString (Int.negSucc k) = "-" ++ toString (((k + 1 : Nat)) : Int) := rfl
    rw [e, tL_ofString, String.toList_append, List.map_append, ← tL_ofString (toString _), numC_text]
    rfl
theorem numC_back {l : List Nat} (h : PySem.NumText.AllDigits l) (hne : l ≠ []) (h0 : ∀ r, l = 48 :: r → r = []) : numC (PySem.NumText.digitsVal l) = l := by
  have len : l.length = (l.length - 1) + 1 := by
    have : l.length ≠ 0 := fun z => hne (List.eq_nil_of_length_eq_zero z)
    omega
  have t := PySem.NumText.toDigits_digitsVal (l.length - 1) l len h ?_
  · unfold numC
    rw [t, List.map_map]
    refine (List.map_congr_left fun c hc => ?_).trans (List.map_id l)
    have := h c hc
    show (Char.ofNat c).toNat = c
    have all : ∀ d, d < 128 → (Char.ofNat d).toNat = d := by decide +kernel
    exact all c (by omega)
  · match l, hne, h, h0 with
    | c :: r, _, h, h0 =>
      have hc := h.head
      by_cases z : c = 48
      · subst z
        exact .inl (by rw [h0 r rfl]; rfl)
      · exact .inr ⟨c, r, rfl, by omega⟩
theorem slash_free {l : List Nat} (h : PySem.NumText.AllDigits l) : 47 ∉ l := fun z => by
  have := h _ z
  omega
theorem sign_free (a : Int) : 47 ∉ signC a := by
  unfold signC
  split
  · decide
  · decide
theorem top_free (a : Int) : 47 ∉ signC a ++ numC a.natAbs := fun z => by
  rcases List.mem_append.mp z with z | z
  · exact sign_free a z
  · exact slash_free (numC_digits _) z
theorem text_whole (a : Int) : textN a 1 = signC a ++ numC a.natAbs := by
  unfold textN
  rw [if_pos rfl, List.append_nil]
theorem text_part {a b : Int} (h : b ≠ 1) : textN a b = (signC a ++ numC a.natAbs) ++ 47 :: numC b.natAbs := by
  unfold textN
  rw [if_neg h]
/-- what stands behind a sign -/
def unsign : List Nat → List Nat
  | 45 :: r => r
  | l => l
/-- the integer that a text writes -/
def intC : List Nat → Int
  | 45 :: r => -((PySem.NumText.digitsVal r : Nat) : Int)
  | l => ((PySem.NumText.digitsVal l : Nat) : Int)
theorem unsign_ne {l : List Nat} (h : ∀ r, l ≠ 45 :: r) : unsign l = l ∧ intC l = ((PySem.NumText.digitsVal l : Nat) : Int) := by
  unfold unsign intC
  split
  · exact absurd rfl (h _)
  · exact ⟨rfl, rfl⟩
theorem num_ne (m : Nat) : ∀ r, numC m ≠ 45 :: r := fun r z => by
  have := numC_digits m 45 (by rw [z]; exact List.mem_cons_self ..)
  omega
theorem unsign_text (a : Int) : unsign (signC a ++ numC a.natAbs) = numC a.natAbs ∧ intC (signC a ++ numC a.natAbs) = a := by
  unfold signC
  by_cases h : a < 0
  · rw [if_pos h]
    refine ⟨rfl, ?_⟩
    show -((PySem.NumText.digitsVal (numC a.natAbs) : Nat) : Int) = a
    rw [numC_val]
    omega
  · rw [if_neg h, List.nil_append]
    obtain ⟨e1, e2⟩ := unsign_ne (num_ne a.natAbs)
    rw [e1, e2, numC_val]
    exact ⟨rfl, by omega⟩
theorem int_read {x : Str} (h : PySem.NumText.AllDigits (unsign (tL x))) (hne : unsign (tL x) ≠ []) (hl : x.length ≤ 4300) : PySem.intText? x = some (intC (tL x)) := by
  by_cases c : ∃ r, tL x = 45 :: r
  · obtain ⟨r, e⟩ := c
    rw [e] at h hne
    rw [e]
    exact PySem.intText_neg e h hne hl
  · obtain ⟨e1, e2⟩ := unsign_ne fun r z => c ⟨r, z⟩
    rw [e1] at h hne
    rw [e2]
    exact PySem.intText_digits h hne hl
/-! signs of texts -/
theorem at_sign {x : Str} {c i : Nat} : StrLaws.At x ⟨#[c]⟩ x.length i ↔ (tL x)[i]? = some c := by
  unfold StrLaws.At
  rw [StrLaws.subAt_eq]
  have l1 : (⟨#[c]⟩ : Str).length = 1 := rfl
  have l2 : (⟨#[c]⟩ : Str).cps.toList = [c] := rfl
  rw [l1, l2, beq_iff_eq]
  constructor
  · rintro ⟨_, h⟩
    have : ((tL x).drop i)[0]? = some c := by
      have g : (((tL x).drop i).take 1)[0]? = some c := by
        rw [show ((tL x).drop i).take 1 = [c] from h]
        rfl
      rwa [List.getElem?_take_of_lt (by decide)] at g
    rwa [List.getElem?_drop] at this
  · intro h
    have hlt : i < (tL x).length := by
      rcases Nat.lt_or_ge i (tL x).length with z | z
      · exact z
      · rw [List.getElem?_eq_none z] at h
        cases h
    refine ⟨by rw [tL_len]; omega, ?_⟩
    show ((tL x).drop i).take 1 = [c]
    rw [List.drop_eq_getElem_cons hlt, List.take_succ_cons, List.take_zero]
    rw [List.getElem?_eq_getElem hlt] at h
    rw [Option.some.inj h]
theorem part_none {x : Str} {c : Nat} (h : c ∉ tL x) : Txt.partition x ⟨#[c]⟩ = (x, Str.empty, Str.empty) := by
  unfold Txt.partition
  rcases StrLaws.occ_head x ⟨#[c]⟩ 1 (Nat.le_refl 1) with ⟨h0, _⟩ | ⟨i, r, h0, hi, _⟩
  · rw [h0]
  · exact absurd (List.mem_of_getElem? (at_sign.mp hi)) h
theorem part_once {x : Str} {c : Nat} {u v : List Nat} (e : tL x = u ++ c :: v) (hu : c ∉ u) : Txt.partition x ⟨#[c]⟩ = (ofC u, ⟨#[c]⟩, ofC v) := by
  unfold Txt.partition
  have here : (tL x)[u.length]? = some c := by
    rw [e, List.getElem?_append_right (Nat.le_refl _), Nat.sub_self]
    rfl
  rcases StrLaws.occ_head x ⟨#[c]⟩ 1 (Nat.le_refl 1) with ⟨_, hn⟩ | ⟨i, r, h0, hi, hn⟩
  · exact absurd (at_sign.mpr here) (hn _)
  · have hi' := at_sign.mp hi
    have ei : i = u.length := by
      rcases Nat.lt_trichotomy i u.length with z | z | z
      · rw [e, List.getElem?_append_left z] at hi'
        exact absurd (List.mem_of_getElem? hi') hu
      · exact z
      · exact absurd (at_sign.mpr here) (hn _ z)
    subst ei
    rw [h0]
    have e1 : Builtin.Str.strSub x 0 u.length = ofC u := tL_inj (by
      show (Builtin.Str.strSub x 0 u.length).cps.toList = _
      rw [StrLaws.strSub_toList, tL_ofC]
      show ((tL x).drop 0).take (u.length - 0) = u
      rw [e]
      simp)
    have e2 : Builtin.Str.strSub x (u.length + (⟨#[c]⟩ : Str).length) x.length = ofC v := tL_inj (by
      show (Builtin.Str.strSub x (u.length + 1) x.length).cps.toList = _
      rw [StrLaws.strSub_toList, tL_ofC, tL_len]
      show ((tL x).drop (u.length + 1)).take ((tL x).length - (u.length + 1)) = v
      rw [e, ← List.drop_drop, List.drop_left, List.drop_succ_cons, List.drop_zero, List.take_of_length_le]
      rw [List.length_append, List.length_cons]
      omega)
    show (Builtin.Str.strSub x 0 u.length, (⟨#[c]⟩ : Str), Builtin.Str.strSub x (u.length + (⟨#[c]⟩ : Str).length) x.length) = _
    rw [e1, e2]
theorem unpre (x : Str) : tL (Txt.removeprefix x ⟨#[45]⟩) = unsign (tL x) := by
  rw [StrLaws.removeprefix_eq]
  have l1 : (⟨#[45]⟩ : Str).length = 1 := rfl
  rw [l1]
  by_cases c : ∃ r, tL x = 45 :: r
  · obtain ⟨r, e⟩ := c
    have a : StrLaws.At x ⟨#[45]⟩ x.length 0 := at_sign.mpr (by rw [e]; rfl)
    obtain ⟨a1, a2⟩ := a
    rw [if_pos (by rw [a2, Bool.and_true]; exact decide_eq_true a1)]
    show tL ⟨_⟩ = _
    rw [e]
    show (((tL x).drop 1).take (x.length - 1)).toArray.toList = r
    rw [List.toList_toArray, tL_len, e]
    simp
  · rw [if_neg, (unsign_ne fun r z => c ⟨r, z⟩).1]
    intro z
    rw [Bool.and_eq_true] at z
    have a : StrLaws.At x ⟨#[45]⟩ x.length 0 := ⟨of_decide_eq_true z.1, z.2⟩
    have := at_sign.mp a
    refine c ?_
    match h : tL x, this with
    | d :: r, this => exact ⟨r, by rw [show d = 45 from Option.some.inj this]⟩
/-- figures alone, and one at least -/
def digB (x : Str) : Bool := decide (tL x ≠ []) && (tL x).all fun c => decide (48 ≤ c ∧ c ≤ 57)
theorem digB_iff {x : Str} : digB x = true ↔ tL x ≠ [] ∧ PySem.NumText.AllDigits (tL x) := by
  unfold digB PySem.NumText.AllDigits
  rw [Bool.and_eq_true, decide_eq_true_eq, List.all_eq_true]
  constructor
  · rintro ⟨a, b⟩
    exact ⟨a, fun c hc => of_decide_eq_true (b c hc)⟩
  · rintro ⟨a, b⟩
    exact ⟨a, fun c hc => decide_eq_true (b c hc)⟩
theorem dec_sign : ∀ c, c < 128 → Unicode.isDecimal c = decide (48 ≤ c ∧ c ≤ 57) := by decide +kernel
theorem dig_is (x : Str) : (Txt.isascii x && Txt.isdecimal x) = digB x := by
  have e1 : Txt.isascii x = (tL x).all fun c => decide (c < 128) := by
    unfold Txt.isascii tL
    rw [Array.all_toList]
  have e2 : Txt.isdecimal x = (decide (tL x ≠ []) && (tL x).all Unicode.isDecimal) := by
    unfold Txt.isdecimal
    have : decide (x.length > 0) = decide (tL x ≠ []) := by
      rw [tL_len]
      refine decide_eq_decide.mpr ?_
      exact List.length_pos_iff
    rw [this]
    unfold tL
    rw [Array.all_toList]
  rw [e1, e2]
  unfold digB
  cases a : (tL x).all fun c => decide (c < 128) with
  | true =>
    rw [Bool.true_and]
    congr 1
    rw [List.all_eq_true] at a
    generalize tL x = l at a ⊢
    induction l with
    | nil => rfl
    | cons c r ih =>
      rw [List.all_cons, List.all_cons, ih fun d hd => a d (List.mem_cons_of_mem _ hd), dec_sign c (of_decide_eq_true (a c (List.mem_cons_self ..)))]
  | false =>
    rw [Bool.false_and]
    symm
    rw [Bool.and_eq_false_iff]
    refine .inr ?_
    cases b : (tL x).all fun c => decide (48 ≤ c ∧ c ≤ 57) with
    | false => rfl
    | true =>
      rw [List.all_eq_true] at b
      have : ((tL x).all fun c => decide (c < 128)) = true := List.all_eq_true.mpr fun c hc => decide_eq_true (by
        have := of_decide_eq_true (b c hc)
        omega)
      rw [this] at a
      cases a
/-! a text read as a number -/
def Reads (l : List Nat) (r : D) : Prop := (∃ a b : Int, IsNum a b ∧ l = textN a b ∧ r = .tup [.int a, .int b]) ∨ (r = .non ∧ ∀ a b : Int, IsNum a b → l ≠ textN a b)
/-- the bottom's text -/
def botOf (P : Str × Str × Str) : Str := if P.2.1.length = 0 then ⟨#[49]⟩ else P.2.2
theorem text_parts {x : Str} {a b : Int} (hn : IsNum a b) (e : tL x = textN a b) : tL (Txt.partition x ⟨#[47]⟩).1 = signC a ++ numC a.natAbs ∧ tL (botOf (Txt.partition x ⟨#[47]⟩)) = numC b.natAbs := by
  by_cases c : b = 1
  · subst c
    rw [text_whole] at e
    rw [part_none (by rw [e]; exact top_free a)]
    refine ⟨e, ?_⟩
    show tL (if Str.empty.length = 0 then _ else _) = _
    rw [if_pos (show Str.empty.length = 0 from rfl)]
    show [49] = numC 1
    rw [numC_lt (by decide)]
  · rw [text_part c] at e
    rw [part_once e (top_free a)]
    refine ⟨tL_ofC _, ?_⟩
    show tL (if (⟨#[47]⟩ : Str).length = 0 then _ else _) = _
    rw [if_neg (show ¬ (⟨#[47]⟩ : Str).length = 0 by decide)]
    exact tL_ofC _
theorem text_one {a b a' b' : Int} (hn : IsNum a b) (hn' : IsNum a' b') (e : textN a b = textN a' b') : a = a' ∧ b = b' := by
  obtain ⟨p1, p2⟩ := text_parts (x := ofC (textN a b)) hn (tL_ofC _)
  obtain ⟨q1, q2⟩ := text_parts (x := ofC (textN a b)) hn' (by rw [tL_ofC, e])
  have e1 : signC a ++ numC a.natAbs = signC a' ++ numC a'.natAbs := p1.symm.trans q1
  have e2 : numC b.natAbs = numC b'.natAbs := p2.symm.trans q2
  have f1 : a = a' := by rw [← (unsign_text a).2, e1, (unsign_text a').2]
  have f2 : b.natAbs = b'.natAbs := by rw [← numC_val b.natAbs, e2, numC_val]
  obtain ⟨_, h2, _⟩ := hn
  obtain ⟨_, h2', _⟩ := hn'
  exact ⟨f1, by omega⟩
theorem Reads.same {l : List Nat} {r r' : D} (h : Reads l r) (h' : Reads l r') : r = r' := by
  rcases h with ⟨a, b, h1, h2, h3⟩ | ⟨h1, h2⟩
  · rcases h' with ⟨a', b', g1, g2, g3⟩ | ⟨g1, g2⟩
    · obtain ⟨e1, e2⟩ := text_one h1 g1 (h2.symm.trans g2)
      rw [h3, g3, e1, e2]
    · exact absurd h2 (g2 a b h1)
  · rcases h' with ⟨a', b', g1, g2, g3⟩ | ⟨g1, g2⟩
    · exact absurd g2 (h2 a' b' g1)
    · rw [h1, g1]
theorem numC_short {n : Nat} (h : n ≤ 1000000000000000000000000000000) : (numC n).length ≤ 31 := numC_len (by decide) (by
  have : (10 : Nat) ^ 31 = 10000000000000000000000000000000 := by decide +kernel
  omega)
/-- a number's limits -/
def isNumB (a b : Int) : Bool := (decide (-1000000000000000000000000000000 ≤ a) && decide (a ≤ 1000000000000000000000000000000)) && (decide (1 ≤ b) && decide (b ≤ 1000000000000000000000000000000)) && (!decide (a = 0) && decide (((a.natAbs.gcd b.natAbs : Nat) : Int) = 1))
theorem isNumB_iff {a b : Int} : isNumB a b = true ↔ IsNum a b := by
  unfold isNumB IsNum
  simp only [Bool.and_eq_true, decide_eq_true_eq, Bool.not_eq_true', decide_eq_false_iff_not]
  constructor
  · rintro ⟨⟨⟨h1, h2⟩, h3, h4⟩, h5, h6⟩
    exact ⟨h5, h3, (by have : ((Int.gcd a b : Nat) : Int) = 1 := h6
                       omega), by omega, h4⟩
  · rintro ⟨h1, h2, h3, h4, h5⟩
    refine ⟨⟨⟨by omega, by omega⟩, h2, h5⟩, h1, ?_⟩
    have : a.natAbs.gcd b.natAbs = 1 := h3
    rw [this] <;> rfl
/-! data shown by repr, in any later store -/
theorem emD_py {μ : Sto} {d : D} {p : PyData} (h : Py μ d p) : emD μ d = false := by
  cases h with
  | ref h1 h2 =>
    simp only [emD]
    rw [lstAt_cell h1]
  | _ => rfl
mutual
theorem Py.ext {μ μ' : Sto} (e : Ext μ μ') : ∀ {d : D} {p : PyData}, Py μ d p → Py μ' d p
  | _, _, .non => .non
  | _, _, .bl b => .bl b
  | _, _, .int i => .int i
  | _, _, .str x => .str x
  | _, _, .tup h => .tup (PyAll.ext e h)
  | _, _, .ro h => .ro (PyAll.ext e h)
  | _, _, .ref h1 h2 => .ref (e.lst h1) (PyAll.ext e h2)
theorem PyAll.ext {μ μ' : Sto} (e : Ext μ μ') : ∀ {ds : List D} {ps : List PyData}, PyAll μ ds ps → PyAll μ' ds ps
  | _, _, .nil => .nil
  | _, _, .cons h1 h2 => .cons (Py.ext e h1) (PyAll.ext e h2)
end
/-- repr of d is s -/
def RepIs (μ : Sto) (d : D) (s : Str) : Prop := PyData.strOk s = true ∧ ((∃ k, d = .ref k ∧ cell μ k = some (.dct []) ∧ s = "{}") ∨ ∃ p, Py μ d p ∧ p.showable = true ∧ p.depth ≤ 60 ∧ p.shown.length ≤ sizeLine ∧ s = p.shown)
theorem RepIs.ext {μ μ' : Sto} {d : D} {s : Str} (e : Ext μ μ') (h : RepIs μ d s) : RepIs μ' d s := by
  obtain ⟨ok, ⟨k, h1, h2, h3⟩ | ⟨p, h1, h2⟩⟩ := h
  · exact ⟨ok, .inl ⟨k, h1, e.2 _ _ h2, h3⟩⟩
  · exact ⟨ok, .inr ⟨p, Py.ext e h1, h2⟩⟩
theorem RepIs.go {μ : Sto} {d : D} {s : Str} {P : D → Sto → Prop} (h : RepIs μ d s) (k : P (.str s) μ) : wRepr2 [d] μ P := by
  obtain ⟨_, ⟨j, h1, h2, h3⟩ | ⟨p, h1, h2, h3, h4, h5⟩⟩ := h
  · subst h1 h3
    unfold wRepr2
    simp only [emD, h2]
    exact k
  · subst h5
    unfold wRepr2
    simp only [emD_py h1]
    exact ⟨p, h1, h2, h3, h4, k⟩
theorem kit_ss : kitB "str" "str" = some true := by decide +kernel
/-- no text -/
def NoText (μ : Sto) (d : D) : Prop := ∃ t, tyOf2 μ d = some t ∧ kitB t "str" = some false
theorem NoText.ext {μ μ' : Sto} {d : D} (e : Ext μ μ') (h : NoText μ d) : NoText μ' d := by
  obtain ⟨t, h1, h2⟩ := h
  refine ⟨t, ?_, h2⟩
  cases d with
  | ref k =>
    unfold tyOf2 at h1 ⊢
    simp only [] at h1 ⊢
    cases hc : cell μ k with
    | none =>
      rw [hc] at h1
      have : (lstAt μ k).map (fun _ => "list") = some t := h1
      unfold lstAt at this
      rw [hc] at this
      cases this
    | some o =>
      rw [e.2 _ _ hc]
      rw [hc] at h1
      cases o with
      | dct kvs => exact h1
      | lst xs =>
        have h1' : (lstAt μ k).map (fun _ => "list") = some t := h1
        show (lstAt μ' k).map (fun _ => "list") = some t
        rw [lstAt_of (e.2 _ _ hc)]
        rw [lstAt_of hc] at h1'
        exact h1'
      | _ =>
        have h1' : (lstAt μ k).map (fun _ => "list") = some t := h1
        unfold lstAt at h1'
        rw [hc] at h1'
        cases h1'
  | _ => exact h1
theorem ok_repr {x : Str} (h : ∀ c ∈ tL x, c < 128) : PyData.strOk (reprText x) = true := by
  have one : ∀ q, q = 34 ∨ q = 39 → ∀ c, c < 128 → ∀ d ∈ Builtin.Str.reprChar q c, d < 1114112 := by
    have a : ∀ c, c < 128 → ∀ d ∈ Builtin.Str.reprChar 34 c, d < 1114112 := by decide +kernel
    have b : ∀ c, c < 128 → ∀ d ∈ Builtin.Str.reprChar 39 c, d < 1114112 := by decide +kernel
    rintro q (rfl | rfl)
    · exact a
    · exact b
  have hq : reprQuote x = 34 ∨ reprQuote x = 39 := by
    unfold reprQuote
    split
    · exact .inl rfl
    · exact .inr rfl
  have fold : ∀ (l : List Nat) (acc : Array Nat), (∀ c ∈ l, c < 128) → (∀ d ∈ acc, d < 1114112) → ∀ d ∈ l.foldl (fun out c => out ++ (Builtin.Str.reprChar (reprQuote x) c).toArray) acc, d < 1114112 := by
    intro l
    induction l with
    | nil => exact fun acc _ h2 => h2
    | cons c r ih =>
      intro acc h1 h2
      refine ih _ (fun d hd => h1 d (List.mem_cons_of_mem _ hd)) fun d hd => ?_
      rcases Array.mem_append.mp hd with z | z
      · exact h2 d z
      · exact one _ hq c (h1 c (List.mem_cons_self ..)) d (by simpa using z)
  unfold PyData.strOk
  rw [Array.all_eq_true_iff_forall_mem]
  intro d hd
  refine decide_eq_true ?_
  unfold reprText at hd
  rcases Array.mem_push.mp hd with z | z
  · rw [← Array.foldl_toList] at z
    refine fold _ _ h (fun e he => ?_) d z
    rw [show e = reprQuote x by simpa using he]
    rcases hq with q | q <;> rw [q] <;> decide
  · rw [z]
    rcases hq with q | q <;> rw [q] <;> decide
theorem rep_text {μ : Sto} {x : Str} (h : ∀ c ∈ tL x, c < 128) (hl : x.length ≤ 1000) : RepIs μ (.str x) (reprText x) := by
  refine ⟨ok_repr h, .inr ⟨.str x, .str x, rfl, by simp [PyData.depth], ?_, rfl⟩⟩
  have := StrLaws.reprText_len x fun c hc => by
    have := h c hc
    omega
  have big : 20000 ≤ sizeLine := by decide
  show (reprText x).length ≤ _
  omega
/-! sizes of such texts -/
theorem log_num {i : Int} (h : i.natAbs ≤ 1000000000000000000000000000000) : i.natAbs.log2 < 1920 := by
  by_cases z : i.natAbs = 0
  · rw [z]
    decide
  · refine (Nat.log2_lt z).mpr ?_
    have l : 1000000000000000000000000000000 < 2 ^ 100 := by decide +kernel
    have l2 : (2 : Nat) ^ 100 < 2 ^ 1920 := Nat.pow_lt_pow_right (by decide) (by decide)
    omega
theorem text_short {i : Int} (h : i.natAbs ≤ 1000000000000000000000000000000) : (Str.ofString (toString i)).length ≤ 32 := by
  rw [tL_len, int_text, List.length_append]
  have := numC_short h
  unfold signC
  split <;> simp only [List.length_cons, List.length_nil] <;> omega
theorem textN_short {a b : Int} (hn : IsNum a b) : (textN a b).length ≤ 64 := by
  obtain ⟨h1, h2, h3, h4, h5⟩ := hn
  have q1 := numC_short h4
  have q2 := numC_short (n := b.natAbs) (by omega)
  unfold textN signC
  rw [List.length_append, List.length_append]
  repeat' split
  all_goals simp only [List.length_cons, List.length_nil]
  all_goals omega
theorem slash_is : Str.ofString "/" = ⟨#[47]⟩ := by decide +kernel
theorem whole_is (a : Int) : Str.ofString (toString a) = ofC (textN a 1) := tL_inj (by rw [tL_ofC, text_whole, int_text])
theorem part_is {a b : Int} (hb : 1 ≤ b) (h : b ≠ 1) : Str.ofString (toString a) ++ (Str.ofString "/" ++ Str.ofString (toString b)) = ofC (textN a b) := tL_inj (by
  rw [tL_ofC, text_part h, tL_app, tL_app, int_text, int_text, slash_is]
  have : signC b = [] := if_neg (by omega)
  rw [this]
  rfl)
/-! ### roots without bounds, products of powers of 2, 3, 5, 7 -/
structure LeastR (n a b : Nat) : Prop where
  n1 : 1 ≤ n
  a1 : 1 ≤ a
  b1 : 1 ≤ b
  cop : Nat.gcd a b = 1
  least : ∀ m x y : Nat, m ∣ n → x ^ m = a → y ^ m = b → m = 1
theorem LeastForm.r {n a b : Nat} (h : LeastForm n a b) : LeastR n a b := ⟨h.n1, h.a1, h.b1, h.cop, h.least⟩
theorem LeastR.form {n a b : Nat} (h : LeastR n a b) (h60 : n ≤ 60) (ha : a ≤ 1000000000000000000000000000000) (hb : b ≤ 1000000000000000000000000000000) : LeastForm n a b := ⟨h.n1, h60, h.a1, h.b1, ha, hb, h.cop, h.least⟩
theorem rootR_equal {n a b m c d : Nat} (f : LeastR n a b) (g : LeastR m c d) (e : a ^ m * d ^ n = c ^ n * b ^ m) : n = m ∧ a = c ∧ b = d := by
  have c1 : Nat.Coprime (a ^ m) (b ^ m) := Nat.Coprime.pow m m f.cop
  have c2 : Nat.Coprime (c ^ n) (d ^ n) := Nat.Coprime.pow n n g.cop
  have d1 : a ^ m ∣ c ^ n := c1.dvd_of_dvd_mul_right (by rw [← e]; exact Nat.dvd_mul_right _ _)
  have d2 : c ^ n ∣ a ^ m := c2.dvd_of_dvd_mul_right (by rw [e]; exact Nat.dvd_mul_right _ _)
  have ea : a ^ m = c ^ n := Nat.dvd_antisymm d1 d2
  have eb : b ^ m = d ^ n := by
    rw [← ea] at e
    exact (Nat.eq_of_mul_eq_mul_left (Nat.pow_pos f.a1) e).symm
  have n1 := f.n1
  have m1 := g.n1
  obtain ⟨w, hw⟩ : ∃ w, Nat.gcd n m = w := ⟨_, rfl⟩
  have w1 : 1 ≤ w := by rw [← hw]; exact Nat.gcd_pos_of_pos_left _ n1
  obtain ⟨n', hn'⟩ : w ∣ n := by rw [← hw]; exact Nat.gcd_dvd_left _ _
  obtain ⟨m', hm'⟩ : w ∣ m := by rw [← hw]; exact Nat.gcd_dvd_right _ _
  have cop : Nat.gcd m' n' = 1 := by
    rw [hn', hm', Nat.gcd_mul_left] at hw
    have : Nat.gcd n' m' = 1 := Nat.eq_of_mul_eq_mul_left w1 (by omega)
    rw [Nat.gcd_comm]
    exact this
  have n1' : 1 ≤ n' := Nat.pos_of_ne_zero fun z => by
    rw [z, Nat.mul_zero] at hn'
    omega
  have m1' : 1 ≤ m' := Nat.pos_of_ne_zero fun z => by
    rw [z, Nat.mul_zero] at hm'
    omega
  have ea' : a ^ m' = c ^ n' := root_eq w1 (by rw [← Nat.pow_mul, ← Nat.pow_mul, Nat.mul_comm m', Nat.mul_comm n', ← hm', ← hn', ea])
  have eb' : b ^ m' = d ^ n' := root_eq w1 (by rw [← Nat.pow_mul, ← Nat.pow_mul, Nat.mul_comm m', Nat.mul_comm n', ← hm', ← hn', eb])
  obtain ⟨t, ta, tc⟩ := common_root (m' + n') m' n' a c (Nat.le_refl _) m1' n1' cop f.a1 g.a1 ea'
  obtain ⟨u, ub, ud⟩ := common_root (m' + n') m' n' b d (Nat.le_refl _) m1' n1' cop f.b1 g.b1 eb'
  have q1 : n' = 1 := f.least n' t u ⟨w, by rw [hn', Nat.mul_comm]⟩ ta.symm ub.symm
  have q2 : m' = 1 := g.least m' t u ⟨w, by rw [hm', Nat.mul_comm]⟩ tc.symm ud.symm
  subst q1 q2
  exact ⟨by omega, by omega, by omega⟩
/-- two roots of equal value, told by powers that are equal -/
theorem rootR_same {n a b m c d D h g : Nat} (f : LeastR n a b) (k : LeastR m c d) (D1 : 1 ≤ D) (hh : h * n = D) (hg : g * m = D) (e : a ^ h * d ^ g = b ^ h * c ^ g) : n = m ∧ a = c ∧ b = d := by
  refine rootR_equal f k (root_eq D1 ?_)
  have p1 : m * D = h * (n * m) := by rw [← hh]; ac_rfl
  have p2 : n * D = g * (n * m) := by rw [← hg]; ac_rfl
  rw [Nat.mul_pow, Nat.mul_pow, ← Nat.pow_mul, ← Nat.pow_mul, ← Nat.pow_mul, ← Nat.pow_mul, p1, p2]
  generalize n * m = q
  rw [Nat.pow_mul a, Nat.pow_mul d, Nat.pow_mul c, Nat.pow_mul b, ← Nat.mul_pow, ← Nat.mul_pow, e, Nat.mul_comm (b ^ h)]
/-- numbers that are no powers -/
theorem noPow_by {c : Nat} (rs : List Nat) (h2 : 2 ≤ c) (hl : c < 2 ^ (rs.length + 2)) (chk : ((List.range rs.length).all fun i => decide (rs.getD i 0 ^ (i + 2) < c) && decide (c < (rs.getD i 0 + 1) ^ (i + 2))) = true) : NoPow c := by
  refine ⟨h2, fun m x h => ?_⟩
  have x2 : 2 ≤ x := by
    refine Nat.le_of_not_lt fun z => ?_
    have : x = 0 ∨ x = 1 := by omega
    rcases this with rfl | rfl
    · cases m with
      | zero => rw [Nat.pow_zero] at h; omega
      | succ m => rw [Nat.zero_pow (Nat.succ_pos m)] at h; omega
    · rw [Nat.one_pow] at h
      omega
  refine Nat.le_antisymm (Nat.le_of_not_lt fun z => ?_) (Nat.pos_of_ne_zero fun z => ?_)
  · have ml : m < rs.length + 2 := by
      refine Nat.lt_of_not_le fun q => ?_
      have q1 : 2 ^ (rs.length + 2) ≤ 2 ^ m := Nat.pow_le_pow_right (by decide) q
      have q2 : 2 ^ m ≤ x ^ m := Nat.pow_le_pow_left x2 m
      omega
    have ck := List.all_eq_true.mp chk (m - 2) (List.mem_range.mpr (by omega))
    rw [Bool.and_eq_true, decide_eq_true_eq, decide_eq_true_eq, show m - 2 + 2 = m by omega, ← h] at ck
    have l1 : rs.getD (m - 2) 0 < x := Nat.lt_of_not_le fun q => by
      have := Nat.pow_le_pow_left q m
      omega
    have l2 : x < rs.getD (m - 2) 0 + 1 := Nat.lt_of_not_le fun q => by
      have := Nat.pow_le_pow_left q m
      omega
    omega
  · rw [z, Nat.pow_zero] at h
    omega
theorem np2 : NoPow 2 := noPow_by [1] (by decide) (by decide) (by decide)
theorem np3 : NoPow 3 := noPow_by [1] (by decide) (by decide) (by decide)
theorem np5 : NoPow 5 := noPow_by [2, 1] (by decide) (by decide) (by decide)
theorem np7 : NoPow 7 := noPow_by [2, 1] (by decide) (by decide) (by decide)
def P4 : List Nat := [2, 3, 5, 7]
theorem cop4 : Cop P4 := by
  unfold P4 Cop
  decide
theorem two4 : ∀ c, c ∈ P4 → 2 ≤ c := by decide
theorem nop4 : ∀ c, c ∈ P4 → NoPow c := by
  intro c hc
  have : c = 2 ∨ c = 3 ∨ c = 5 ∨ c = 7 := by simpa [P4] using hc
  rcases this with rfl | rfl | rfl | rfl
  · exact np2
  · exact np3
  · exact np5
  · exact np7
def exF (es : List Int) (p : Nat) : Int := if p = 2 then es.getD 0 0 else if p = 3 then es.getD 1 0 else if p = 5 then es.getD 2 0 else es.getD 3 0
theorem tpA_prod (es : List Int) : tpA es = prodF P4 (posE (exF es)) := by
  show 1 * 2 ^ (es.getD 0 0).toNat * 3 ^ (es.getD 1 0).toNat * 5 ^ (es.getD 2 0).toNat * 7 ^ (es.getD 3 0).toNat = 2 ^ (es.getD 0 0).toNat * (3 ^ (es.getD 1 0).toNat * (5 ^ (es.getD 2 0).toNat * (7 ^ (es.getD 3 0).toNat * 1)))
  rw [Nat.one_mul, Nat.mul_one]
  ac_rfl
theorem tpB_prod {es : List Int} (hl : es.length = 4) : tpB es = prodF P4 (negE (exF es)) := by
  match es, hl with
  | [a, b, c, d], _ =>
    show 1 * 2 ^ (-a).toNat * 3 ^ (-b).toNat * 5 ^ (-c).toNat * 7 ^ (-d).toNat = 2 ^ (-a).toNat * (3 ^ (-b).toNat * (5 ^ (-c).toNat * (7 ^ (-d).toNat * 1)))
    rw [Nat.one_mul, Nat.mul_one]
    ac_rfl
theorem tpB_pos (es : List Int) : 1 ≤ tpB es := tp_pos _ 4
theorem tpA_pos (es : List Int) : 1 ≤ tpA es := tp_pos _ 4
/-! what exponents and a degree share -/
def lowG (n : Nat) (es : List Int) : Nat := es.foldl (fun g e => Nat.gcd g e.natAbs) n
theorem lowG_pos {n : Nat} (h : 0 < n) : ∀ es : List Int, 0 < lowG n es ∧ lowG n es ≤ n := by
  intro es
  induction es generalizing n with
  | nil => exact ⟨h, Nat.le_refl _⟩
  | cons e r ih =>
    have g := Nat.gcd_pos_of_pos_left e.natAbs h
    have q := ih g
    exact ⟨q.1, Nat.le_trans q.2 (Nat.gcd_le_left _ h)⟩
theorem lowG_dvd : ∀ (es : List Int) (n : Nat), lowG n es ∣ n ∧ ∀ e, e ∈ es → lowG n es ∣ e.natAbs
  | [], n => ⟨Nat.dvd_refl _, fun e he => by cases he⟩
  | e :: r, n => by
    obtain ⟨h1, h2⟩ := lowG_dvd r (Nat.gcd n e.natAbs)
    refine ⟨Nat.dvd_trans h1 (Nat.gcd_dvd_left _ _), fun x hx => ?_⟩
    rcases List.mem_cons.mp hx with rfl | hx
    · exact Nat.dvd_trans h1 (Nat.gcd_dvd_right _ _)
    · exact h2 x hx
theorem dvd_lowG : ∀ (es : List Int) {n m : Nat}, m ∣ n → (∀ e, e ∈ es → m ∣ e.natAbs) → m ∣ lowG n es
  | [], _, _, h, _ => h
  | e :: r, _, _, h, k => dvd_lowG r (Nat.dvd_gcd h (k e (List.mem_cons_self ..))) fun x hx => k x (List.mem_cons_of_mem _ hx)
def lowE (n : Nat) (es : List Int) : List Int := es.map fun e => e / (lowG n es : Int)
theorem lowE_len (n : Nat) (es : List Int) : (lowE n es).length = es.length := List.length_map _
theorem lowE_few {n b : Nat} {es : List Int} (h : ∀ e, e ∈ es → e.natAbs ≤ b) : ∀ e, e ∈ lowE n es → e.natAbs ≤ b := fun e he => by
  obtain ⟨x, hx, rfl⟩ := List.mem_map.mp he
  exact Nat.le_trans (Int.natAbs_ediv_le_natAbs x _) (h x hx)
theorem lowE_mul {n : Nat} {es : List Int} {e : Int} (he : e ∈ es) : e = (lowG n es : Int) * (e / (lowG n es : Int)) := by
  have := (lowG_dvd es n).2 e he
  exact (Int.mul_ediv_cancel' (Int.ofNat_dvd_left.mpr this)).symm
theorem low_one {n : Nat} (hn : 0 < n) (es : List Int) : lowG (n / lowG n es) (lowE n es) = 1 := by
  obtain ⟨g0, _⟩ := lowG_pos hn es
  obtain ⟨m, hm⟩ : ∃ m, lowG (n / lowG n es) (lowE n es) = m := ⟨_, rfl⟩
  obtain ⟨h1, h2⟩ := lowG_dvd (lowE n es) (n / lowG n es)
  rw [hm] at h1 h2 ⊢
  have d : lowG n es * m ∣ lowG n es := by
    refine dvd_lowG es ?_ fun e he => ?_
    · obtain ⟨k, hk⟩ := h1
      refine ⟨k, ?_⟩
      have := Nat.mul_div_cancel' (lowG_dvd es n).1
      rw [hk] at this
      rw [Nat.mul_assoc]
      exact this.symm
    · have := h2 _ (List.mem_map.mpr ⟨e, he, rfl⟩)
      have q := lowE_mul (n := n) he
      have : lowG n es * m ∣ lowG n es * (e / (lowG n es : Int)).natAbs := Nat.mul_dvd_mul_left _ this
      have q2 : e.natAbs = lowG n es * (e / (lowG n es : Int)).natAbs := by
        have z := congrArg Int.natAbs q
        rw [Int.natAbs_mul, Int.natAbs_natCast] at z
        exact z
      rw [q2]
      exact this
  have := Nat.le_of_dvd g0 d
  refine Nat.le_antisymm (Nat.le_of_not_lt fun z => ?_) (Nat.pos_of_ne_zero fun z => ?_)
  · have := Nat.mul_le_mul_left (lowG n es) (show 2 ≤ m from z)
    omega
  · rw [z, Nat.mul_zero] at d
    have := Nat.zero_dvd.mp d
    omega
theorem tp_least {n : Nat} {es : List Int} (hl : es.length = 4) (hn : 1 ≤ n) (hg : lowG n es = 1) : LeastR n (tpA es) (tpB es) := by
  refine ⟨hn, tpA_pos es, tpB_pos es, tp_cop hl, fun m x y hm hx hy => ?_⟩
  rw [tpA_prod] at hx
  rw [tpB_prod hl] at hy
  refine prod_least cop4 nop4 (E := exF es) hn (fun k hk hc => ?_) hm hx hy
  have : k ∣ lowG n es := by
    refine dvd_lowG es hk fun e he => ?_
    match es, hl with
    | [a, b, c, d], _ =>
      have : e = a ∨ e = b ∨ e = c ∨ e = d := by simpa using he
      rcases this with rfl | rfl | rfl | rfl
      · exact hc 2 (by decide)
      · exact hc 3 (by decide)
      · exact hc 5 (by decide)
      · exact hc 7 (by decide)
  rw [hg] at this
  exact Nat.dvd_one.mp this
theorem toNat_mul (g : Nat) (e : Int) : ((g : Int) * e).toNat = g * e.toNat := by
  cases e with
  | ofNat k =>
    show ((g : Int) * (k : Int)).toNat = g * k
    rw [← Int.natCast_mul]
    rfl
  | negSucc k =>
    show ((g : Int) * Int.negSucc k).toNat = g * 0
    rw [Nat.mul_zero]
    have : (g : Int) * Int.negSucc k ≤ 0 := Int.mul_nonpos_of_nonneg_of_nonpos (Int.natCast_nonneg g) (by omega)
    omega
theorem tp_low {n : Nat} {es : List Int} (hl : es.length = 4) : tpA es = tpA (lowE n es) ^ lowG n es ∧ tpB es = tpB (lowE n es) ^ lowG n es := by
  have hl' : (lowE n es).length = 4 := by rw [lowE_len, hl]
  have ex : ∀ c, c ∈ P4 → exF es c = (lowG n es : Int) * exF (lowE n es) c := by
    intro c hc
    have m : ∀ i, i < 4 → es.getD i 0 = (lowG n es : Int) * (lowE n es).getD i 0 := fun i hi => by
      have q : i < es.length := by omega
      unfold lowE
      rw [List.getD_eq_getElem?_getD, List.getD_eq_getElem?_getD, List.getElem?_map, List.getElem?_eq_getElem q]
      exact lowE_mul (List.getElem_mem q)
    unfold exF
    split
    · exact m 0 (by decide)
    · split
      · exact m 1 (by decide)
      · split
        · exact m 2 (by decide)
        · exact m 3 (by decide)
  rw [tpA_prod es, tpA_prod (lowE n es), tpB_prod hl, tpB_prod hl', ← prodF_pow, ← prodF_pow]
  refine ⟨prodF_congr fun c hc => ?_, prodF_congr fun c hc => ?_⟩
  · unfold posE
    rw [ex c hc, toNat_mul]
  · unfold negE
    rw [ex c hc, ← Int.mul_neg, toNat_mul]
/-- the exponents of a product of two roots, over the product of the degrees -/
def joinE (x : List Int) (d : Nat) (y : List Int) (f : Nat) : List Int := List.zipWith (fun a b => a * (f : Int) + b * (d : Int)) x y
theorem joinE_len {x y : List Int} {d f : Nat} (h1 : x.length = 4) (h2 : y.length = 4) : (joinE x d y f).length = 4 := by
  unfold joinE
  rw [List.length_zipWith, h1, h2] <;> rfl
theorem tp_join {x y : List Int} {d f : Nat} (h1 : x.length = 4) (h2 : y.length = 4) : tpA (joinE x d y f) * (tpB x ^ f * tpB y ^ d) = tpB (joinE x d y f) * (tpA x ^ f * tpA y ^ d) := by
  rw [tpA_prod, tpB_prod h1, tpB_prod h2, tpB_prod (joinE_len h1 h2), tpA_prod, tpA_prod, ← prodF_pow, ← prodF_pow, ← prodF_pow, ← prodF_pow, ← prodF_mul, ← prodF_mul, ← prodF_mul, ← prodF_mul]
  refine prodF_congr fun c hc => ?_
  have e : exF (joinE x d y f) c = (f : Int) * exF x c + (d : Int) * exF y c := by
    match x, h1, y, h2 with
    | [a0, a1, a2, a3], _, [b0, b1, b2, b3], _ =>
      unfold exF
      split
      · show a0 * (f : Int) + b0 * (d : Int) = (f : Int) * a0 + (d : Int) * b0
        rw [Int.mul_comm, Int.mul_comm b0]
      · split
        · show a1 * (f : Int) + b1 * (d : Int) = (f : Int) * a1 + (d : Int) * b1
          rw [Int.mul_comm, Int.mul_comm b1]
        · split
          · show a2 * (f : Int) + b2 * (d : Int) = (f : Int) * a2 + (d : Int) * b2
            rw [Int.mul_comm, Int.mul_comm b2]
          · show a3 * (f : Int) + b3 * (d : Int) = (f : Int) * a3 + (d : Int) * b3
            rw [Int.mul_comm, Int.mul_comm b3]
  unfold posE negE
  rw [e]
  generalize exF x c = u
  generalize exF y c = v
  have q1 : (f : Int) * u = ((f * u.toNat : Nat) : Int) - ((f * (-u).toNat : Nat) : Int) := by
    rw [Int.natCast_mul, Int.natCast_mul, ← Int.mul_sub]
    congr 1
    omega
  have q2 : (d : Int) * v = ((d * v.toNat : Nat) : Int) - ((d * (-v).toNat : Nat) : Int) := by
    rw [Int.natCast_mul, Int.natCast_mul, ← Int.mul_sub]
    congr 1
    omega
  generalize (f : Int) * u = U at *
  generalize (d : Int) * v = V at *
  omega
theorem tp_size7 {es : List Int} (h : ∀ e, e ∈ es → e.natAbs ≤ 720) : tp es 4 < 2 ^ 6000 := by
  have q : ∀ i, [2, 3, 5, 7].getD i 1 ^ ((es.getD i 0).toNat) ≤ [2, 3, 5, 7].getD i 1 ^ 720 := fun i => Nat.pow_le_pow_right (prime_few i).1 (getD_few h i)
  have e : tp es 4 ≤ 1 * [2, 3, 5, 7].getD 0 1 ^ 720 * [2, 3, 5, 7].getD 1 1 ^ 720 * [2, 3, 5, 7].getD 2 1 ^ 720 * [2, 3, 5, 7].getD 3 1 ^ 720 :=
    Nat.mul_le_mul (Nat.mul_le_mul (Nat.mul_le_mul (Nat.mul_le_mul (Nat.le_refl _) (q 0)) (q 1)) (q 2)) (q 3)
  have e2 : 1 * [2, 3, 5, 7].getD 0 1 ^ 720 * [2, 3, 5, 7].getD 1 1 ^ 720 * [2, 3, 5, 7].getD 2 1 ^ 720 * [2, 3, 5, 7].getD 3 1 ^ 720 = 210 ^ 720 := by
    show 1 * 2 ^ 720 * 3 ^ 720 * 5 ^ 720 * 7 ^ 720 = 210 ^ 720
    rw [Nat.one_mul, ← Nat.mul_pow, ← Nat.mul_pow, ← Nat.mul_pow]
  have e3 : (210 : Nat) ^ 720 ≤ 256 ^ 720 := Nat.pow_le_pow_left (by decide) 720
  have e4 : (256 : Nat) ^ 720 = 2 ^ 5760 := by
    rw [show (256 : Nat) = 2 ^ 8 from rfl, ← Nat.pow_mul]
  have e5 : (2 : Nat) ^ 5760 < 2 ^ 6000 := Nat.pow_lt_pow_right (by decide) (by decide)
  omega
/-- the text, or the word of what is too great -/
def textR (n a b : Nat) : Str := Str.ofString (toString (n : Int)) ++ Str.ofString " of " ++ ofC (textN (a : Int) (b : Int))
def dueR (n a b : Nat) : List D :=
  if 60 < n then [.str "error", .str "TooGreat", .str (Str.ofString (toString (n : Int)))]
  else if 1000000000000000000000000000000 < max a b then [.str "error", .str "TooGreat", .str (Str.ofString (toString ((max a b : Nat) : Int)))]
  else [.str "told", .str (textR n a b)]
theorem log_less {n k : Nat} (h : n < 2 ^ k) (hk : 1 ≤ k) : n.log2 < k := by
  by_cases z : n = 0
  · rw [z]
    have : Nat.log2 0 = 0 := by decide
    omega
  · exact (Nat.log2_lt z).mpr h
theorem part_is3 {a b : Int} (hb : 1 ≤ b) (h : b ≠ 1) : Str.ofString (toString a) ++ Str.ofString "/" ++ Str.ofString (toString b) = ofC (textN a b) := by
  rw [← part_is hb h]
  refine tL_inj ?_
  simp only [tL_app, List.append_assoc]
theorem ok_textN (a : Int) {b : Int} (hb : 1 ≤ b) : PyData.strOk (ofC (textN a b)) = true := by
  by_cases z : b = 1
  · subst z
    rw [← whole_is a]
    exact ok_ofString _
  · rw [← part_is3 hb z, ok_app, ok_app, ok_ofString, ok_ofString, ok_ofString]
    rfl
theorem ok_textR (n a : Nat) {b : Nat} (hb : 1 ≤ b) : PyData.strOk (textR n a b) = true := by
  unfold textR
  rw [ok_app, ok_app, ok_ofString, ok_ofString, ok_textN (a : Int) (b := (b : Int)) (by omega)]
  rfl
def dueP (n a b : Nat) : List PyData :=
  if 60 < n then [.str "error", .str "TooGreat", .str (Str.ofString (toString (n : Int)))]
  else if 1000000000000000000000000000000 < max a b then [.str "error", .str "TooGreat", .str (Str.ofString (toString ((max a b : Nat) : Int)))]
  else [.str "told", .str (textR n a b)]
theorem sh_strs2 (x y : Str) (hx : PyData.strOk x = true) (hy : PyData.strOk y = true) : SeqAt.shaped (.list [.str x, .str y]) = true := by
  unfold SeqAt.shaped
  have e : (PyData.list [.str x, .str y]).canLay0 = (PyData.strOk x && (PyData.strOk y && true)) := rfl
  rw [e, hx, hy]
  rfl
theorem sh_strs3 (x y z : Str) (hx : PyData.strOk x = true) (hy : PyData.strOk y = true) (hz : PyData.strOk z = true) : SeqAt.shaped (.list [.str x, .str y, .str z]) = true := by
  unfold SeqAt.shaped
  have e : (PyData.list [.str x, .str y, .str z]).canLay0 = (PyData.strOk x && (PyData.strOk y && (PyData.strOk z && true))) := rfl
  rw [e, hx, hy, hz]
  rfl
theorem due_shaped (n a : Nat) {b : Nat} (hb : 1 ≤ b) : SeqAt.shaped (.list (dueP n a b)) = true := by
  unfold dueP
  split
  · exact sh_strs3 _ _ _ (ok_ofString _) (ok_ofString _) (ok_ofString _)
  · split
    · exact sh_strs3 _ _ _ (ok_ofString _) (ok_ofString _) (ok_ofString _)
    · exact sh_strs2 _ _ (ok_ofString _) (ok_textR n a hb)
theorem due_py {μ : Sto} {i n a b : Nat} (h : lstAt μ i = some (dueR n a b)) : Py μ (.ref i) (.list (dueP n a b)) := by
  refine .ref h ?_
  unfold dueR dueP
  split
  · exact .cons (.str _) (.cons (.str _) (.cons (.str _) .nil))
  · split
    · exact .cons (.str _) (.cons (.str _) (.cons (.str _) .nil))
    · exact .cons (.str _) (.cons (.str _) .nil)
/-! ### looks: pairs of an n and what was seen; steps -/
abbrev Look := Nat × Bool
def lookD (l : Look) : D := .tup [.int (l.1 : Int), .bl l.2]
def looksD (ls : List Look) : D := .tup (ls.map lookD)
structure LooksOk (ls : List Look) : Prop where
  few : ls.length ≤ 20
  n1 : ∀ l, l ∈ ls → 1 ≤ l.1 ∧ l.1 ≤ 1000
/-- p is a step of n by the sign -/
def Step (sg : Int) (n p : Nat) : Prop := (IsPr p ∧ p ∣ n ∧ (sg = 1 ∨ 2 < p)) ∨ (sg = -1 ∧ p = 4 ∧ n % 4 = 0)
def NoWhole (ls : List Look) (p : Nat) : Prop := ∀ m, (m, false) ∈ ls → ¬ p ∣ m
/-- some kind of this sign fits -/
def FitS (sg : Int) (ls : List Look) : Prop := ∀ n, (n, true) ∈ ls → ∃ p, Step sg n p ∧ NoWhole ls p
def Surely (sg : Int) (ls : List Look) (n : Nat) : Prop := ∃ k, (k, true) ∈ ls ∧ ∀ p, Step sg k p → NoWhole ls p → p ∣ n
def Never (sg : Int) (ls : List Look) (n : Nat) : Prop := ∀ p, Step sg n p → ¬ NoWhole ls p
theorem Step.dvd {sg : Int} {n p : Nat} (h : Step sg n p) : p ∣ n := by
  rcases h with ⟨_, h, _⟩ | ⟨_, rfl, h⟩
  · exact h
  · exact Nat.dvd_of_mod_eq_zero h
/-- the steps of a kind -/
def KStep (sg : Int) (ps : Option (List Nat)) (f : Bool) (p : Nat) : Prop := match ps with
  | none => IsPr p ∧ (sg = 1 ∨ 2 < p)
  | some l => p ∈ l ∨ (f = true ∧ p = 4)
theorem splK_steps {sg : Int} {ps : Option (List Nat)} {f : Bool} (hk : IsKind sg ps f) {n : Nat} (hn : 1 ≤ n) : SplK sg ps f n ↔ ∃ p, KStep sg ps f p ∧ p ∣ n := by
  obtain ⟨hs, _, _⟩ := hk
  cases ps with
  | none =>
    unfold SplK KStep OddPr
    constructor
    · rintro (⟨rfl, h⟩ | ⟨rfl, p, h1, h2, h3⟩)
      · obtain ⟨p, h1, h2⟩ := pr_dvd n h
        exact ⟨p, ⟨h1, .inl rfl⟩, h2⟩
      · exact ⟨p, ⟨h1, .inr h3⟩, h2⟩
    · rintro ⟨p, ⟨h1, h2⟩, h3⟩
      have le := Nat.le_of_dvd hn h3
      have p2 := h1.1
      rcases hs with rfl | rfl
      · exact .inl ⟨rfl, by omega⟩
      · exact .inr ⟨rfl, p, h1, h3, h2.resolve_left (by decide)⟩
  | some l =>
    unfold SplK KStep
    constructor
    · rintro (⟨h1, h2⟩ | ⟨p, h1, h2⟩)
      · exact ⟨4, .inr ⟨h1, rfl⟩, Nat.dvd_of_mod_eq_zero h2⟩
      · exact ⟨p, .inl h1, h2⟩
    · rintro ⟨p, h1 | ⟨h1, rfl⟩, h2⟩
      · exact .inr ⟨p, h1, h2⟩
      · exact .inl ⟨h1, Nat.mod_eq_zero_of_dvd h2⟩
/-- a step of a kind that divides n is a step of n -/
theorem KStep.step {sg : Int} {ps : Option (List Nat)} {f : Bool} (hk : IsKind sg ps f) {n p : Nat} (h : KStep sg ps f p) (hd : p ∣ n) : Step sg n p := by
  obtain ⟨hs, hf, hp⟩ := hk
  cases ps with
  | none => exact .inl ⟨h.1, hd, h.2⟩
  | some l =>
    obtain ⟨good, h2⟩ := hp
    rcases h with h | ⟨h1, rfl⟩
    · have pr := (good.2.1 p h).1
      refine .inl ⟨pr, hd, ?_⟩
      rcases hs with rfl | rfl
      · exact .inl rfl
      · have p2 := pr.1
        have ne : p ≠ 2 := fun z => h2 rfl (z ▸ h)
        exact .inr (by omega)
    · refine .inr ⟨?_, rfl, Nat.mod_eq_zero_of_dvd hd⟩
      rcases hs with rfl | rfl
      · rw [hf rfl] at h1
        cases h1
      · rfl
def FitsK (sg : Int) (ps : Option (List Nat)) (f : Bool) (ls : List Look) : Prop := ∀ n b, (n, b) ∈ ls → (b = true ↔ SplK sg ps f n)
theorem FitsK.noWhole {sg : Int} {ps : Option (List Nat)} {f : Bool} {ls : List Look} (hk : IsKind sg ps f) (ok : LooksOk ls) (h : FitsK sg ps f ls) {p : Nat} (hp : KStep sg ps f p) : NoWhole ls p := fun m hm hd => by
  have n1 := (ok.n1 _ hm).1
  have := (h m false hm).mpr ((splK_steps hk n1).mpr ⟨p, hp, hd⟩)
  cases this
theorem FitsK.fitS {sg : Int} {ps : Option (List Nat)} {f : Bool} {ls : List Look} (hk : IsKind sg ps f) (ok : LooksOk ls) (h : FitsK sg ps f ls) : FitS sg ls := fun n hn => by
  have n1 := (ok.n1 _ hn).1
  obtain ⟨p, h1, h2⟩ := (splK_steps hk n1).mp ((h n true hn).mp rfl)
  exact ⟨p, h1.step hk h2, h.noWhole hk ok h1⟩
theorem FitsK.surely {sg : Int} {ps : Option (List Nat)} {f : Bool} {ls : List Look} (hk : IsKind sg ps f) (ok : LooksOk ls) (h : FitsK sg ps f ls) {n : Nat} (hn : 1 ≤ n) (hs : Surely sg ls n) : SplK sg ps f n := by
  obtain ⟨k, hk1, all⟩ := hs
  have n1 := (ok.n1 _ hk1).1
  obtain ⟨p, h1, h2⟩ := (splK_steps hk n1).mp ((h k true hk1).mp rfl)
  exact (splK_steps hk hn).mpr ⟨p, h1, all p (h1.step hk h2) (h.noWhole hk ok h1)⟩
theorem FitsK.never {sg : Int} {ps : Option (List Nat)} {f : Bool} {ls : List Look} (hk : IsKind sg ps f) (ok : LooksOk ls) (h : FitsK sg ps f ls) {n : Nat} (hn : 1 ≤ n) (hs : Never sg ls n) : ¬ SplK sg ps f n := fun z => by
  obtain ⟨p, h1, h2⟩ := (splK_steps hk hn).mp z
  exact hs p (h1.step hk h2) (h.noWhole hk ok h1)
/-- the kind with those of the primes Q (and 4) that have T -/
def someP (T : Nat → Bool) (sg : Int) (Q : List Nat) : List Nat := Q.filter fun p => T p && (decide (sg = 1) || decide (2 < p))
theorem kind_someP {T : Nat → Bool} {sg : Int} {Q : List Nat} (hs : sg = 1 ∨ sg = -1) (good : GoodPrimes Q) : IsKind sg (some (someP T sg Q)) (decide (sg = -1) && T 4) := by
  refine ⟨hs, fun z => by subst z; rfl, ⟨good.1.sublist List.filter_sublist, fun p hp => good.2.1 p (List.mem_filter.mp hp).1, Nat.le_trans (List.length_filter_le _ _) good.2.2⟩, fun z h2 => ?_⟩
  subst z
  have := (List.mem_filter.mp h2).2
  simp at this
theorem kstep_someP {T : Nat → Bool} {sg : Int} {Q : List Nat} {n p : Nat} (hsm : ∀ q, IsPr q → q ∣ n → q ∈ Q) (h : Step sg n p) (ht : T p = true) : KStep sg (some (someP T sg Q)) (decide (sg = -1) && T 4) p := by
  rcases h with ⟨h1, h2, h3⟩ | ⟨h1, rfl, _⟩
  · refine .inl (List.mem_filter.mpr ⟨hsm p h1 h2, ?_⟩)
    rw [ht, Bool.true_and, Bool.or_eq_true, decide_eq_true_eq, decide_eq_true_eq]
    exact h3
  · refine .inr ⟨?_, rfl⟩
    rw [ht, decide_eq_true h1]
    rfl
theorem kstep_has {T : Nat → Bool} {sg : Int} {Q : List Nat} {p : Nat} (h : KStep sg (some (someP T sg Q)) (decide (sg = -1) && T 4) p) : T p = true := by
  rcases h with h | ⟨h, rfl⟩
  · exact (Bool.and_eq_true _ _ ▸ (List.mem_filter.mp h).2).1
  · exact (Bool.and_eq_true _ _ ▸ h).2
/-- n has no primes but those of Q -/
def Smooth (Q : List Nat) (n : Nat) : Prop := ∀ q, IsPr q → q ∣ n → q ∈ Q
theorem fits_someP {T : Nat → Bool} {sg : Int} {Q : List Nat} {ls : List Look} (hs : sg = 1 ∨ sg = -1) (good : GoodPrimes Q) (ok : LooksOk ls) (sm : ∀ l, l ∈ ls → Smooth Q l.1) (hT : ∀ p, T p = true → NoWhole ls p) (hit : ∀ k, (k, true) ∈ ls → ∃ p, Step sg k p ∧ T p = true) :
    FitsK sg (some (someP T sg Q)) (decide (sg = -1) && T 4) ls := fun n b hn => by
  have n1 := (ok.n1 _ hn).1
  have kd := kind_someP (T := T) hs good
  rw [splK_steps kd n1]
  cases b with
  | true =>
    obtain ⟨p, h1, h2⟩ := hit n hn
    exact ⟨fun _ => ⟨p, kstep_someP (sm _ hn) h1 h2, h1.dvd⟩, fun _ => rfl⟩
  | false => exact ⟨fun z => Bool.noConfusion z, fun ⟨p, h1, h2⟩ => absurd h2 (hT p (kstep_has h1) n hn)⟩
open Classical in
/-- a fitting kind by all steps that are left -/
theorem fit_exists {sg : Int} {Q : List Nat} {ls : List Look} (hs : sg = 1 ∨ sg = -1) (good : GoodPrimes Q) (ok : LooksOk ls) (sm : ∀ l, l ∈ ls → Smooth Q l.1) (h : FitS sg ls) :
    ∃ T : Nat → Bool, FitsK sg (some (someP T sg Q)) (decide (sg = -1) && T 4) ls ∧ ∀ n, 1 ≤ n → Smooth Q n → ¬ SplK sg (some (someP T sg Q)) (decide (sg = -1) && T 4) n → Never sg ls n := by
  refine ⟨fun p => decide (NoWhole ls p), fits_someP hs good ok sm (fun p hp => of_decide_eq_true hp) (fun k hk => ?_), fun n n1 hsm no p hp hw => ?_⟩
  · obtain ⟨p, h1, h2⟩ := h k hk
    exact ⟨p, h1, decide_eq_true h2⟩
  · exact no ((splK_steps (kind_someP hs good) n1).mpr ⟨p, kstep_someP hsm hp (decide_eq_true hw), hp.dvd⟩)
open Classical in
theorem fit_avoids {sg : Int} {Q : List Nat} {ls : List Look} {n : Nat} (hs : sg = 1 ∨ sg = -1) (good : GoodPrimes Q) (ok : LooksOk ls) (sm : ∀ l, l ∈ ls → Smooth Q l.1) (hn : 1 ≤ n) (h : ¬ Surely sg ls n) :
    ∃ T : Nat → Bool, FitsK sg (some (someP T sg Q)) (decide (sg = -1) && T 4) ls ∧ ¬ SplK sg (some (someP T sg Q)) (decide (sg = -1) && T 4) n := by
  refine ⟨fun p => decide (NoWhole ls p ∧ ¬ p ∣ n), fits_someP hs good ok sm (fun p hp => (of_decide_eq_true hp).1) (fun k hk => ?_), fun z => ?_⟩
  · refine Classical.byContradiction fun no => h ⟨k, hk, fun p h1 h2 => Classical.byContradiction fun nd => no ⟨p, h1, decide_eq_true ⟨h2, nd⟩⟩⟩
  · obtain ⟨p, h1, h2⟩ := (splK_steps (kind_someP hs good) hn).mp z
    exact (of_decide_eq_true (kstep_has h1)).2 h2
theorem lcT_each {is : List Nat} {we : WE} {δ : En} {n : Nat} {item : Nat → D} {ok : Sto → Prop} {μ : Sto} {P : D → Sto → Prop} (it : Nat → List D) (val : Nat → D) (hn : n ≤ 1000) (hok : ∀ μ', Ext μ μ' → ok μ')
    (hl : ∀ j, j < n → item j = .tup (it j) ∧ (it j).length = is.length)
    (he : ∀ (j : Nat) (μ' : Sto) (Q : D → Sto → Prop), j < n → Ext μ μ' → (∀ μ'', Ext μ' μ'' → Q (val j) μ'') → we R0 (puts δ is (it j)) μ' Q)
    (hP : ∀ μ', Ext μ μ' → lstAt μ' μ.length = some ((List.range n).map val) → P (.ref μ.length) μ') : lcAllT is wYes we δ n item ok μ P := by
  refine ⟨fun j acc μ' => acc = (List.range j).map val ∧ Ext μ μ', ⟨rfl, Ext.app _ _⟩, ?_, ?_⟩
  · rintro j acc μ' hj hc ⟨rfl, e1⟩
    refine ⟨hok μ' e1, ?_⟩
    obtain ⟨ej, lj⟩ := hl j hj
    rw [ej]
    unfold lcTurnT
    refine ⟨lj, he j μ' _ hj e1 fun μ3 e3 => ⟨⟨e3.2 _ _ hc, ?_⟩, ?_, (e1.trans e3).set (Nat.le_refl _) _⟩⟩
    · rw [List.length_map, List.length_range]
      omega
    · rw [List.range_succ, List.map_append]
      rfl
  · rintro acc μ' hc ⟨rfl, e1⟩
    exact ⟨hok μ' e1, hP μ' e1 (lstAt_of hc)⟩
theorem natD_at {l : List Nat} {n : Nat} {x : D} (h : (natD l)[n]? = some x) : ∃ q, l[n]? = some q ∧ x = .int (q : Int) := by
  unfold natD at h
  rw [List.getElem?_map] at h
  cases c : l[n]? with
  | none =>
    rw [c] at h
    cases h
  | some q =>
    rw [c] at h
    exact ⟨q, rfl, (Option.some.inj h).symm⟩
def NoFit (ls : List Look) : Prop := ∀ sg, (sg = 1 ∨ sg = -1) → ¬ FitS sg ls
/-- a comprehension over pairs whose turns let the store grow and whose values are told by a property -/
theorem lcT_says {is : List Nat} {we : WE} {δ : En} {n : Nat} {item : Nat → D} {ok : Sto → Prop} {μ : Sto} {P : D → Sto → Prop} (it : Nat → List D) (Q : Nat → Prop) (hn : n ≤ 1000) (hok : ∀ μ', Ext μ μ' → ok μ')
    (hl : ∀ j, j < n → item j = .tup (it j) ∧ (it j).length = is.length)
    (he : ∀ (j : Nat) (μ' : Sto) (K : D → Sto → Prop), j < n → Ext μ μ' → (∀ b μ'', Ext μ' μ'' → SaysB b (Q j) → K (.bl b) μ'') → we R0 (puts δ is (it j)) μ' K)
    (hP : ∀ (bs : List Bool) μ', Ext μ μ' → bs.length = n → (∀ j b, bs[j]? = some b → SaysB b (Q j)) → lstAt μ' μ.length = some (bs.map .bl) → P (.ref μ.length) μ') : lcAllT is wYes we δ n item ok μ P := by
  refine ⟨fun j acc μ' => Ext μ μ' ∧ ∃ bs : List Bool, acc = bs.map .bl ∧ bs.length = j ∧ ∀ i b, bs[i]? = some b → SaysB b (Q i), ⟨Ext.app _ _, [], rfl, rfl, fun i b h => by cases h⟩, ?_, ?_⟩
  · rintro j acc μ' hj hc ⟨e1, bs, rfl, hb, hs⟩
    refine ⟨hok μ' e1, ?_⟩
    obtain ⟨ej, lj⟩ := hl j hj
    rw [ej]
    unfold lcTurnT
    refine ⟨lj, he j μ' _ hj e1 fun b μ3 e3 sb => ⟨⟨e3.2 _ _ hc, by rw [List.length_map]; omega⟩, (e1.trans e3).set (Nat.le_refl _) _, bs ++ [b], by rw [List.map_append]; rfl, by rw [List.length_append, hb]; rfl, fun i b' hi => ?_⟩⟩
    by_cases z : i = bs.length
    · subst z
      rw [List.getElem?_append_right (Nat.le_refl _), Nat.sub_self] at hi
      have eb : b = b' := Option.some.inj hi
      subst eb
      rw [hb]
      exact sb
    · have lt : i < bs.length := by
        have := (List.getElem?_eq_some_iff.mp hi).1
        rw [List.length_append, List.length_singleton] at this
        omega
      rw [List.getElem?_append_left lt] at hi
      exact hs i b' hi
  · rintro acc μ' hc ⟨e1, bs, rfl, hb, hs⟩
    exact ⟨hok μ' e1, hP bs μ' e1 hb hs (lstAt_of hc)⟩
theorem all_says {bs : List Bool} {Q : Nat → Prop} (h : ∀ j b, bs[j]? = some b → SaysB b (Q j)) : bs.all id = true ↔ ∀ j, j < bs.length → Q j := by
  rw [List.all_eq_true]
  constructor
  · intro all j hj
    exact (h j bs[j] (List.getElem?_eq_getElem hj)).mp (all _ (List.getElem_mem hj))
  · intro all b hb
    obtain ⟨j, hj, rfl⟩ := List.mem_iff_getElem.mp hb
    exact (h j bs[j] (List.getElem?_eq_getElem hj)).mpr (all j hj)

def topS (i : Nat) : Stmt := PySem.Challenge.pw_purepowers_k29_whole_kinds_for_looks.main.body.getD i (.Pass ⟨0, 0, 0, 0⟩)
abbrev s_is_between : Stmt := topS 9
theorem sc_is_between : FnScope ["value", "least", "most"] ["value", "least", "most"] (defScope s_is_between) := ⟨rfl, rfl, rfl, by decide +kernel, rfl, by decide +kernel, by decide +kernel⟩
abbrev s_is_look : Stmt := topS 27
theorem sc_is_look : FnScope ["value"] ["value"] (defScope s_is_look) := ⟨rfl, rfl, rfl, by decide +kernel, rfl, by decide +kernel, by decide +kernel⟩
abbrev s_check_looks : Stmt := topS 26
theorem sc_check_looks : FnScope ["looks", "index", "look"] ["looks"] (defScope s_check_looks) := ⟨rfl, rfl, rfl, by decide +kernel, rfl, by decide +kernel, by decide +kernel⟩
abbrev s_whole_ones : Stmt := topS 28
theorem sc_whole_ones : FnScope ["looks", "n", "truth"] ["looks"] (defScope s_whole_ones) := ⟨rfl, rfl, rfl, by decide +kernel, rfl, by decide +kernel, by decide +kernel⟩
abbrev s_least_prime_of : Stmt := topS 18
theorem sc_least_prime_of : FnScope ["value", "divisor"] ["value"] (defScope s_least_prime_of) := ⟨rfl, rfl, rfl, by decide +kernel, rfl, by decide +kernel, by decide +kernel⟩
abbrev s_primes_of : Stmt := topS 17
theorem sc_primes_of : FnScope ["value", "found", "prime"] ["value"] (defScope s_primes_of) := ⟨rfl, rfl, rfl, by decide +kernel, rfl, by decide +kernel, by decide +kernel⟩
abbrev s_odd_ones : Stmt := topS 15
theorem sc_odd_ones : FnScope ["primes", "prime"] ["primes"] (defScope s_odd_ones) := ⟨rfl, rfl, rfl, by decide +kernel, rfl, by decide +kernel, by decide +kernel⟩
abbrev s_steps_below : Stmt := topS 16
theorem sc_steps_below : FnScope ["primes", "is_four"] ["primes", "is_four"] (defScope s_steps_below) := ⟨rfl, rfl, rfl, by decide +kernel, rfl, by decide +kernel, by decide +kernel⟩
abbrev s_steps_left : Stmt := topS 30
theorem sc_steps_left : FnScope ["sign", "whole", "n", "primes", "steps", "step", "other"] ["sign", "whole", "n"] (defScope s_steps_left) := ⟨rfl, rfl, rfl, by decide +kernel, rfl, by decide +kernel, by decide +kernel⟩
abbrev s_fitting : Stmt := topS 29
theorem sc_fitting : FnScope ["looks", "found", "whole", "sign", "reasons", "n", "truth"] ["looks"] (defScope s_fitting) := ⟨rfl, rfl, rfl, by decide +kernel, rfl, by decide +kernel, by decide +kernel⟩
abbrev s_kind_by : Stmt := topS 23
theorem sc_kind_by : FnScope ["sign", "steps", "step"] ["sign", "steps"] (defScope s_kind_by) := ⟨rfl, rfl, rfl, by decide +kernel, rfl, by decide +kernel, by decide +kernel⟩
abbrev s_kind_for : Stmt := topS 22
theorem sc_kind_for : FnScope ["looks", "fitting", "sign", "reasons", "steps", "step"] ["looks"] (defScope s_kind_for) := ⟨rfl, rfl, rfl, by decide +kernel, rfl, by decide +kernel, by decide +kernel⟩
abbrev s_l_whole : Stmt := topS 36
theorem sc_l_whole : FnScope ["_law_thing", "_law_low", "_law_high"] ["_law_thing", "_law_low", "_law_high"] (defScope s_l_whole) := ⟨rfl, rfl, rfl, by decide +kernel, rfl, by decide +kernel, by decide +kernel⟩
abbrev s_l_primes : Stmt := topS 35
theorem sc_l_primes : FnScope ["_law_value_now", "_law_found", "_law_left", "_law_prime"] ["_law_value_now"] (defScope s_l_primes) := ⟨rfl, rfl, rfl, by decide +kernel, rfl, by decide +kernel, by decide +kernel⟩
abbrev s_l_is_kind : Stmt := topS 38
theorem sc_l_is_kind : FnScope ["_law_thing", "_law_each", "_law_k"] ["_law_thing"] (defScope s_l_is_kind) := ⟨rfl, rfl, rfl, by decide +kernel, rfl, by decide +kernel, by decide +kernel⟩
abbrev s_l_splits : Stmt := topS 37
theorem sc_l_splits : FnScope ["_law_kind_now", "_law_nth", "_law_own", "_law_sign", "_law_primes_now", "_law_is_four", "_law_prime"] ["_law_kind_now", "_law_nth"] (defScope s_l_splits) := ⟨rfl, rfl, rfl, by decide +kernel, rfl, by decide +kernel, by decide +kernel⟩
abbrev s_l_by_hand : Stmt := topS 44
theorem sc_l_by_hand : FnScope ["_law_far", "_law_some", "_law_each", "_law_told", "_law_nth", "_law_truth"] [] (defScope s_l_by_hand) := ⟨rfl, rfl, rfl, by decide +kernel, rfl, by decide +kernel, by decide +kernel⟩
abbrev s_l_tap : Stmt := topS 33
theorem sc_l_tap : FnScope ["_law_keg", "_law_count_now", "_law_deep", "_law_digit"] ["_law_keg", "_law_count_now"] (defScope s_l_tap) := ⟨rfl, rfl, rfl, by decide +kernel, rfl, by decide +kernel, by decide +kernel⟩
abbrev s_l_of : Stmt := topS 34
theorem sc_l_of : FnScope ["_law_keg", "_law_some"] ["_law_keg", "_law_some"] (defScope s_l_of) := ⟨rfl, rfl, rfl, by decide +kernel, rfl, by decide +kernel, by decide +kernel⟩
abbrev s_l_some_looks : Stmt := topS 41
theorem sc_l_some_looks : FnScope ["_law_keg", "_law_kind_now", "_law_most_now", "_law_found", "_law_turn", "_law_pool", "_law_nth", "_law_truth"] ["_law_keg", "_law_kind_now", "_law_most_now"] (defScope s_l_some_looks) := ⟨rfl, rfl, rfl, by decide +kernel, rfl, by decide +kernel, by decide +kernel⟩
abbrev s_l_some_kind : Stmt := topS 39
theorem sc_l_some_kind : FnScope ["_law_keg", "_law_sign", "_law_pool", "_law_primes_now", "_law_prime"] ["_law_keg"] (defScope s_l_some_kind) := ⟨rfl, rfl, rfl, by decide +kernel, rfl, by decide +kernel, by decide +kernel⟩
abbrev s_l_all_kinds : Stmt := topS 40
theorem sc_l_all_kinds : FnScope ["_law_primes_now", "_law_found", "_law_lots", "_law_prime", "_law_lot"] ["_law_primes_now"] (defScope s_l_all_kinds) := ⟨rfl, rfl, rfl, by decide +kernel, rfl, by decide +kernel, by decide +kernel⟩
abbrev s_l_fitting : Stmt := topS 42
theorem sc_l_fitting : FnScope ["_law_looks_now", "_law_primes_now", "_law_found", "_law_each", "_law_nth", "_law_truth"] ["_law_looks_now", "_law_primes_now"] (defScope s_l_fitting) := ⟨rfl, rfl, rfl, by decide +kernel, rfl, by decide +kernel, by decide +kernel⟩
abbrev s_check_degree : Stmt := topS 11
theorem sc_check_degree : FnScope ["n", "least", "most"] ["n", "least", "most"] (defScope s_check_degree) := ⟨rfl, rfl, rfl, by decide +kernel, rfl, by decide +kernel, by decide +kernel⟩
abbrev s_are_primes : Stmt := topS 25
theorem sc_are_primes : FnScope ["values", "last", "value"] ["values"] (defScope s_are_primes) := ⟨rfl, rfl, rfl, by decide +kernel, rfl, by decide +kernel, by decide +kernel⟩
abbrev s_is_sign : Stmt := topS 10
theorem sc_is_sign : FnScope ["value"] ["value"] (defScope s_is_sign) := ⟨rfl, rfl, rfl, by decide +kernel, rfl, by decide +kernel, by decide +kernel⟩
abbrev s_is_kind : Stmt := topS 24
theorem sc_is_kind : FnScope ["value", "sign", "primes", "is_four"] ["value"] (defScope s_is_kind) := ⟨rfl, rfl, rfl, by decide +kernel, rfl, by decide +kernel, by decide +kernel⟩
abbrev s_odd_part : Stmt := topS 13
theorem sc_odd_part : FnScope ["n"] ["n"] (defScope s_odd_part) := ⟨rfl, rfl, rfl, by decide +kernel, rfl, by decide +kernel, by decide +kernel⟩
abbrev s_splits_by : Stmt := topS 21
theorem sc_splits_by : FnScope ["kind", "n", "sign", "primes", "is_four", "prime"] ["kind", "n"] (defScope s_splits_by) := ⟨rfl, rfl, rfl, by decide +kernel, rfl, by decide +kernel, by decide +kernel⟩
abbrev s_l_right : Stmt := topS 43
theorem sc_l_right : FnScope ["_law_keg", "_law_again", "_law_looks_now", "_law_told", "_law_nth", "_law_truth"] ["_law_keg"] (defScope s_l_right) := ⟨rfl, rfl, rfl, by decide +kernel, rfl, by decide +kernel, by decide +kernel⟩
abbrev s_l_open : Stmt := topS 32
theorem sc_l_open : FnScope ["_law_script", "_law_k", "_law_own", "_law_stir", "_law_entry"] ["_law_script", "_law_k"] (defScope s_l_open) := ⟨rfl, rfl, rfl, by decide +kernel, rfl, by decide +kernel, by decide +kernel⟩
abbrev s_law : Stmt := topS 45
theorem sc_law : FnScope ["_law_script", "_law_k"] ["_law_script"] (defScope s_law) := ⟨rfl, rfl, rfl, by decide +kernel, rfl, by decide +kernel, by decide +kernel⟩
theorem bt_abs : bootBuiltins "abs" = some (.builtin "abs") := by decide +kernel
theorem bt_all : bootBuiltins "all" = some (.builtin "all") := by decide +kernel
theorem bt_any : bootBuiltins "any" = some (.builtin "any") := by decide +kernel
theorem bt_bool : bootBuiltins "bool" = some (.type "bool") := by decide +kernel
theorem bt_divmod : bootBuiltins "divmod" = some (.builtin "divmod") := by decide +kernel
theorem bt_enumerate : bootBuiltins "enumerate" = some (.type "enumerate") := by decide +kernel
theorem bt_int : bootBuiltins "int" = some (.type "int") := by decide +kernel
theorem bt_isinstance : bootBuiltins "isinstance" = some (.builtin "isinstance") := by decide +kernel
theorem bt_len : bootBuiltins "len" = some (.builtin "len") := by decide +kernel
theorem bt_max : bootBuiltins "max" = some (.builtin "max") := by decide +kernel
theorem bt_min : bootBuiltins "min" = some (.builtin "min") := by decide +kernel
theorem bt_range : bootBuiltins "range" = some (.type "range") := by decide +kernel
theorem bt_repr : bootBuiltins "repr" = some (.builtin "repr") := by decide +kernel
theorem bt_set : bootBuiltins "set" = some (.type "set") := by decide +kernel
theorem bt_sorted : bootBuiltins "sorted" = some (.builtin "sorted") := by decide +kernel
theorem bt_str : bootBuiltins "str" = some (.type "str") := by decide +kernel
theorem bt_tuple : bootBuiltins "tuple" = some (.type "tuple") := by decide +kernel
def c_MOST_SIZE : Int := 1000000000000000000000000000000
def c_MOST_LOOKS : Int := 20
def c_MOST_LOOKED : Int := 1000
def c_MOST_PRIME : Int := 997
def dd_check_degree : List D := [.int 1, .int 1000000000000000000000000000000]
structure Tx (K : PySem.W.Frag) (mg : Str → Option Value) where
  f_is_between : FnT K mg "is_between" s_is_between ["value", "least", "most"]
  f_is_look : FnT K mg "_is_look" s_is_look ["value"]
  f_check_looks : FnT K mg "_check_looks" s_check_looks ["looks"]
  f_whole_ones : FnT K mg "_whole_ones" s_whole_ones ["looks"]
  f_least_prime_of : FnT K mg "least_prime_of" s_least_prime_of ["value"]
  f_primes_of : FnT K mg "primes_of" s_primes_of ["value"]
  f_odd_ones : FnT K mg "odd_ones" s_odd_ones ["primes"]
  f_steps_below : FnT K mg "steps_below" s_steps_below ["primes", "is_four"]
  f_steps_left : FnT K mg "_steps_left" s_steps_left ["sign", "whole", "n"]
  f_fitting : FnT K mg "_fitting" s_fitting ["looks"]
  f_kind_by : FnT K mg "_kind_by" s_kind_by ["sign", "steps"]
  f_kind_for : FnT K mg "kind_for" s_kind_for ["looks"]
  f_l_whole : FnT K mg "_law_whole" s_l_whole ["_law_thing", "_law_low", "_law_high"]
  f_l_primes : FnT K mg "_law_primes" s_l_primes ["_law_value_now"]
  f_l_is_kind : FnT K mg "_law_is_kind" s_l_is_kind ["_law_thing"]
  f_l_splits : FnT K mg "_law_splits" s_l_splits ["_law_kind_now", "_law_nth"]
  f_l_by_hand : FnT K mg "_law_by_hand" s_l_by_hand []
  f_l_tap : FnT K mg "_law_tap" s_l_tap ["_law_keg", "_law_count_now"]
  f_l_of : FnT K mg "_law_of" s_l_of ["_law_keg", "_law_some"]
  f_l_some_looks : FnT K mg "_law_some_looks" s_l_some_looks ["_law_keg", "_law_kind_now", "_law_most_now"]
  f_l_some_kind : FnT K mg "_law_some_kind" s_l_some_kind ["_law_keg"]
  f_l_all_kinds : FnT K mg "_law_all_kinds" s_l_all_kinds ["_law_primes_now"]
  f_l_fitting : FnT K mg "_law_fitting" s_l_fitting ["_law_looks_now", "_law_primes_now"]
  f_check_degree : FnTd K mg "check_degree" s_check_degree dd_check_degree
  f_are_primes : FnT K mg "_are_primes" s_are_primes ["values"]
  f_is_sign : FnT K mg "is_sign" s_is_sign ["value"]
  f_is_kind : FnT K mg "_is_kind" s_is_kind ["value"]
  f_odd_part : FnT K mg "odd_part" s_odd_part ["n"]
  f_splits_by : FnT K mg "splits_by" s_splits_by ["kind", "n"]
  f_l_right : FnT K mg "_law_right" s_l_right ["_law_keg"]
  f_l_open : FnT K mg "_law_open" s_l_open ["_law_script", "_law_k"]
  f_law : FnT K mg "law" s_law ["_law_script"]
  b_abs : mg "abs" = none
  b_all : mg "all" = none
  b_any : mg "any" = none
  b_bool : mg "bool" = none
  b_divmod : mg "divmod" = none
  b_enumerate : mg "enumerate" = none
  b_int : mg "int" = none
  b_isinstance : mg "isinstance" = none
  b_len : mg "len" = none
  b_max : mg "max" = none
  b_min : mg "min" = none
  b_range : mg "range" = none
  b_repr : mg "repr" = none
  b_set : mg "set" = none
  b_sorted : mg "sorted" = none
  b_str : mg "str" = none
  b_tuple : mg "tuple" = none
  {t_MOST_SIZE : Tok}
  c_MOST_SIZE : mg "MOST_SIZE" = some (.int c_MOST_SIZE t_MOST_SIZE)
  {t_MOST_LOOKS : Tok}
  c_MOST_LOOKS : mg "MOST_LOOKS" = some (.int c_MOST_LOOKS t_MOST_LOOKS)
  {t_MOST_LOOKED : Tok}
  c_MOST_LOOKED : mg "MOST_LOOKED" = some (.int c_MOST_LOOKED t_MOST_LOOKED)
  {t_MOST_PRIME : Tok}
  c_MOST_PRIME : mg "MOST_PRIME" = some (.int c_MOST_PRIME t_MOST_PRIME)

def g0_0 {α : Type} : List α → List α → List α
  | [], [w0] => [w0]
  | _, _ => []
theorem gall_g0_0 : GAll 0 1 g0_0 := by
  intro K ι H ds es vs zs l1 l2 h1 h2
  match ds, l1, h1, es, l2, h2 with
  | [], _, h1, [w0], _, h2 =>
    have e1 : vs = [] := h1
    obtain ⟨y0, e2, iy0⟩ := isAll1 h2
    subst e1 e2
    exact ⟨_, _, rfl, iy0, rfl⟩
theorem bd_check_degree_3 {K : PySem.W.Frag} {f : Addr} {fd : FuncData} (F : FunDf K "check_degree" "check_degree" s_check_degree dd_check_degree f fd) : BdD K fd ["n", "least", "most"] (dd_check_degree.drop 2) :=
  bdD_of F 3 2 rfl fun T kV doc pm an cdv ct us its l1 (l2 : its.length = 2) => match us, l1, its, l2 with
    | [_, _, _], _, [_, _], _ => ⟨_, rfl, rfl⟩
theorem kb_kind_for_g0_0l {K : PySem.W.Frag} {f : Addr} {fd : FuncData} (F : Fun K "kind_for" "kind_for" s_kind_for f fd) : KBd K fd ["looks"] ["looks"] 0 g0_0 := by
  refine kbd_of F (fun kV doc pm an cdv ct us ws l1 l2 => ?_) (fun l1 l2 r1 r2 => ?_)
  · match us, l1, ws, l2 with
    | [], _, [_], _ => rfl
  · rename_i vs us zs ws
    match vs, l1, us, r1, zs, l2, ws, r2 with
    | [], _, [], .nil, [_], _, [_], .cons b0 .nil =>
      exact .cons b0 .nil

/-! an int between two -/
theorem kit_ii : kitB "int" "int" = some true := by decide +kernel
theorem kit_ib : kitB "int" "bool" = some false := by decide +kernel
theorem kit_tt : kitB "tuple" "tuple" = some true := by decide +kernel
def sp_is_between : SpD := fun ds μ P _ => ∃ i l m : Int, ds = [.int i, .int l, .int m] ∧ P (.bl (decide (l ≤ i) && decide (i ≤ m))) μ
theorem len_is_between : ∀ ds μ Pd R, sp_is_between ds μ Pd R → ds.length = 3 := fun ds μ Pd R ⟨i, l, m, e, _⟩ => by rw [e] <;> rfl
def W_is_between : WS :=
  (wSeq (wIfS (wOr (wNot (wTruth (wCB (wIsi "int") (wCons (wVar 0) (wCons (wC (.ty "int")) wNil))))) (wTruth (wCB (wIsi "bool") (wCons (wVar 0) (wCons (wC (.ty "bool")) wNil))))) (wRet (wC (.bl false))) wNext)
  (wRet (wChain wLe wLe (wVar 1) (wVar 0) (wVar 2))))
theorem vc_is_between : ∀ ds μ Pd R, sp_is_between ds μ Pd R → W_is_between (fun _ C fs μ' => R C fs μ') { nx := fun _ μ' => Pd .non μ', rt := Pd } (startD 3 ds) μ := by
  intro ds μ Pd R h
  obtain ⟨i, l, m, rfl, k⟩ := h
  unfold W_is_between
  walk_at "hd"
  refine ⟨_, _, rfl, kit_ii, ?_⟩
  simp only [Bool.not_true]
  refine ⟨_, _, rfl, kit_ib, ?_⟩
  simp only []
  cases c : decide (l ≤ i) with
  | true =>
    simp only []
    rw [c, Bool.true_and] at k
    exact k
  | false =>
    simp only []
    rw [c, Bool.false_and] at k
    exact k

/-! a look is one -/
def sp_is_look : SpD := fun ds μ P _ => ∃ l : Look, ds = [lookD l] ∧ 1 ≤ l.1 ∧ l.1 ≤ 1000 ∧ P (.bl true) μ
theorem len_is_look : ∀ ds μ Pd R, sp_is_look ds μ Pd R → ds.length = 1 := fun ds μ Pd R ⟨i, e, _⟩ => by rw [e] <;> rfl
theorem kit_bbL : kitB "bool" "bool" = some true := by decide +kernel
def W_is_look : WS :=
  (wSeq (wIfS (wOr (wNot (wTruth (wCB (wIsi "tuple") (wCons (wVar 0) (wCons (wC (.ty "tuple")) wNil))))) (wB (wOp wNe (wCB wLen (wCons (wVar 0) wNil)) (wC (.int 2))))) (wRet (wC (.bl false))) wNext)
  (wRet (wAndV (wCall sp_is_between (wCons (wOp wIx (wVar 0) (wC (.int 0))) (wCons (wC (.int 1)) (wCons (wC (.int c_MOST_LOOKED)) wNil)))) (wCB (wIsi "bool") (wCons (wOp wIx (wVar 0) (wC (.int 1))) (wCons (wC (.ty "bool")) wNil))))))
theorem vc_is_look : ∀ ds μ Pd R, sp_is_look ds μ Pd R → W_is_look (fun _ C fs μ' => R C fs μ') { nx := fun _ μ' => Pd .non μ', rt := Pd } (startD 1 ds) μ := by
  intro ds μ Pd R h
  obtain ⟨⟨n, b⟩, rfl, h1, h2, k⟩ := h
  unfold W_is_look
  unfold lookD
  walk_at "hd"
  simp only [] at h1 h2
  refine ⟨"tuple", true, rfl, kit_tt, ?_⟩
  simp only [Bool.not_true]
  refine ⟨2, rfl, ?_⟩
  rw [show decide (((2 : Nat) : Int) = 2) = true from by decide]
  simp only [Bool.not_true]
  refine ⟨(n : Int), 1, c_MOST_LOOKED, rfl, ?_⟩
  rw [decide_eq_true (show (1 : Int) ≤ (n : Int) by omega), decide_eq_true (show (n : Int) ≤ c_MOST_LOOKED by unfold c_MOST_LOOKED; omega)]
  exact ⟨"bool", true, rfl, kit_bbL, k⟩

/-! looks are no error -/
def sp_check_looks : SpD := fun ds μ P _ => ∃ ls : List Look, ds = [looksD ls] ∧ LooksOk ls ∧ P .non μ
theorem len_check_looks : ∀ ds μ Pd R, sp_check_looks ds μ Pd R → ds.length = 1 := fun ds μ Pd R ⟨i, e, _⟩ => by rw [e] <;> rfl
def W_check_looks : WS :=
  (wSeq (wIfS (wNot (wTruth (wCB (wIsi "tuple") (wCons (wVar 0) (wCons (wC (.ty "tuple")) wNil))))) wNever wNext)
  (wForE (wCons (wVar 0) wNil) (wgTup 2 (wgCons (wgName 1) (wgCons (wgName 2) wgEnd))) (wIfS (wOr (wB (wOp wEq (wVar 1) (wC (.int c_MOST_LOOKS)))) (wNot (wTruth (wCall sp_is_look (wCons (wVar 2) wNil))))) wNever wNext)))
theorem vc_check_looks : ∀ ds μ Pd R, sp_check_looks ds μ Pd R → W_check_looks (fun _ C fs μ' => R C fs μ') { nx := fun _ μ' => Pd .non μ', rt := Pd } (startD 3 ds) μ := by
  intro ds μ Pd R h
  obtain ⟨ls, rfl, ok, k⟩ := h
  unfold W_check_looks
  unfold looksD
  walk_at "hd"
  refine ⟨"tuple", true, rfl, kit_tt, ?_⟩
  simp only [Bool.not_true]
  unfold wForE
  walk_at "hd"
  refine ⟨ls.map lookD, fun i δ' μ' => μ' = μ ∧ ∃ x y, δ' = [some (.tup (ls.map lookD)), x, y], ⟨rfl, _, _, rfl⟩, ?_, ?_, ?_⟩
  · rintro i δ' μ' ⟨rfl, _⟩
    rfl
  · rintro i x δ' μ' hi ⟨rfl, y, z, rfl⟩
    rw [List.getElem?_map] at hi
    cases hl : ls[i]? with
    | none =>
      rw [hl] at hi
      cases hi
    | some l =>
      rw [hl] at hi
      have hi' : lookD l = x := Option.some.inj hi
      subst hi'
      have il := (List.getElem?_eq_some_iff.mp hl).1
      have few := ok.few
      have n1 := ok.n1 l (List.mem_of_getElem? hl)
      walk_at "hd"
      rw [decide_eq_false (show ¬ (i : Int) = c_MOST_LOOKS by unfold c_MOST_LOOKS; omega)]
      simp only []
      refine ⟨l, rfl, n1.1, n1.2, ?_⟩
      simp only [Bool.not_true]
      exact ⟨trivial, _, _, rfl⟩
  · rintro δ' μ' ⟨rfl, _⟩
    exact k

/-! all n that were seen to be whole -/
def wholeL (ls : List Look) : List Nat := (ls.filter fun l => !l.2).map (·.1)
def sp_whole_ones : SpD := fun ds μ P _ => ∃ ls : List Look, ds = [looksD ls] ∧ LooksOk ls ∧ ∀ (j : Nat) μ', μ.length ≤ j → Ext μ μ' → lstAt μ' j = some (natD (wholeL ls)) → P (.ref j) μ'
theorem len_whole_ones : ∀ ds μ Pd R, sp_whole_ones ds μ Pd R → ds.length = 1 := fun ds μ Pd R ⟨i, e, _⟩ => by rw [e] <;> rfl
theorem look_at {ls : List Look} {m : Nat} (h : m < ls.length) : (ls.map lookD).getD m .non = lookD ls[m] := by
  rw [List.getD_eq_getElem?_getD, List.getElem?_map, List.getElem?_eq_getElem h]
  rfl
def W_whole_ones : WS :=
  (wRet (wLcLT [1, 2] (wVar 0) (wNot (wTruth (wVar 2))) (wVar 1)))
theorem vc_whole_ones : ∀ ds μ Pd R, sp_whole_ones ds μ Pd R → W_whole_ones (fun _ C fs μ' => R C fs μ') { nx := fun _ μ' => Pd .non μ', rt := Pd } (startD 3 ds) μ := by
  intro ds μ Pd R h
  obtain ⟨ls, rfl, ok, k⟩ := h
  unfold W_whole_ones
  unfold looksD
  walk_at "hd"
  simp only [wLcLT]
  walk_at "hd"
  refine ⟨ls.map lookD, rfl, ?_⟩
  rw [List.length_map]
  have few := ok.few
  refine ⟨fun j acc μ' => acc = natD (wholeL (ls.take j)) ∧ Ext μ μ', ⟨rfl, Ext.app _ _⟩, ?_, ?_⟩
  · rintro j acc μ' hj hc ⟨rfl, e1⟩
    refine ⟨rfl, ?_⟩
    have it : (fun m => (ls.map lookD).getD m D.non) j = lookD ls[j] := look_at hj
    rw [it]
    have tk : ls.take (j + 1) = ls.take j ++ [ls[j]] := List.take_succ_eq_append_getElem hj
    have wl : wholeL (ls.take (j + 1)) = wholeL (ls.take j) ++ (if ls[j].2 then [] else [ls[j].1]) := by
      unfold wholeL
      rw [tk, List.filter_append, List.map_append]
      congr 1
      cases h : ls[j].2 with
      | true => rw [List.filter_cons_of_neg (by rw [h]; decide)]; rfl
      | false => rw [List.filter_cons_of_pos (by rw [h]; rfl)]; rfl
    have wlen : (wholeL (ls.take j)).length ≤ 20 := by
      unfold wholeL
      rw [List.length_map]
      exact Nat.le_trans (List.length_filter_le _ _) (Nat.le_trans (List.length_take_le _ _) (by omega))
    revert wl
    generalize ls[j] = l
    obtain ⟨n, b⟩ := l
    intro wl
    unfold lcTurnT lookD
    refine ⟨rfl, ?_⟩
    simp only [puts]
    walk_at "hd"
    cases b with
    | true =>
      simp only [Bool.not_true]
      refine ⟨hc, ?_, e1⟩
      rw [wl]
      exact (List.append_nil _).symm ▸ rfl
    | false =>
      simp only [Bool.not_false]
      refine ⟨⟨hc, by rw [natD_len]; omega⟩, ?_, e1.set (Nat.le_refl _) _⟩
      rw [wl]
      exact (natD_app _ _).symm
  · rintro acc μ' hc ⟨rfl, e1⟩
    refine ⟨rfl, ?_⟩
    rw [List.take_length] at hc
    exact k _ _ (Nat.le_refl _) e1 (lstAt_of hc)

/-! the least prime of an integer -/
def sp_least_prime_of : SpD := fun ds μ P _ => ∃ n : Nat, ds = [.int (n : Int)] ∧ 2 ≤ n ∧ n < 2 ^ 60 ∧ ∀ p : Nat, IsPr p → p ∣ n → (∀ q, IsPr q → q ∣ n → p ≤ q) → P (.int (p : Int)) μ
theorem len_least_prime_of : ∀ ds μ Pd R, sp_least_prime_of ds μ Pd R → ds.length = 1 := fun ds μ Pd R ⟨i, e, _⟩ => by rw [e] <;> rfl
def W_least_prime_of : WS :=
  (wSeq (wIfS (wB (wOp wEq (wOp wMod (wVar 0) (wC (.int 2))) (wC (.int 0)))) (wRet (wC (.int 2))) wNext)
  (wSeq (wAsg (wC (.int 3)) (wgName 1))
  (wSeq (wWhile (wB (wOp wLe (wOp wMul (wVar 1) (wVar 1)) (wVar 0))) (wSeq (wIfS (wB (wOp wEq (wOp wMod (wVar 0) (wVar 1)) (wC (.int 0)))) (wRet (wVar 1)) wNext)
  (wAsg (wOp wAdd (wVar 1) (wC (.int 2))) (wgName 1))))
  (wRet (wVar 0)))))
theorem vc_least_prime_of : ∀ ds μ Pd R, sp_least_prime_of ds μ Pd R → W_least_prime_of (fun _ C fs μ' => R C fs μ') { nx := fun _ μ' => Pd .non μ', rt := Pd } (startD 2 ds) μ := by
  intro ds μ Pd R h
  obtain ⟨n, rfl, hn2, hn, k⟩ := h
  unfold W_least_prime_of
  walk_at "hd"
  refine ⟨by decide, ?_⟩
  cases c0 : decide ((n : Int) % 2 = 0) with
  | true =>
    have c0' : 2 ∣ n := Nat.dvd_of_mod_eq_zero (by
      have := of_decide_eq_true c0
      omega)
    simp only []
    exact k 2 (pr_of (by decide) (by decide)) c0' fun q hq _ => hq.1
  | false =>
    have odd : n % 2 = 1 := by
      have := of_decide_eq_false c0
      omega
    simp only []
    unfold wWhile
    refine ⟨fun m δ' μ' => ∃ d : Nat, δ' = [some (.int (n : Int)), some (.int (d : Int))] ∧ μ' = μ ∧ m = n + 2 - d ∧ 3 ≤ d ∧ d % 2 = 1 ∧ d ≤ n + 2 ∧ Rough d n, ⟨n + 2 - 3, 3, rfl, rfl, rfl, Nat.le_refl _, by decide, by omega, (Rough.two n).next fun z => by
      have := Nat.mod_eq_zero_of_dvd z
      omega⟩, ?_⟩
    rintro m δ' μ' ⟨d, rfl, rfl, rfl, h3, ho, hd, hr⟩
    walk_at "hd"
    have l60 : (2 : Nat) ^ 60 + 2 < 2 ^ 130 := by decide +kernel
    have qq : (d : Int) * (d : Int) = ((d * d : Nat) : Int) := by rw [Int.natCast_mul]
    rw [qq]
    refine ⟨mulOk (a := 130) (b := 130) (by rw [Int.natAbs_natCast]; omega) (by rw [Int.natAbs_natCast]; omega) (by decide), ?_⟩
    cases c : decide (((d * d : Nat) : Int) ≤ (n : Int)) with
    | true =>
      have c' : d * d ≤ n := by
        have := of_decide_eq_true c
        omega
      have d2 : d * 3 ≤ d * d := Nat.mul_le_mul_left d h3
      simp only []
      refine ⟨by omega, ?_⟩
      cases c2 : decide ((n : Int) % (d : Int) = 0) with
      | true =>
        have dv := dvd_int.mp (of_decide_eq_true c2)
        simp only []
        exact k d (hr.prime (by omega) dv) dv fun q hq hqn => hr q hq hqn
      | false =>
        have dv : ¬ d ∣ n := fun z => of_decide_eq_false c2 (dvd_int.mpr z)
        simp only []
        refine ⟨n + 2 - (d + 2), by omega, d + 2, by rw [show ((d + 2 : Nat) : Int) = (d : Int) + 2 by omega], rfl, by omega, by omega, by omega, ?_⟩
        refine (hr.next dv).next fun z => ?_
        have z2 : 2 ∣ d + 1 := Nat.dvd_of_mod_eq_zero (by omega)
        have := Nat.mod_eq_zero_of_dvd (Nat.dvd_trans z2 z)
        omega
    | false =>
      have c' : n < d * d := by
        have := of_decide_eq_false c
        omega
      simp only []
      have pn := hr.last (by omega) c'
      exact k n pn (Nat.dvd_refl n) fun q hq hqn => Nat.le_of_eq (pr_eq hq pn hqn).symm

/-! the primes of an integer, one by one -/
structure Some_ (n : Nat) (F : List Nat) (v : Nat) : Prop where
  v1 : 1 ≤ v
  vn : v ∣ n
  asc : F.Pairwise (· < ·)
  mem : ∀ p, p ∈ F ↔ IsPr p ∧ p ∣ n ∧ ¬ p ∣ v
  gap : ∀ p, p ∈ F → ∀ q, IsPr q → q ∣ v → p < q
def sp_primes_of : SpD := fun ds μ P _ => ∃ n : Nat, ds = [.int (n : Int)] ∧ 1 ≤ n ∧ n < 2 ^ 60 ∧ ∀ L : List Nat, PrimesIs n L → P (.ref μ.length) (μ ++ [.lst (natD L)])
theorem len_primes_of : ∀ ds μ Pd R, sp_primes_of ds μ Pd R → ds.length = 1 := fun ds μ Pd R ⟨i, e, _⟩ => by rw [e] <;> rfl
def W_primes_of : WS :=
  (wSeq (wAsg (wLst wNil) (wgName 1))
  (wSeq (wWhile (wB (wOp wGt (wVar 0) (wC (.int 1)))) (wSeq (wAsg (wCall sp_least_prime_of (wCons (wVar 0) wNil)) (wgName 2))
  (wSeq (wDrop (wApp (wVar 1) (wVar 2)))
  (wWhile (wB (wOp wEq (wOp wMod (wVar 0) (wVar 2)) (wC (.int 0)))) (wAsg (wOp wDiv (wVar 0) (wVar 2)) (wgName 0))))))
  (wRet (wVar 1))))
theorem vc_primes_of : ∀ ds μ Pd R, sp_primes_of ds μ Pd R → W_primes_of (fun _ C fs μ' => R C fs μ') { nx := fun _ μ' => Pd .non μ', rt := Pd } (startD 3 ds) μ := by
  intro ds μ Pd R h
  obtain ⟨n, rfl, hn1, hn, k⟩ := h
  unfold W_primes_of
  walk_at "hd"
  refine ⟨by decide, ?_⟩
  unfold wWhile
  refine ⟨fun m δ' μ' => ∃ (v : Nat) (F : List Nat) (x2 : Option D), δ' = [some (.int (v : Int)), some (.ref μ.length), x2] ∧ μ' = μ ++ [.lst (natD F)] ∧ m = v ∧ 2 ^ F.length * v ≤ n ∧ Some_ n F v, ⟨n, n, [], none, rfl, rfl, rfl, by show 2 ^ 0 * n ≤ n; omega, hn1, Nat.dvd_refl n, List.Pairwise.nil, fun p => ⟨fun h => (by cases h), fun ⟨_, h1, h2⟩ => absurd h1 h2⟩, fun _ h => (by cases h)⟩, ?_⟩
  rintro m δ' μ' ⟨v, F, x2, rfl, rfl, rfl, hfew, t⟩
  have v1 := t.v1
  have fl := few_of hfew v1 hn
  have vn := Nat.le_of_dvd hn1 t.vn
  walk_at "hd"
  cases c : decide ((1 : Int) < (m : Int)) with
  | false =>
    have c' : m = 1 := by
      have := of_decide_eq_false c
      omega
    subst c'
    simp only []
    refine k F ⟨t.asc, fun p => (t.mem p).trans ⟨fun z => ⟨z.1, z.2.1⟩, fun z => ⟨z.1, z.2, fun y => ?_⟩⟩⟩
    have := Nat.le_of_dvd (by decide) y
    have := z.1.1
    omega
  | true =>
    have c' : 1 < m := by
      have := of_decide_eq_true c
      omega
    simp only []
    refine ⟨m, rfl, c', by omega, fun p hp hpm hl => ?_⟩
    simp only [wApp]
    walk_at "hd"
    refine ⟨⟨_, lst_new _ _⟩, ?_⟩
    simp only [lst_new]
    refine ⟨by rw [natD_len]; omega, ?_⟩
    have p2 := hp.1
    refine ⟨fun z δ' μ' => ∃ (u j : Nat), δ' = [some (.int (u : Int)), some (.ref μ.length), some (.int (p : Int))] ∧ μ' = μ ++ [.lst (natD (F ++ [p]))] ∧ z = u ∧ 1 ≤ u ∧ m = p ^ j * u ∧ (j = 0 → p ∣ u), ⟨m, m, 0, rfl, by rw [set_last, natD_app], rfl, v1, by rw [Nat.pow_zero, Nat.one_mul], fun _ => hpm⟩, ?_⟩
    rintro z δ' μ' ⟨u, j, rfl, rfl, rfl, u1, e, hj⟩
    walk_at "hd"
    refine ⟨by omega, ?_⟩
    have um : z ∣ m := by rw [e]; exact Nat.dvd_mul_left _ _
    cases c2 : decide ((z : Int) % (p : Int) = 0) with
    | true =>
      obtain ⟨y, rfl⟩ := dvd_int.mp (of_decide_eq_true c2)
      have e2 : ((p * y : Nat) : Int) / (p : Int) = (y : Int) := by
        rw [← Int.natCast_ediv, Nat.mul_div_cancel_left y (by omega)]
      have y1 : 1 ≤ y := Nat.pos_of_ne_zero fun w => by
        rw [w, Nat.mul_zero] at u1
        omega
      have := Nat.mul_le_mul_right y p2
      have pm := Nat.le_of_dvd v1 hpm
      simp only []
      rw [e2]
      refine ⟨divOkN (by omega) (show p < 2 ^ 60 by omega) (by decide), y, by omega, y, j + 1, rfl, rfl, y1, by rw [e, Nat.pow_succ, Nat.mul_assoc], fun w => absurd w (by omega)⟩
    | false =>
      have nz : ¬ p ∣ z := fun w => of_decide_eq_false c2 (dvd_int.mpr w)
      have j1 : 1 ≤ j := Nat.pos_of_ne_zero fun w => nz (hj w)
      have pz : p * z ≤ m := by
        have h1 : p ^ 1 ≤ p ^ j := Nat.pow_le_pow_right (by omega) j1
        rw [Nat.pow_one] at h1
        rw [e]
        exact Nat.mul_le_mul_right z h1
      have h2z := Nat.mul_le_mul_right z p2
      simp only []
      refine ⟨z, by omega, z, F ++ [p], _, rfl, rfl, rfl, ?_, u1, Nat.dvd_trans um t.vn, ?_, fun q => ?_, fun q hq r hr hrz => ?_⟩
      · rw [List.length_append]
        exact few_step hfew p2 pz
      · exact List.pairwise_append.mpr ⟨t.asc, List.pairwise_singleton _ _, fun a ha b hb => by
          rw [List.mem_singleton.mp hb]
          exact t.gap a ha p hp hpm⟩
      · rw [List.mem_append, List.mem_singleton, t.mem q]
        constructor
        · rintro (⟨h1, h2, h3⟩ | rfl)
          · exact ⟨h1, h2, fun w => h3 (Nat.dvd_trans w um)⟩
          · exact ⟨hp, Nat.dvd_trans hpm t.vn, nz⟩
        · rintro ⟨h1, h2, h3⟩
          by_cases w : q ∣ m
          · rw [e] at w
            rcases pr_mul h1 w with y | y
            · exact .inr (pr_eq h1 hp (pr_pow h1 y))
            · exact absurd y h3
          · exact .inl ⟨h1, h2, w⟩
      · rcases List.mem_append.mp hq with w | w
        · exact t.gap q w r hr (Nat.dvd_trans hrz um)
        · rw [List.mem_singleton.mp w]
          have := hl r hr (Nat.dvd_trans hrz um)
          have ne : p ≠ r := fun y => nz (y ▸ hrz)
          omega

/-! the odd ones of some primes -/
def oddL (L : List Nat) : List Nat := L.filter fun p => decide (2 < p)
def sp_odd_ones : SpD := fun ds μ P _ => ∃ (d : D) (L : List Nat), ds = [d] ∧ (∀ μ', Ext μ μ' → itemsOf μ' d = some (natD L)) ∧ L.length ≤ 1000 ∧ ∀ (j : Nat) μ', Ext μ μ' → lstAt μ' j = some (natD (oddL L)) → P (.ref j) μ'
theorem len_odd_ones : ∀ ds μ Pd R, sp_odd_ones ds μ Pd R → ds.length = 1 := fun ds μ Pd R ⟨d, L, e, _⟩ => by rw [e] <;> rfl
def W_odd_ones : WS :=
  (wRet (wLcL 1 (wVar 0) (wB (wOp wGt (wVar 1) (wC (.int 2)))) (wVar 1)))
theorem vc_odd_ones : ∀ ds μ Pd R, sp_odd_ones ds μ Pd R → W_odd_ones (fun _ C fs μ' => R C fs μ') { nx := fun _ μ' => Pd .non μ', rt := Pd } (startD 2 ds) μ := by
  intro ds μ Pd R h
  obtain ⟨d, L, rfl, hd, hl, k⟩ := h
  unfold W_odd_ones
  walk_at "hd"
  simp only [wLcL]
  walk_at "hd"
  refine ⟨natD L, hd μ (Ext.refl μ), lc_nats (fun p => decide (2 < p)) (fun p => .int (p : Int)) hl hd (fun p hp μ' Q e q => ?_) (fun p hp μ' Q hk e q => ?_) fun μ' e hl2 => k _ μ' e hl2⟩
  · walk_at "hd"
    have e2 : decide ((2 : Int) < (p : Int)) = decide (2 < p) := by
      by_cases z : 2 < p
      · rw [decide_eq_true z, decide_eq_true (by omega)]
      · rw [decide_eq_false z, decide_eq_false (by omega)]
    rw [e2]
    exact q μ' (Ext.refl μ')
  · walk_at "hd"
    exact q μ' (Ext.refl μ')

/-! the steps of a number below 0 -/
def Below (L : List Nat) (f : Bool) (S : List Nat) : Prop := S.Pairwise (· < ·) ∧ ∀ p, p ∈ S ↔ (p ∈ L ∧ 2 < p) ∨ (p = 4 ∧ f = true)
theorem not_pr4 : ¬ IsPr 4 := fun h => by
  rcases h.2 2 ⟨2, rfl⟩ with z | z <;> omega
def sp_steps_below : SpD := fun ds μ P _ => ∃ (d : D) (L : List Nat) (f : Bool), ds = [d, .bl f] ∧ (∀ μ', Ext μ μ' → itemsOf μ' d = some (natD L)) ∧ L.length ≤ 900 ∧ L.Pairwise (· < ·) ∧ (∀ p ∈ L, IsPr p) ∧ ∀ (S : List Nat) (j : Nat) μ', Below L f S → Ext μ μ' → lstAt μ' j = some (natD S) → P (.ref j) μ'
theorem len_steps_below : ∀ ds μ Pd R, sp_steps_below ds μ Pd R → ds.length = 2 := fun ds μ Pd R ⟨d, L, f, e, _⟩ => by rw [e] <;> rfl
def W_steps_below : WS :=
  (wSeq (wIfS (wTruth (wVar 1)) (wRet (wCB wSortI (wCons (wOp wAdd (wCall sp_odd_ones (wCons (wVar 0) wNil)) (wLst (wCons (wC (.int 4)) wNil))) wNil))) wNext)
  (wRet (wCall sp_odd_ones (wCons (wVar 0) wNil))))
theorem vc_steps_below : ∀ ds μ Pd R, sp_steps_below ds μ Pd R → W_steps_below (fun _ C fs μ' => R C fs μ') { nx := fun _ μ' => Pd .non μ', rt := Pd } (startD 2 ds) μ := by
  intro ds μ Pd R h
  obtain ⟨d, L, f, rfl, hd, hl, hp, hpr, k⟩ := h
  unfold W_steps_below
  walk_at "hd"
  have odd : ∀ p, p ∈ oddL L ↔ p ∈ L ∧ 2 < p := fun p => by
    unfold oddL
    rw [List.mem_filter, decide_eq_true_iff]
  have oddp : (oddL L).Pairwise (· < ·) := hp.sublist List.filter_sublist
  have oddn : (oddL L).length ≤ 900 := Nat.le_trans (List.length_filter_le _ _) hl
  cases f with
  | false =>
    simp only []
    exact ⟨d, L, rfl, hd, by omega, fun j μ' e hj => k _ j μ' ⟨oddp, fun p => (odd p).trans ⟨.inl, fun z => z.resolve_right fun y => by cases y.2⟩⟩ e hj⟩
  | true =>
    simp only []
    refine ⟨d, L, rfl, hd, by omega, fun j μ' e hj => ?_⟩
    simp only []
    refine ⟨by decide, _, _, (Ext.app _ _).lst hj, lst_new _ _, by rw [natD_len]; simp; omega, ?_⟩
    unfold wSortI
    refine ⟨(oddL L ++ [4]).map Int.ofNat, rfl, ?_, fun ms h1 h2 => ?_⟩
    · show lstAt _ _ = _
      rw [lst_new, ← natD_ints, natD_app]
      rfl
    · have hm : ∀ x, x ∈ ms ↔ x ∈ (oddL L ++ [4]).map Int.ofNat := fun x => h1.mem_iff
      obtain ⟨S, rfl, hS⟩ := ints_natsP hm
      rw [← natD_ints]
      have mem : ∀ p, p ∈ S ↔ (p ∈ L ∧ 2 < p) ∨ (p = 4 ∧ true = true) := fun p => by
        rw [hS p, List.mem_append, List.mem_singleton, odd p]
        simp
      have nd : (oddL L ++ [4]).Nodup := by
        refine List.nodup_append.mpr ⟨oddp.imp fun z => Nat.ne_of_lt z, by simp, fun a ha b hb => ?_⟩
        rw [List.mem_singleton.mp hb]
        intro z
        subst z
        exact not_pr4 (hpr _ ((odd _).mp ha).1)
      have nd2 : (S.map Int.ofNat).Nodup := (h1.nodup_iff).mpr (List.pairwise_map.mpr (nd.imp fun z y => z (Int.ofNat.inj y)))
      have asc : S.Pairwise (· < ·) := by
        have a1 := List.pairwise_map.mp h2
        have a2 := List.pairwise_map.mp nd2
        exact (a1.and a2).imp fun ⟨x, y⟩ => Nat.lt_of_le_of_ne (Int.ofNat_le.mp x) fun z => y (by rw [z])
      exact k S _ _ ⟨asc, mem⟩ ((e.trans (Ext.app _ _)).trans ((Ext.app _ _).trans (Ext.app _ _))) (lst_new _ _)

/-! the steps of n that divide nothing that was whole -/
def StepsL (sg : Int) (W : List Nat) (n : Nat) (S : List Nat) : Prop := (∀ p, p ∈ S ↔ Step sg n p ∧ ∀ m, m ∈ W → ¬ p ∣ m) ∧ S.length ≤ 900
theorem primes_half {n : Nat} {L : List Nat} (h : PrimesIs n L) (n1 : 1 ≤ n) (n2 : n ≤ 1000) : L.length ≤ 900 := by
  have hn : (L.map fun p => (p - 1) / 2).length ≤ 510 := by
    refine asc_len (b := 510) ?_ ?_
    · rw [List.pairwise_map]
      refine h.1.imp_of_mem fun {a b} ha hb lt => ?_
      have pa := ((h.2 a).mp ha).1
      have pb := ((h.2 b).mp hb).1
      have a2 := pa.1
      have ob : ¬ 2 ∣ b := fun z => by
        rcases pb.2 2 z with y | y <;> omega
      have oa : a = 2 ∨ ¬ 2 ∣ a := by
        by_cases z : 2 ∣ a
        · rcases pa.2 2 z with y | y
          · omega
          · exact .inl y.symm
        · exact .inr z
      omega
    · intro p hp
      obtain ⟨q, hq, rfl⟩ := List.mem_map.mp hp
      have := Nat.le_of_dvd n1 ((h.2 q).mp hq).2
      omega
  rw [List.length_map] at hn
  omega
def sp_steps_left : SpD := fun ds μ P _ => ∃ (sg : Int) (j n : Nat) (W : List Nat), ds = [.int sg, .ref j, .int (n : Int)] ∧ (sg = 1 ∨ sg = -1) ∧ lstAt μ j = some (natD W) ∧ W.length ≤ 20 ∧ 1 ≤ n ∧ n ≤ 1000 ∧ ∀ (S : List Nat) (i : Nat) μ', StepsL sg W n S → μ.length ≤ i → Ext μ μ' → lstAt μ' i = some (natD S) → P (.ref i) μ'
theorem len_steps_left : ∀ ds μ Pd R, sp_steps_left ds μ Pd R → ds.length = 3 := fun ds μ Pd R ⟨i, _, _, _, e, _⟩ => by rw [e] <;> rfl
def T_steps_left : WS :=
  (wRet (wLcL 5 (wVar 4) (wTruth (wCB HD.wAll (wCons (wLcL 6 (wVar 1) wYes (wOp wNe (wOp wMod (wVar 6) (wVar 5)) (wC (.int 0)))) wNil))) (wVar 5)))
theorem T_steps_ok {sg : Int} {n j k : Nat} {W Q : List Nat} {μ : Sto} {R : XD} {E : EndsD} {x3 : Option D} (hj : lstAt μ j = some (natD W)) (hW : W.length ≤ 20) (hk : lstAt μ k = some (natD Q)) (hQ : Q.length ≤ 900) (pos : ∀ p, p ∈ Q → 1 ≤ p ∧ p ≤ 1000)
    (kk : ∀ i μ', μ.length ≤ i → Ext μ μ' → lstAt μ' i = some (natD (Q.filter fun p => W.all fun m => decide (¬ p ∣ m))) → E.rt (.ref i) μ') : T_steps_left R E [some (.int sg), some (.ref j), some (.int (n : Int)), x3, some (.ref k), none, none] μ := by
  unfold T_steps_left
  walk_at "hd"
  simp only [wLcL]
  walk_at "hd"
  refine ⟨natD Q, hk, lc_nats (fun p => W.all fun m => decide (¬ p ∣ m)) (fun p => .int (p : Int)) (by omega) (fun μ' e => e.lst hk) (fun p hp μ' Q' e q => ?_) (fun p hp μ' Q' hc e q => ?_) fun μ' e hl2 => kk _ μ' (Nat.le_refl _) e hl2⟩
  · obtain ⟨p1, p2⟩ := pos p hp
    walk_at "hd"
    refine ⟨natD W, e.lst hj, lc_nats (fun _ => true) (fun m => .bl (decide (¬ p ∣ m))) (by omega) (fun μ2 e2 => (e.trans e2).lst hj) (fun m hm μ2 Q2 e2 q2 => ?_) (fun m hm μ2 Q2 _ e2 q2 => ?_) fun μ2 e2 hl2 => ?_⟩
    · simp only [wYes]
      exact q2 _ (Ext.refl _)
    · walk_at "hd"
      refine ⟨by omega, ?_⟩
      have ed : (!decide ((m : Int) % (p : Int) = 0)) = decide (¬ p ∣ m) := by
        have c : ((m : Int) % (p : Int) = 0) ↔ p ∣ m := by
          rw [← Int.natCast_emod]
          constructor
          · intro h
            exact Nat.dvd_of_mod_eq_zero (by omega)
          · intro h
            have := Nat.mod_eq_zero_of_dvd h
            omega
        by_cases z : p ∣ m
        · rw [decide_eq_true (c.mpr z), decide_eq_false (fun h => h z)]
          rfl
        · rw [decide_eq_false (fun h => z (c.mp h)), decide_eq_true z]
          rfl
      rw [ed]
      exact q2 _ (Ext.refl _)
    · simp only [wAll]
      rw [List.filter_eq_self.mpr fun _ _ => rfl] at hl2
      refine ⟨W.map fun m => decide (¬ p ∣ m), ?_, ?_⟩
      · rw [List.map_map]
        exact hl2
      · rw [List.all_map]
        exact q μ2 e2
  · walk_at "hd"
    exact q μ' (Ext.refl μ')
def W_steps_left : WS :=
  (wSeq (wAsg (wCall sp_primes_of (wCons (wVar 2) wNil)) (wgName 3))
  (wSeq (wAsg (wIf (wB (wOp wEq (wVar 0) (wC (.int 1)))) (wVar 3) (wCall sp_steps_below (wCons (wVar 3) (wCons (wOp wEq (wOp wMod (wVar 2) (wC (.int 4))) (wC (.int 0))) wNil)))) (wgName 4))
  (wRet (wLcL 5 (wVar 4) (wTruth (wCB wAll (wCons (wLcL 6 (wVar 1) wYes (wOp wNe (wOp wMod (wVar 6) (wVar 5)) (wC (.int 0)))) wNil))) (wVar 5)))))
theorem vc_steps_left : ∀ ds μ Pd R, sp_steps_left ds μ Pd R → W_steps_left (fun _ C fs μ' => R C fs μ') { nx := fun _ μ' => Pd .non μ', rt := Pd } (startD 7 ds) μ := by
  intro ds μ Pd R h
  obtain ⟨sg, j, n, W, rfl, hs, hj, hW, n1, n2, kk⟩ := h
  have e : W_steps_left = wSeq _ (wSeq _ T_steps_left) := rfl
  rw [e]
  walk_at "hd"
  refine ⟨n, rfl, n1, Nat.lt_of_le_of_lt n2 (by decide), fun L hL => ?_⟩
  have Ls := primes_half hL n1 n2
  have hl : lstAt (μ ++ [.lst (natD L)]) μ.length = some (natD L) := lst_new _ _
  have pl : ∀ p, p ∈ L → 1 ≤ p ∧ p ≤ 1000 := fun p hp => by
    obtain ⟨h1, h2⟩ := (hL.2 p).mp hp
    have := Nat.le_of_dvd n1 h2
    have := h1.1
    exact ⟨by omega, by omega⟩
  have mem : ∀ (Q : List Nat) (p : Nat), (p ∈ Q ↔ Step sg n p) → (p ∈ (Q.filter fun p => W.all fun m => decide (¬ p ∣ m)) ↔ Step sg n p ∧ ∀ m, m ∈ W → ¬ p ∣ m) := fun Q p h => by
    rw [List.mem_filter, h, List.all_eq_true]
    exact ⟨fun ⟨a, b⟩ => ⟨a, fun m hm => of_decide_eq_true (b m hm)⟩, fun ⟨a, b⟩ => ⟨a, fun m hm => decide_eq_true (b m hm)⟩⟩
  rcases hs with rfl | rfl
  · simp only [decide_true]
    refine T_steps_ok ((Ext.app _ _).lst hj) hW hl Ls pl fun i μ' hle e hi => kk _ i μ' ⟨fun p => mem L p ?_, Nat.le_trans (List.length_filter_le _ _) Ls⟩ (Nat.le_trans (Ext.app _ _).1 hle) ((Ext.app _ _).trans e) hi
    rw [hL.2 p]
    exact ⟨fun ⟨a, b⟩ => .inl ⟨a, b, .inl rfl⟩, fun h => by
      rcases h with ⟨a, b, _⟩ | ⟨z, _⟩
      · exact ⟨a, b⟩
      · cases z⟩
  · rw [show decide ((-1 : Int) = 1) = false from by decide]
    simp only []
    refine ⟨by decide, .ref μ.length, L, decide ((n : Int) % 4 = 0), rfl, fun μ' e => e.lst hl, Ls, hL.1, fun p hp => ((hL.2 p).mp hp).1, fun S k μ' hS e hk => ?_⟩
    have smem : ∀ p, p ∈ S ↔ Step (-1) n p := fun p => by
      rw [hS.2 p, hL.2 p, decide_eq_true_eq]
      constructor
      · rintro (⟨⟨a, b⟩, c⟩ | ⟨rfl, c⟩)
        · exact .inl ⟨a, b, .inr c⟩
        · exact .inr ⟨rfl, rfl, by omega⟩
      · rintro (⟨a, b, c⟩ | ⟨_, rfl, c⟩)
        · exact .inl ⟨⟨a, b⟩, c.resolve_left (by decide)⟩
        · exact .inr ⟨rfl, by omega⟩
    have sl : ∀ p, p ∈ S → 1 ≤ p ∧ p ≤ 1000 := fun p hp => by
      have st := (smem p).mp hp
      have := Nat.le_of_dvd n1 st.dvd
      have p1 : 1 ≤ p := Nat.pos_of_dvd_of_pos st.dvd n1
      exact ⟨p1, by omega⟩
    have Sl : S.length ≤ 900 := by
      have h1 : S.length ≤ 510 := by
        have hn : (S.map fun p => if p ≤ 4 then p else (p + 5) / 2).length ≤ 510 := by
          refine asc_len (b := 510) ?_ ?_
          · rw [List.pairwise_map]
            refine hS.1.imp_of_mem fun {a b} ha hb lt => ?_
            have odd : ∀ q, q ∈ S → q % 2 = 1 ∨ q = 4 := fun q hq => by
              rcases (smem q).mp hq with ⟨pr, _, c⟩ | ⟨_, c, _⟩
              · have q2 := c.resolve_left (by decide)
                refine .inl ?_
                have : ¬ 2 ∣ q := fun z => by
                  rcases pr.2 2 z with y | y <;> omega
                omega
              · exact .inr c
            have three : ∀ q, q ∈ S → 3 ≤ q := fun q hq => by
              rcases (smem q).mp hq with ⟨pr, _, c⟩ | ⟨_, c, _⟩
              · have q2 := c.resolve_left (by decide)
                omega
              · omega
            have o1 := odd a ha
            have o2 := odd b hb
            have t1 := three a ha
            show (if a ≤ 4 then a else (a + 5) / 2) < (if b ≤ 4 then b else (b + 5) / 2)
            split <;> split <;> omega
          · intro p hp
            obtain ⟨q, hq, rfl⟩ := List.mem_map.mp hp
            have := (sl q hq).2
            show (if q ≤ 4 then q else (q + 5) / 2) < 510
            split <;> omega
        rwa [List.length_map] at hn
      omega
    refine T_steps_ok ((Ext.app _ _).trans e |>.lst hj) hW hk Sl sl fun i μ2 hle e2 hi => kk _ i μ2 ⟨fun p => mem S p (smem p), Nat.le_trans (List.length_filter_le _ _) Sl⟩ (Nat.le_trans ((Ext.app _ _).trans e).1 hle) (((Ext.app _ _).trans e).trans e2) hi

/-! the signs that fit, and their reasons -/
def trueL (ls : List Look) : List Nat := (ls.filter fun l => l.2).map (·.1)
theorem mem_true {ls : List Look} {n : Nat} : n ∈ trueL ls ↔ (n, true) ∈ ls := by
  unfold trueL
  rw [List.mem_map]
  constructor
  · rintro ⟨⟨a, b⟩, h, rfl⟩
    obtain ⟨h1, h2⟩ := List.mem_filter.mp h
    have h2' : b = true := h2
    rw [← h2']
    exact h1
  · exact fun h => ⟨(n, true), List.mem_filter.mpr ⟨h, rfl⟩, rfl⟩
theorem mem_whole {ls : List Look} {n : Nat} : n ∈ wholeL ls ↔ (n, false) ∈ ls := by
  unfold wholeL
  rw [List.mem_map]
  constructor
  · rintro ⟨⟨a, b⟩, h, rfl⟩
    obtain ⟨h1, h2⟩ := List.mem_filter.mp h
    have h2' : (!b) = true := h2
    have hb : b = false := by
      cases b with
      | true => cases h2'
      | false => rfl
    rw [← hb]
    exact h1
  · exact fun h => ⟨(n, false), List.mem_filter.mpr ⟨h, rfl⟩, rfl⟩
theorem noWhole_iff {ls : List Look} {p : Nat} : NoWhole ls p ↔ ∀ m, m ∈ wholeL ls → ¬ p ∣ m := by
  constructor
  · exact fun h m hm => h m (mem_whole.mp hm)
  · exact fun h m hm => h m (mem_whole.mpr hm)
/-- the reasons at r -/
structure ReasonsAt (μ : Sto) (r : Nat) (sg : Int) (W T : List Nat) (m : Nat → Nat) (S : Nat → List Nat) : Prop where
  at_ : lstAt μ r = some (refs m T.length)
  each : ∀ i n, T[i]? = some n → lstAt μ (m i) = some (natD (S i)) ∧ StepsL sg W n (S i)
theorem ReasonsAt.ext {μ μ' : Sto} {r : Nat} {sg : Int} {W T : List Nat} {m : Nat → Nat} {S : Nat → List Nat} (h : ReasonsAt μ r sg W T m S) (e : Ext μ μ') : ReasonsAt μ' r sg W T m S := ⟨e.lst h.at_, fun i n hi => ⟨e.lst (h.each i n hi).1, (h.each i n hi).2⟩⟩
theorem reasons_fit {μ : Sto} {r : Nat} {sg : Int} {ls : List Look} {m : Nat → Nat} {S : Nat → List Nat} (h : ReasonsAt μ r sg (wholeL ls) (trueL ls) m S) : FitS sg ls ↔ ∀ i, i < (trueL ls).length → S i ≠ [] := by
  constructor
  · intro f i hi z
    obtain ⟨n, hn⟩ : ∃ n, (trueL ls)[i]? = some n := ⟨_, List.getElem?_eq_getElem hi⟩
    obtain ⟨p, h1, h2⟩ := f n (mem_true.mp (List.mem_of_getElem? hn))
    have := ((h.each i n hn).2.1 p).mpr ⟨h1, noWhole_iff.mp h2⟩
    rw [z] at this
    cases this
  · intro f n hn
    obtain ⟨i, hi, e⟩ := List.mem_iff_getElem.mp (mem_true.mpr hn)
    have hs := f i hi
    obtain ⟨p, hp⟩ := List.exists_mem_of_ne_nil _ hs
    have := ((h.each i n (by rw [List.getElem?_eq_getElem hi, e])).2.1 p).mp hp
    exact ⟨p, this.1, noWhole_iff.mpr this.2⟩
def FitAt (μ : Sto) (j : Nat) (ls : List Look) : Prop := ∃ gs : List (Int × Nat), lstAt μ j = some (gs.map fun g => .tup [.int g.1, .ref g.2]) ∧ (gs.map (·.1)).Sublist [1, -1] ∧ (∀ sg, sg ∈ gs.map (·.1) ↔ (sg = 1 ∨ sg = -1) ∧ FitS sg ls) ∧
  ∀ g, g ∈ gs → ∃ m S, ReasonsAt μ g.2 g.1 (wholeL ls) (trueL ls) m S
theorem FitAt.ext {μ μ' : Sto} {j : Nat} {ls : List Look} (h : FitAt μ j ls) (e : Ext μ μ') : FitAt μ' j ls := by
  obtain ⟨gs, h1, h2, h3, h4⟩ := h
  exact ⟨gs, e.lst h1, h2, h3, fun g hg => by
    obtain ⟨m, S, h⟩ := h4 g hg
    exact ⟨m, S, h.ext e⟩⟩
theorem pyAll_refs {μ : Sto} {m : Nat → Nat} {q : Nat → PyData} : ∀ {n : Nat}, (∀ i, i < n → Py μ (.ref (m i)) (q i)) → PyAll μ (refs m n) ((List.range n).map q) := fun {n} h => by
  unfold refs
  have gen : ∀ l : List Nat, (∀ i, i ∈ l → i < n) → PyAll μ (l.map fun i => D.ref (m i)) (l.map q) := fun l => by
    induction l with
    | nil => exact fun _ => .nil
    | cons a r ih => exact fun hl => .cons (h a (hl a (List.mem_cons_self ..))) (ih fun i hi => hl i (List.mem_cons_of_mem _ hi))
  exact gen _ fun i hi => List.mem_range.mp hi
theorem sh_lists (S : Nat → List Nat) (l : List Nat) : SeqAt.shaped (.list (l.map fun i => PyData.list (natP (S i)))) = true := by
  have gen : PyData.canLayAll0 (l.map fun i => PyData.list (natP (S i))) = true ∧ PyData.depthAll (l.map fun i => PyData.list (natP (S i))) ≤ 3 := by
    induction l with
    | nil => exact ⟨rfl, Nat.zero_le _⟩
    | cons a r ih =>
      obtain ⟨h1, h2⟩ := ih
      obtain ⟨a1, a2⟩ := lay_nats (S a)
      refine ⟨?_, ?_⟩
      · show (PyData.canLayAll0 (natP (S a)) && PyData.canLayAll0 _) = true
        rw [a1, h1]
        rfl
      · show max (PyData.depthAll (natP (S a)) + 1) (PyData.depthAll _) ≤ 3
        rw [a2]
        exact Nat.max_le.mpr ⟨by omega, h2⟩
  unfold SeqAt.shaped
  show (PyData.canLayAll0 _ && decide (PyData.depthAll _ + 1 ≤ 64)) = true
  rw [gen.1, Bool.true_and, decide_eq_true_eq]
  omega
theorem trueL_take {ls : List Look} {j : Nat} (h : j < ls.length) : trueL (ls.take (j + 1)) = trueL (ls.take j) ++ (if ls[j].2 then [ls[j].1] else []) := by
  unfold trueL
  rw [List.take_succ_eq_append_getElem h, List.filter_append, List.map_append]
  congr 1
  cases h : ls[j].2 with
  | true => rw [List.filter_cons_of_pos (by rw [h])]; rfl
  | false => rw [List.filter_cons_of_neg (by rw [h]; decide)]; rfl
theorem true_len {ls : List Look} : (trueL ls).length ≤ ls.length := by
  unfold trueL
  rw [List.length_map]
  exact List.length_filter_le _ _
theorem whole_len {ls : List Look} : (wholeL ls).length ≤ ls.length := by
  unfold wholeL
  rw [List.length_map]
  exact List.length_filter_le _ _
theorem reasons_ok {ls : List Look} (ok : LooksOk ls) {sg : Int} (hs : sg = 1 ∨ sg = -1) {w : Nat} {μ : Sto} {R : XD} {P : D → Sto → Prop} {x1 x4 x5 x6 : Option D} (hw : lstAt μ w = some (natD (wholeL ls)))
    (kk : ∀ μ' m S, Ext μ μ' → ReasonsAt μ' μ.length sg (wholeL ls) (trueL ls) m S → P (.ref μ.length) μ') : wLcLT [5, 6] (wVar 0) (wTruth (wVar 6)) (wCall sp_steps_left (wCons (wVar 3) (wCons (wVar 2) (wCons (wVar 5) wNil)))) R [some (looksD ls), x1, some (.ref w), some (.int sg), x4, x5, x6] μ P := by
  have few := ok.few
  simp only [wLcLT]
  walk_at "hd"
  refine ⟨ls.map lookD, rfl, ?_⟩
  rw [List.length_map]
  refine ⟨fun j acc μ' => Ext μ μ' ∧ ∃ m S, acc = refs m (trueL (ls.take j)).length ∧ ∀ i n, (trueL (ls.take j))[i]? = some n → lstAt μ' (m i) = some (natD (S i)) ∧ m i ≠ μ.length ∧ StepsL sg (wholeL ls) n (S i), ⟨Ext.app _ _, fun _ => 0, fun _ => [], rfl, fun i n h => by cases h⟩, ?_, ?_⟩
  · rintro j acc μ' hj hc ⟨e1, m, S, rfl, hm⟩
    refine ⟨rfl, ?_⟩
    have it : (fun m => (ls.map lookD).getD m D.non) j = lookD ls[j] := look_at hj
    rw [it]
    have tk := trueL_take hj
    have n1 := ok.n1 ls[j] (List.getElem_mem hj)
    have tl : (trueL (ls.take j)).length ≤ 20 := Nat.le_trans true_len (Nat.le_trans (List.length_take_le _ _) (by omega))
    rw [show (ls.take (j + 1)) = ls.take (j + 1) from rfl] at tk
    revert tk n1
    generalize ls[j] = l
    obtain ⟨n, b⟩ := l
    intro tk n1
    unfold lcTurnT lookD
    refine ⟨rfl, ?_⟩
    simp only [puts]
    walk_at "hd"
    cases b with
    | false =>
      simp only []
      simp only [Bool.false_eq_true, if_false, List.append_nil] at tk
      refine ⟨hc, e1, m, S, by rw [tk], fun i n hi => hm i n (by rw [← tk]; exact hi)⟩
    | true =>
      simp only [] at n1 ⊢
      simp only [if_true] at tk
      refine ⟨sg, w, n, wholeL ls, rfl, hs, e1.lst hw, Nat.le_trans whole_len few, n1.1, n1.2, fun S' i μ3 hS hle e3 hi => ?_⟩
      have hc3 := e3.2 _ _ hc
      have ml := cell_lt hc
      refine ⟨⟨hc3, by rw [refs_len]; omega⟩, (e1.trans e3).set (Nat.le_refl _) _, upto m (trueL (ls.take j)).length i, upto S (trueL (ls.take j)).length S', ?_, fun i' n' hi' => ?_⟩
      · rw [tk, List.length_append, List.length_singleton]
        exact refs_upto.symm
      · rw [tk] at hi'
        by_cases z : i' = (trueL (ls.take j)).length
        · subst z
          rw [List.getElem?_append_right (Nat.le_refl _), Nat.sub_self] at hi'
          have e : n = n' := Option.some.inj hi'
          subst e
          rw [upto_same, upto_same]
          have ne : i ≠ μ.length := by omega
          exact ⟨lstAt_of (by rw [cell_set_ne ne]; exact lstAt_cell hi), ne, hS⟩
        · rw [upto_ne z, upto_ne z]
          have lt : i' < (trueL (ls.take j)).length := by
            have := (List.getElem?_eq_some_iff.mp hi').1
            rw [List.length_append, List.length_singleton] at this
            omega
          rw [List.getElem?_append_left lt] at hi'
          obtain ⟨h1, h2, h3⟩ := hm i' n' hi'
          exact ⟨lstAt_of (by rw [cell_set_ne h2]; exact lstAt_cell (e3.lst h1)), h2, h3⟩
  · rintro acc μ' hc ⟨e1, m, S, rfl, hm⟩
    refine ⟨rfl, ?_⟩
    rw [List.take_length] at hc hm
    exact kk μ' m S e1 ⟨lstAt_of hc, fun i n hi => ⟨(hm i n hi).1, (hm i n hi).2.2⟩⟩
theorem ReasonsAt.set {ν : Sto} {r : Nat} {sg : Int} {W T : List Nat} {m : Nat → Nat} {S : Nat → List Nat} {F : Nat} {gs : List (Int × Nat)} {o : O} (h : ReasonsAt ν r sg W T m S) (ne : ∀ i, i < T.length → S i ≠ []) (hF : lstAt ν F = some (gs.map fun g => .tup [.int g.1, .ref g.2])) (hr : r ≠ F) : ReasonsAt (ν.set F o) r sg W T m S := by
  refine ⟨lstAt_of (by rw [cell_set_ne hr]; exact lstAt_cell h.at_), fun i n hi => ⟨?_, (h.each i n hi).2⟩⟩
  have nF : m i ≠ F := fun z => by
    have q := (h.each i n hi).1
    rw [z, hF] at q
    have q' := Option.some.inj q
    cases c : S i with
    | nil => exact ne i (List.getElem?_eq_some_iff.mp hi).1 c
    | cons a l =>
      rw [c] at q'
      cases gs with
      | nil => cases q'
      | cons g gs => cases q'
  exact lstAt_of (by rw [cell_set_ne nF]; exact lstAt_cell (h.each i n hi).1)
theorem ReasonsAt.apart {ν : Sto} {r : Nat} {sg : Int} {W T : List Nat} {m : Nat → Nat} {S : Nat → List Nat} {F : Nat} {gs : List (Int × Nat)} (h : ReasonsAt ν r sg W T m S) (hF : lstAt ν F = some (gs.map fun g => .tup [.int g.1, .ref g.2])) (hg : gs ≠ []) : r ≠ F := fun z => by
  have q := h.at_
  rw [z, hF] at q
  have q' := Option.some.inj q
  cases gs with
  | nil => exact hg rfl
  | cons g gs =>
    unfold refs at q'
    cases c : T.length with
    | zero =>
      rw [c] at q'
      cases q'
    | succ n =>
      rw [c, List.range_succ_eq_map] at q'
      cases q'
def sp_fitting : SpD := fun ds μ P _ => ∃ ls : List Look, ds = [looksD ls] ∧ LooksOk ls ∧ ∀ (j : Nat) μ', Ext μ μ' → FitAt μ' j ls → P (.ref j) μ'
theorem len_fitting : ∀ ds μ Pd R, sp_fitting ds μ Pd R → ds.length = 1 := fun ds μ Pd R ⟨i, e, _⟩ => by rw [e] <;> rfl
def W_fitting : WS :=
  (wSeq (wAsg (wLst wNil) (wgName 1))
  (wSeq (wAsg (wCall sp_whole_ones (wCons (wVar 0) wNil)) (wgName 2))
  (wSeq (wForL (wTup (wCons (wC (.int 1)) (wCons (wNeg (wC (.int 1))) wNil))) (wgName 3) (wSeq (wAsg (wLcLT [5, 6] (wVar 0) (wTruth (wVar 6)) (wCall sp_steps_left (wCons (wVar 3) (wCons (wVar 2) (wCons (wVar 5) wNil))))) (wgName 4))
  (wIfS (wB (wOp wNotInP (wLst wNil) (wVar 4))) (wDrop (wApp (wVar 1) (wTup (wCons (wVar 3) (wCons (wVar 4) wNil))))) wNext)))
  (wRet (wVar 1)))))
theorem vc_fitting : ∀ ds μ Pd R, sp_fitting ds μ Pd R → W_fitting (fun _ C fs μ' => R C fs μ') { nx := fun _ μ' => Pd .non μ', rt := Pd } (startD 7 ds) μ := by
  intro ds μ Pd R h
  obtain ⟨ls, rfl, ok, k⟩ := h
  unfold W_fitting
  walk_at "hd"
  refine ⟨by decide, ls, rfl, ok, fun w μ1 hle e1 hw => ?_⟩
  simp only []
  unfold wForL
  walk_at "hd"
  have F0 : cell μ1 μ.length = some (.lst []) := e1.2 _ _ (cell_new μ _ [])
  have wF : w ≠ μ.length := by
    rw [List.length_append] at hle
    have : [O.lst []].length = 1 := rfl
    omega
  refine ⟨by decide, [.int 1, .int (-1)], fun i δ' μ' => Ext μ μ' ∧ lstAt μ' w = some (natD (wholeL ls)) ∧ ∃ (gs : List (Int × Nat)) (y3 y4 y5 y6 : Option D), δ' = [some (looksD ls), some (.ref μ.length), some (.ref w), y3, y4, y5, y6] ∧ lstAt μ' μ.length = some (gs.map fun g => .tup [.int g.1, .ref g.2]) ∧ (gs.map (·.1)).Sublist (([1, -1] : List Int).take i) ∧
    (∀ sg, sg ∈ gs.map (·.1) ↔ sg ∈ ([1, -1] : List Int).take i ∧ FitS sg ls) ∧ ∀ g, g ∈ gs → ∃ m S, ReasonsAt μ' g.2 g.1 (wholeL ls) (trueL ls) m S ∧ ∀ i, i < (trueL ls).length → S i ≠ [],
    ⟨(Ext.app _ _).trans e1, hw, [], _, _, _, _, rfl, lstAt_of F0, .slnil, fun sg => ⟨fun h => absurd h List.not_mem_nil, fun h => absurd h.1 List.not_mem_nil⟩, fun g hg => absurd hg List.not_mem_nil⟩, fun i δ' μ' _ _ => rfl, ?_, ?_⟩
  · rintro i x δ' μ' hx ⟨e2, hw2, gs, y3, y4, y5, y6, rfl, hF, sub, mem, rs⟩
    obtain ⟨sg, hsg, rfl, hs⟩ : ∃ sg : Int, ([1, -1] : List Int)[i]? = some sg ∧ x = .int sg ∧ (sg = 1 ∨ sg = -1) := by
      match i, hx with
      | 0, hx => exact ⟨1, rfl, (Option.some.inj hx).symm, .inl rfl⟩
      | 1, hx => exact ⟨-1, rfl, (Option.some.inj hx).symm, .inr rfl⟩
      | i + 2, hx => cases hx
    have tk : ([1, -1] : List Int).take (i + 1) = ([1, -1] : List Int).take i ++ [sg] := by rw [List.take_add_one, hsg]; rfl
    walk_at "hd"
    refine reasons_ok ok hs hw2 fun μ3 m S e3 hr => ?_
    have e4 : Ext μ3 (μ3 ++ [.lst []]) := Ext.app _ _
    have e24 := (e2.trans e3).trans e4
    have hr4 := hr.ext e4
    have hF4 := (e3.trans e4).lst hF
    have hw4 := (e3.trans e4).lst hw2
    refine ⟨by decide, .list [], (List.range (trueL ls).length).map fun i => .list (natP (S i)), .ref (lst_new _ _) .nil, .ref hr4.at_ (pyAll_refs fun i hi => ?_), rfl, sh_lists S _, ?_⟩
    · obtain ⟨n, hn⟩ : ∃ n, (trueL ls)[i]? = some n := ⟨_, List.getElem?_eq_getElem hi⟩
      exact .ref (hr4.each i n hn).1 (py_nats _)
    · have any : (((List.range (trueL ls).length).map fun i => PyData.list (natP (S i))).any fun z => PyData.eqv z (.list [])) = true ↔ ¬ FitS sg ls := by
        rw [reasons_fit hr, List.any_map, List.any_eq_true]
        constructor
        · rintro ⟨i, hi, h⟩ all
          refine all i (List.mem_range.mp hi) ?_
          cases q : S i with
          | nil => rfl
          | cons a r =>
            have h' : PyData.eqv (.list (natP (S i))) (.list []) = true := h
            rw [q] at h'
            cases h'
        · intro no
          obtain ⟨i, hi⟩ := Classical.not_forall.mp no
          obtain ⟨h1, h2⟩ := Classical.not_imp.mp hi
          have h3 : S i = [] := Classical.byContradiction h2
          refine ⟨i, List.mem_range.mpr h1, ?_⟩
          show PyData.eqv (.list (natP (S i))) (.list []) = true
          rw [h3]
          rfl
      have others : ∀ g, g ∈ gs → ∃ m S, ReasonsAt (μ3 ++ [.lst []]) g.2 g.1 (wholeL ls) (trueL ls) m S ∧ ∀ i, i < (trueL ls).length → S i ≠ [] := fun g hg => by
        obtain ⟨m', S', h1, h2⟩ := rs g hg
        exact ⟨m', S', h1.ext (e3.trans e4), h2⟩
      cases c : (((List.range (trueL ls).length).map fun i => PyData.list (natP (S i))).any fun z => PyData.eqv z (.list [])) with
      | true =>
        have nf := any.mp c
        simp only [Bool.not_true]
        refine ⟨e24, hw4, gs, _, _, _, _, rfl, hF4, ?_, fun sg' => ?_, others⟩
        · rw [tk]
          exact sub.trans (List.sublist_append_left _ _)
        · rw [mem sg', tk, List.mem_append, List.mem_singleton]
          constructor
          · exact fun h => ⟨.inl h.1, h.2⟩
          · rintro ⟨h1 | rfl, h2⟩
            · exact ⟨h1, h2⟩
            · exact absurd h2 nf
      | false =>
        have yf : FitS sg ls := Classical.byContradiction fun h => by
          rw [any.mpr h] at c
          cases c
        have ne := (reasons_fit hr).mp yf
        simp only [Bool.not_false]
        simp only [wApp]
        walk_at "hd"
        have FL := lst_lt hF
        have gl : gs.length ≤ 2 := by
          have := sub.length_le
          rw [List.length_map] at this
          exact Nat.le_trans this (List.length_take_le' _ _)
        simp only [hF4]
        refine ⟨⟨_, rfl⟩, by decide, by rw [List.length_map]; omega, e24.set (Nat.le_refl _) _, lstAt_of (by rw [cell_set_ne wF]; exact lstAt_cell hw4), gs ++ [(sg, μ'.length)], _, _, _, _, rfl, ?_, ?_, fun sg' => ?_, fun g hg => ?_⟩
        · rw [lst_set hF4, List.map_append]
          rfl
        · rw [tk, List.map_append]
          exact sub.append (List.Sublist.refl _)
        · rw [List.map_append, List.mem_append, mem sg', tk, List.mem_append, List.map_singleton, List.mem_singleton]
          constructor
          · rintro (⟨h1, h2⟩ | rfl)
            · exact ⟨.inl h1, h2⟩
            · exact ⟨.inr rfl, yf⟩
          · rintro ⟨h1 | h1, h2⟩
            · exact .inl ⟨h1, h2⟩
            · exact .inr h1
        · rcases List.mem_append.mp hg with hg | hg
          · obtain ⟨m', S', h1, h2⟩ := others g hg
            exact ⟨m', S', h1.set h2 hF4 (h1.apart hF4 (List.ne_nil_of_mem hg)), h2⟩
          · rw [List.mem_singleton.mp hg]
            exact ⟨m, S, hr4.set ne hF4 (by show μ'.length ≠ μ.length; omega), ne⟩
  · rintro δ' μ' ⟨e2, hw2, gs, y3, y4, y5, y6, rfl, hF, sub, mem, rs⟩
    walk_at "hd"
    refine k _ _ e2 ⟨gs, hF, sub, fun sg => ?_, fun g hg => ?_⟩
    · rw [mem sg]
      have : sg ∈ ([1, -1] : List Int).take [D.int 1, D.int (-1)].length ↔ sg = 1 ∨ sg = -1 := by
        show sg ∈ [1, -1] ↔ _
        simp
      rw [this]
    · obtain ⟨m, S, h, _⟩ := rs g hg
      exact ⟨m, S, h⟩

/-! the kind with a sign and steps -/
def sp_kind_by : SpD := fun ds μ P _ => ∃ (sg : Int) (d : D) (S : List Nat), ds = [.int sg, d] ∧ (∀ μ', Ext μ μ' → itemsOf μ' d = some (natD S)) ∧ S.length ≤ 1000 ∧ ∀ μ', Ext μ μ' → P (kindD sg (some (S.filter fun p => p != 4)) (S.contains 4)) μ'
theorem len_kind_by : ∀ ds μ Pd R, sp_kind_by ds μ Pd R → ds.length = 2 := fun ds μ Pd R ⟨sg, d, S, e, _⟩ => by rw [e] <;> rfl
def W_kind_by : WS :=
  (wRet (wTup (wCons (wVar 0) (wCons (wCB wTupOf (wCons (wLcL 2 (wVar 1) (wB (wOp wNe (wVar 2) (wC (.int 4)))) (wVar 2)) wNil)) (wCons (wOp wInI (wC (.int 4)) (wVar 1)) wNil)))))
theorem vc_kind_by : ∀ ds μ Pd R, sp_kind_by ds μ Pd R → W_kind_by (fun _ C fs μ' => R C fs μ') { nx := fun _ μ' => Pd .non μ', rt := Pd } (startD 3 ds) μ := by
  intro ds μ Pd R h
  obtain ⟨sg, d, S, rfl, hd, hl, k⟩ := h
  unfold W_kind_by
  walk_at "hd"
  simp only [wLcL]
  walk_at "hd"
  refine ⟨natD S, hd μ (Ext.refl μ), lc_nats (fun p => p != 4) (fun p => .int (p : Int)) hl hd (fun p hp μ' Q e q => ?_) (fun p hp μ' Q hk e q => ?_) fun μ' e hl2 => ?_⟩
  · walk_at "hd"
    have e2 : (!decide ((p : Int) = 4)) = (p != 4) := by
      by_cases z : p = 4
      · subst z
        rfl
      · rw [decide_eq_false (by omega)]
        simp [z]
    rw [e2]
    exact q μ' (Ext.refl μ')
  · walk_at "hd"
    exact q μ' (Ext.refl μ')
  · refine ⟨_, hl2, S.map Int.ofNat, by rw [hd μ' e, natD_ints], by decide, ?_⟩
    have ec : (S.map Int.ofNat).contains 4 = S.contains 4 := by
      rw [Bool.eq_iff_iff, List.contains_iff_mem, List.contains_iff_mem, List.mem_map]
      exact ⟨fun ⟨a, ha, ea⟩ => by
        have : a = 4 := Int.ofNat.inj ea
        exact this ▸ ha, fun h => ⟨4, h, rfl⟩⟩
    rw [ec]
    exact k μ' e

/-! a kind that fits, or None -/
open Classical in
theorem one_less {α : Type} {P : α → Prop} : ∀ {l : List α}, l.Nodup → (∀ a b, a ∈ l → b ∈ l → P a → P b → a = b) → l.length ≤ (l.filter fun a => !decide (P a)).length + 1
  | [], _, _ => Nat.zero_le _
  | a :: l, hn, h => by
    obtain ⟨h1, h2⟩ := List.nodup_cons.mp hn
    rw [List.filter_cons]
    by_cases z : P a
    · have e : l.filter (fun a => !decide (P a)) = l := List.filter_eq_self.mpr fun b hb => by
        have nb : ¬ P b := fun y => h1 (h a b (List.mem_cons_self ..) (List.mem_cons_of_mem _ hb) z y ▸ hb)
        rw [decide_eq_false nb]
        rfl
      rw [decide_eq_true z, e]
      exact Nat.le_refl _
    · have := one_less h2 fun b c hb hc => h b c (List.mem_cons_of_mem _ hb) (List.mem_cons_of_mem _ hc)
      rw [decide_eq_false z]
      show l.length + 1 ≤ ((a :: l.filter fun a => !decide (P a)).length) + 1
      rw [List.length_cons]
      omega
open Classical in
theorem few_by {α β : Type} {R : α → β → Prop} : ∀ (T : List β) (l : List α), l.Nodup → (∀ a, a ∈ l → ∃ t, t ∈ T ∧ R a t) → (∀ a b t, a ∈ l → b ∈ l → t ∈ T → R a t → R b t → a = b) → l.length ≤ T.length
  | [], l, _, h, _ => by
    cases l with
    | nil => exact Nat.le_refl _
    | cons a r =>
      obtain ⟨t, ht, _⟩ := h a (List.mem_cons_self ..)
      cases ht
  | t :: T, l, hn, h, hi => by
    have h1 := one_less (P := fun a => R a t) hn fun a b ha hb => hi a b t ha hb (List.mem_cons_self ..)
    have h2 := few_by (R := R) T (l.filter fun a => !decide (R a t)) (hn.sublist List.filter_sublist) (fun a ha => by
      obtain ⟨ha1, ha2⟩ := List.mem_filter.mp ha
      obtain ⟨u, hu, ru⟩ := h a ha1
      rcases List.mem_cons.mp hu with e | hu
      · subst e
        rw [decide_eq_true ru] at ha2
        cases ha2
      · exact ⟨u, hu, ru⟩) fun a b u ha hb hu => hi a b u (List.mem_filter.mp ha).1 (List.mem_filter.mp hb).1 (List.mem_cons_of_mem _ hu)
    rw [List.length_cons]
    omega
theorem filter_two (f : Nat → Bool) : ∀ l : List Nat, l.length = (l.filter f).length + (l.filter fun p => !f p).length
  | [] => rfl
  | a :: l => by
    have := filter_two f l
    rw [List.filter_cons, List.filter_cons]
    cases f a with
    | true =>
      show l.length + 1 = (l.filter f).length + 1 + (l.filter fun p => !f p).length
      omega
    | false =>
      show l.length + 1 = (l.filter f).length + ((l.filter fun p => !f p).length + 1)
      omega
theorem Step.small {sg : Int} {n p : Nat} (h : Step sg n p) : IsPr p ∨ p = 4 := by
  rcases h with ⟨h, _, _⟩ | ⟨_, h, _⟩
  · exact .inl h
  · exact .inr h
/-- the steps of up to twenty numbers up to 1000 are fewer than 64 -/
theorem steps_few {sg : Int} {ls : List Look} {l : List Nat} (ok : LooksOk ls) (hn : l.Nodup) (h : ∀ p, p ∈ l → ∃ n, n ∈ trueL ls ∧ Step sg n p) : l.length < 64 := by
  have e : l.length = (l.filter fun p => decide (p < 32)).length + (l.filter fun p => !decide (p < 32)).length := filter_two _ l
  have a1 := few_by (R := fun (p q : Nat) => p = q) (List.range 32) (l.filter fun p => decide (p < 32)) (hn.sublist List.filter_sublist) (fun p hp => ⟨p, List.mem_range.mpr (of_decide_eq_true (List.mem_filter.mp hp).2), rfl⟩) fun a b t _ _ _ x y => x.trans y.symm
  have a2 := few_by (R := fun (p n : Nat) => p ∣ n) (trueL ls) (l.filter fun p => !decide (p < 32)) (hn.sublist List.filter_sublist) (fun p hp => by
    obtain ⟨n, h1, h2⟩ := h p (List.mem_filter.mp hp).1
    exact ⟨n, h1, h2.dvd⟩) fun a b n ha hb hm da db => by
      obtain ⟨ha1, ha2⟩ := List.mem_filter.mp ha
      obtain ⟨hb1, hb2⟩ := List.mem_filter.mp hb
      have a32 : 32 ≤ a := by simpa using ha2
      have b32 : 32 ≤ b := by simpa using hb2
      have pa : IsPr a := by
        obtain ⟨_, _, s⟩ := h a ha1
        rcases s.small with z | z
        · exact z
        · omega
      have pb : IsPr b := by
        obtain ⟨_, _, s⟩ := h b hb1
        rcases s.small with z | z
        · exact z
        · omega
      refine Classical.byContradiction fun ne => ?_
      have cop : Nat.Coprime a b := by
        have g := Nat.gcd_dvd_left a b
        rcases pa.2 _ g with z | z
        · exact z
        · have g2 := Nat.gcd_dvd_right a b
          rw [z] at g2
          rcases pb.2 _ g2 with y | y
          · omega
          · exact absurd y ne
      have d := Nat.Coprime.mul_dvd_of_dvd_of_dvd cop da db
      have n1 := ok.n1 _ (mem_true.mp hm)
      have le := Nat.le_of_dvd n1.1 d
      have m := Nat.mul_le_mul a32 b32
      have : n ≤ 1000 := n1.2
      omega
  have t20 : (trueL ls).length ≤ 20 := by
    unfold trueL
    rw [List.length_map]
    exact Nat.le_trans (List.length_filter_le _ _) ok.few
  rw [List.length_range] at a1
  omega
theorem pr_997 {p : Nat} (h : IsPr p) (h2 : p ≤ 1000) : p ≤ 997 := by
  refine Nat.le_of_not_lt fun z => ?_
  have : p = 998 ∨ p = 999 ∨ p = 1000 := by omega
  rcases this with rfl | rfl | rfl
  · rcases h.2 2 (by decide) with z | z <;> omega
  · rcases h.2 3 (by decide) with z | z <;> omega
  · rcases h.2 2 (by decide) with z | z <;> omega
theorem pr_not4 : ¬ IsPr 4 := fun h => by rcases h.2 2 (by decide) with z | z <;> omega
theorem kind_of_steps {sg : Int} {ls : List Look} {L : List Nat} (ok : LooksOk ls) (hs : sg = 1 ∨ sg = -1) (hf : FitS sg ls) (asc : L.Pairwise (· < ·)) (mem : ∀ p, p ∈ L ↔ ∃ n, n ∈ trueL ls ∧ Step sg n p ∧ NoWhole ls p) (few : L.length ≤ 200) :
    IsKind sg (some (L.filter fun p => p != 4)) (L.contains 4) ∧ FitsK sg (some (L.filter fun p => p != 4)) (L.contains 4) ls := by
  have st : ∀ p, p ∈ L.filter (fun p => p != 4) → ∃ n, n ∈ trueL ls ∧ IsPr p ∧ p ∣ n ∧ (sg = 1 ∨ 2 < p) := fun p hp => by
    obtain ⟨h1, h2⟩ := List.mem_filter.mp hp
    obtain ⟨n, hn, s, _⟩ := (mem p).mp h1
    rcases s with ⟨a, b, c⟩ | ⟨_, rfl, _⟩
    · exact ⟨n, hn, a, b, c⟩
    · exact absurd h2 (by decide)
  have kd : IsKind sg (some (L.filter fun p => p != 4)) (L.contains 4) := by
    refine ⟨hs, fun z => ?_, ⟨asc.sublist List.filter_sublist, fun p hp => ?_, Nat.le_trans (List.length_filter_le _ _) few⟩, fun z h2 => ?_⟩
    · subst z
      cases c : L.contains 4 with
      | false => rfl
      | true =>
        obtain ⟨n, _, s, _⟩ := (mem 4).mp (List.contains_iff_mem.mp c)
        rcases s with ⟨a, _, _⟩ | ⟨a, _, _⟩
        · exact absurd a pr_not4
        · cases a
    · obtain ⟨n, hn, a, b, _⟩ := st p hp
      have n1 := ok.n1 _ (mem_true.mp hn)
      exact ⟨a, pr_997 a (Nat.le_trans (Nat.le_of_dvd n1.1 b) n1.2)⟩
    · obtain ⟨n, _, _, _, c⟩ := st 2 h2
      rcases c with c | c <;> omega
  refine ⟨kd, fun n b hb => ?_⟩
  have n1 := (ok.n1 _ hb).1
  have ks : ∀ p, KStep sg (some (L.filter fun p => p != 4)) (L.contains 4) p ↔ p ∈ L := fun p => by
    show p ∈ L.filter (fun p => p != 4) ∨ (L.contains 4 = true ∧ p = 4) ↔ p ∈ L
    rw [List.mem_filter, List.contains_iff_mem]
    constructor
    · rintro (⟨h, _⟩ | ⟨h, rfl⟩)
      · exact h
      · exact h
    · intro h
      by_cases z : p = 4
      · subst z
        exact .inr ⟨h, rfl⟩
      · exact .inl ⟨h, by simpa using z⟩
  rw [splK_steps kd n1]
  cases b with
  | true =>
    obtain ⟨p, h1, h2⟩ := hf n hb
    exact ⟨fun _ => ⟨p, (ks p).mpr ((mem p).mpr ⟨n, mem_true.mpr hb, h1, h2⟩), h1.dvd⟩, fun _ => rfl⟩
  | false =>
    refine ⟨fun z => Bool.noConfusion z, fun ⟨p, h1, h2⟩ => ?_⟩
    obtain ⟨_, _, _, h3⟩ := (mem p).mp ((ks p).mp h1)
    exact absurd h2 (h3 n hb)
/-- the kind by all steps that are left, of the first sign that fits -/
def KindFor (ls : List Look) (sg : Int) (ps : List Nat) (f : Bool) : Prop := (sg = 1 ∨ sg = -1) ∧ (sg = 1 ↔ FitS 1 ls) ∧ ∃ L : List Nat, L.Pairwise (· < ·) ∧ (∀ p, p ∈ L ↔ ∃ n, n ∈ trueL ls ∧ Step sg n p ∧ NoWhole ls p) ∧ ps = L.filter (fun p => p != 4) ∧ f = L.contains 4
theorem asc_eqK : ∀ {L M : List Nat}, L.Pairwise (· < ·) → M.Pairwise (· < ·) → (∀ p, p ∈ L ↔ p ∈ M) → L = M
  | [], [], _, _, _ => rfl
  | [], b :: M, _, _, h => by cases (h b).mpr (List.mem_cons_self ..)
  | a :: L, [], _, _, h => by cases (h a).mp (List.mem_cons_self ..)
  | a :: L, b :: M, hl, hm, h => by
    obtain ⟨l1, l2⟩ := List.pairwise_cons.mp hl
    obtain ⟨m1, m2⟩ := List.pairwise_cons.mp hm
    have ab : a = b := by
      rcases List.mem_cons.mp ((h a).mp (List.mem_cons_self ..)) with e | e
      · exact e
      · have x := m1 a e
        rcases List.mem_cons.mp ((h b).mpr (List.mem_cons_self ..)) with e2 | e2
        · exact e2.symm
        · have y := l1 b e2
          omega
    subst ab
    rw [asc_eqK l2 m2 fun p => ⟨fun hp => by
      rcases List.mem_cons.mp ((h p).mp (List.mem_cons_of_mem _ hp)) with e | e
      · have := l1 p hp
        omega
      · exact e, fun hp => by
      rcases List.mem_cons.mp ((h p).mpr (List.mem_cons_of_mem _ hp)) with e | e
      · have := m1 p hp
        omega
      · exact e⟩]
theorem KindFor.one {ls : List Look} {sg sg' : Int} {ps ps' : List Nat} {f f' : Bool} (h : KindFor ls sg ps f) (g : KindFor ls sg' ps' f') : sg = sg' ∧ ps = ps' ∧ f = f' := by
  obtain ⟨h1, h2, L, h3, h4, rfl, rfl⟩ := h
  obtain ⟨g1, g2, M, g3, g4, rfl, rfl⟩ := g
  have es : sg = sg' := by
    by_cases z : FitS 1 ls
    · rw [h2.mpr z, g2.mpr z]
    · have a : sg ≠ 1 := fun y => z (h2.mp y)
      have b : sg' ≠ 1 := fun y => z (g2.mp y)
      rw [h1.resolve_left a, g1.resolve_left b]
  subst es
  have e := asc_eqK h3 g3 fun p => (h4 p).trans (g4 p).symm
  subst e
  exact ⟨rfl, rfl, rfl⟩
def sp_kind_for : SpD := fun ds μ P _ => ∃ ls : List Look, ds = [looksD ls] ∧ LooksOk ls ∧ (NoFit ls → ∀ μ', Ext μ μ' → P .non μ') ∧ (¬ NoFit ls → ∀ sg ps f μ', Ext μ μ' → KindFor ls sg ps f → IsKind sg (some ps) f → FitsK sg (some ps) f ls → P (kindD sg (some ps) f) μ')
theorem len_kind_for : ∀ ds μ Pd R, sp_kind_for ds μ Pd R → ds.length = 1 := fun ds μ Pd R ⟨i, e, _⟩ => by rw [e] <;> rfl
def W_kind_for : WS :=
  (wSeq (wDrop (wCall sp_check_looks (wCons (wVar 0) wNil)))
  (wSeq (wAsg (wCall sp_fitting (wCons (wVar 0) wNil)) (wgName 1))
  (wSeq (wIfS (wNot (wTruth (wVar 1))) (wRet (wC .non)) wNext)
  (wSeq (wAsg (wOp wIx (wVar 1) (wC (.int 0))) (wgTup 2 (wgCons (wgName 2) (wgCons (wgName 3) wgEnd))))
  (wRet (wCall sp_kind_by (wCons (wVar 2) (wCons (wSortSet2 4 5 (wVar 3)) wNil))))))))
theorem vc_kind_for : ∀ ds μ Pd R, sp_kind_for ds μ Pd R → W_kind_for (fun _ C fs μ' => R C fs μ') { nx := fun _ μ' => Pd .non μ', rt := Pd } (startD 6 ds) μ := by
  intro ds μ Pd R h
  obtain ⟨ls, rfl, ok, k0, k1⟩ := h
  unfold W_kind_for
  walk_at "hd"
  refine ⟨ls, rfl, ok, ls, rfl, ok, fun j μ1 e1 hf => ?_⟩
  try simp only []
  obtain ⟨gs, hj, sub, hmem, hr⟩ := hf
  cases gs with
  | nil =>
    simp only [hj, List.map_nil, List.isEmpty_nil, Bool.not_true, Bool.not_false]
    exact k0 (fun sg hs hf => by cases (hmem sg).mpr ⟨hs, hf⟩) μ1 e1
  | cons g gs =>
    obtain ⟨sg, r⟩ := g
    obtain ⟨hs, hfit⟩ := (hmem sg).mp (List.mem_cons_self ..)
    obtain ⟨m, S, hR⟩ := hr (sg, r) (List.mem_cons_self ..)
    simp only [hj, List.map_cons, List.isEmpty_cons, at0, Bool.not_false, Bool.not_true]
    have yes : ¬ NoFit ls := fun z => z sg hs hfit
    have first : sg = 1 ↔ FitS 1 ls := by
      refine ⟨fun z => z ▸ hfit, fun z => ?_⟩
      rcases hs with y | y
      · exact y
      · subst y
        have m1 := (hmem 1).mpr ⟨.inl rfl, z⟩
        have sub' : ((-1 : Int) :: gs.map (·.1)).Sublist [1, -1] := sub
        have m2 : (1 : Int) ∈ (-1 : Int) :: gs.map (·.1) := m1
        generalize gs.map (·.1) = r at sub' m2
        rcases List.mem_cons.mp m2 with e | e
        · cases e
        · cases sub' with
          | cons _ s1 => 
            cases s1 with
            | cons _ s2 => cases s2
            | cons_cons _ s2 =>
              cases s2
              cases e
    have en : ((List.range (trueL ls).length).map fun i => (S i).map Int.ofNat).flatten = (((List.range (trueL ls).length).map S).flatten).map Int.ofNat := by
      rw [List.map_flatten, List.map_map]
      rfl
    have fl : ∀ p, p ∈ ((List.range (trueL ls).length).map S).flatten ↔ ∃ n, n ∈ trueL ls ∧ Step sg n p ∧ NoWhole ls p := fun p => by
      rw [List.mem_flatten]
      constructor
      · rintro ⟨l, hl, hp⟩
        obtain ⟨i, hi, rfl⟩ := List.mem_map.mp hl
        have lt := List.mem_range.mp hi
        have st := ((hR.each i _ (List.getElem?_eq_getElem lt)).2.1 p).mp hp
        exact ⟨_, List.getElem_mem lt, st.1, noWhole_iff.mpr st.2⟩
      · rintro ⟨n, hn, h1, h2⟩
        obtain ⟨i, lt, rfl⟩ := List.mem_iff_getElem.mp hn
        exact ⟨S i, List.mem_map.mpr ⟨i, List.mem_range.mpr lt, rfl⟩, ((hR.each i _ (List.getElem?_eq_getElem lt)).2.1 p).mpr ⟨h1, noWhole_iff.mp h2⟩⟩
    unfold wSortSet2
    walk_at "hd"
    refine ⟨⟨by decide, by decide⟩, refs m (trueL ls).length, (List.range (trueL ls).length).map fun i => (S i).map Int.ofNat, hR.at_, by rw [refs_len, List.length_map, List.length_range], fun i x ns hx hns => ?_, fun l hn hl => ?_, fun ms asc hms => ?_⟩
    · have lt : i < (trueL ls).length := by
        have := (List.getElem?_eq_some_iff.mp hx).1
        rwa [refs_len] at this
      rw [refs_get lt] at hx
      rw [List.getElem?_map, List.getElem?_range lt] at hns
      refine ⟨m i, (Option.some.inj hx).symm, ?_⟩
      rw [(hR.each i _ (List.getElem?_eq_getElem lt)).1, ← Option.some.inj hns, natD_ints]
    · rw [en] at hl
      have h0 : ∀ k, k ∈ l → ∃ p : Nat, k = (p : Int) ∧ p ∈ ((List.range (trueL ls).length).map S).flatten := fun k hk => by
        obtain ⟨p, hp, e⟩ := List.mem_map.mp (hl k hk)
        exact ⟨p, e.symm, hp⟩
      have := steps_few (l := l.map Int.toNat) (sg := sg) ok (by
        refine List.pairwise_map.mpr (List.Pairwise.imp_of_mem (fun {a b} ha hb ne z => ?_) hn)
        obtain ⟨p, rfl, _⟩ := h0 a ha
        obtain ⟨q, rfl, _⟩ := h0 b hb
        exact ne (by omega)) fun p hp => by
          obtain ⟨k, hk, rfl⟩ := List.mem_map.mp hp
          obtain ⟨p, rfl, hp2⟩ := h0 k hk
          obtain ⟨n, h1, h2, _⟩ := (fl p).mp hp2
          exact ⟨n, h1, h2⟩
      rwa [List.length_map] at this
    · rw [en] at hms
      obtain ⟨L, rfl, hL⟩ := ints_natsP hms
      have ascL : L.Pairwise (· < ·) := (List.pairwise_map.mp asc).imp fun h => Int.ofNat_lt.mp h
      have memL : ∀ p, p ∈ L ↔ ∃ n, n ∈ trueL ls ∧ Step sg n p ∧ NoWhole ls p := fun p => (hL p).trans (fl p)
      have few := steps_few (l := L) (sg := sg) ok (ascL.imp fun h => Nat.ne_of_lt h) fun p hp => by
        obtain ⟨n, h1, h2, _⟩ := (memL p).mp hp
        exact ⟨n, h1, h2⟩
      obtain ⟨kd, ft⟩ := kind_of_steps ok hs hfit ascL memL (by omega)
      refine ⟨sg, _, L, rfl, fun μ' e => ?_, by omega, fun μ' e => k1 yes sg _ _ μ' ((e1.trans (Ext.app _ _)).trans e) ⟨hs, first, L, ascL, memL, rfl, rfl⟩ kd ft⟩
      rw [natD_ints]
      exact e.lst (lst_new _ _)

/-! whether a thing is a whole number between two; it is -/
def sp_l_whole : SpD := fun ds μ P _ => ∃ a lo hi : Int, ds = [.int a, .int lo, .int hi] ∧ lo ≤ a ∧ a ≤ hi ∧ P (.bl true) μ
theorem len_l_whole : ∀ ds μ Pd R, sp_l_whole ds μ Pd R → ds.length = 3 := fun ds μ Pd R ⟨_, _, _, e, _⟩ => by rw [e] <;> rfl
def W_l_whole : WS :=
  (wRet (wAndV (wCB (wIsi "int") (wCons (wVar 0) (wCons (wC (.ty "int")) wNil))) (wAndV (wNotV (wCB (wIsi "bool") (wCons (wVar 0) (wCons (wC (.ty "bool")) wNil)))) (wChain wLe wLe (wVar 1) (wVar 0) (wVar 2)))))
theorem vc_l_whole : ∀ ds μ Pd R, sp_l_whole ds μ Pd R → W_l_whole (fun _ C fs μ' => R C fs μ') { nx := fun _ μ' => Pd .non μ', rt := Pd } (startD 3 ds) μ := by
  intro ds μ Pd R h
  obtain ⟨a, lo, hi, rfl, h1, h2, k⟩ := h
  unfold W_l_whole
  walk_at "hd"
  refine ⟨_, _, rfl, kit_ii, ?_⟩
  simp only []
  refine ⟨_, _, rfl, kit_ib, ?_⟩
  simp only [Bool.not_false, decide_eq_true h1, decide_eq_true h2]
  exact k

/-! the primes of an integer, the law's own way -/
structure Tried (n : Nat) (F : List Nat) (v q : Nat) : Prop where
  q2 : 2 ≤ q
  v1 : 1 ≤ v
  mem : ∀ p, p ∈ F → IsPr p ∧ p ∣ n
  rest : ∀ p, IsPr p → (p ∣ n ↔ p ∈ F ∨ p ∣ v)
  rough : Rough q v
  few : 2 ^ F.length * v ≤ n
theorem Tried.start {n : Nat} (hn : 1 ≤ n) : Tried n [] n 2 := ⟨Nat.le_refl 2, hn, fun p h => by simp at h, fun p _ => ⟨.inr, fun h => h.resolve_left (by simp)⟩, Rough.two n, by rw [List.length_nil, Nat.pow_zero, Nat.one_mul]; exact Nat.le_refl n⟩
theorem Tried.skip {n v q : Nat} {F : List Nat} (t : Tried n F v q) (h : ¬ q ∣ v) : Tried n F v (q + 1) := { t with q2 := by have := t.q2; omega, rough := t.rough.next h }
theorem Tried.take {n v q u : Nat} {F : List Nat} (t : Tried n F v q) (e : v = q * u) : Tried n (F ++ [q]) u q := by
  have qv : q ∣ v := by rw [e]; exact Nat.dvd_mul_right q u
  have pq := t.rough.prime t.q2 qv
  have uv : u ∣ v := by rw [e]; exact Nat.dvd_mul_left u q
  refine ⟨t.q2, Nat.pos_of_ne_zero fun z => ?_, fun p hp => ?_, fun p hp => (t.rest p hp).trans ?_, t.rough.of_dvd uv, ?_⟩
  · rw [z, Nat.mul_zero] at e
    have := t.v1
    omega
  · rcases List.mem_append.mp hp with z | z
    · exact t.mem p z
    · rw [List.mem_singleton.mp z]
      exact ⟨pq, (t.rest q pq).mpr (.inr qv)⟩
  · rw [List.mem_append, List.mem_singleton]
    constructor
    · rintro (z | z)
      · exact .inl (.inl z)
      · rw [e] at z
        rcases pr_mul hp z with y | y
        · exact .inl (.inr (pr_eq hp pq y))
        · exact .inr y
    · rintro ((z | z) | z)
      · exact .inl z
      · exact .inr (z ▸ qv)
      · exact .inr (Nat.dvd_trans z uv)
  · rw [List.length_append]
    exact few_step t.few t.q2 (by omega)
theorem Tried.done {n v q : Nat} {F L : List Nat} (t : Tried n F v q) (h : v < q * q) (hL : L.Pairwise (· < ·)) (hm : ∀ p, p ∈ L ↔ p ∈ F ++ (if 1 < v then [v] else [])) : PrimesIs n L := by
  refine ⟨hL, fun p => (hm p).trans ?_⟩
  rw [List.mem_append]
  by_cases hv : 1 < v
  · rw [if_pos hv, List.mem_singleton]
    have pv := t.rough.last hv h
    constructor
    · rintro (z | z)
      · exact t.mem p z
      · rw [z]
        exact ⟨pv, (t.rest v pv).mpr (.inr (Nat.dvd_refl v))⟩
    · rintro ⟨a, b⟩
      rcases (t.rest p a).mp b with z | z
      · exact .inl z
      · exact .inr (pr_eq a pv z)
  · rw [if_neg hv]
    have e : v = 1 := by have := t.v1; omega
    constructor
    · rintro (z | z)
      · exact t.mem p z
      · simp at z
    · rintro ⟨a, b⟩
      rcases (t.rest p a).mp b with z | z
      · exact .inl z
      · rw [e] at z
        have := pr_le (by decide) z
        have := a.1
        omega
def sp_l_primes : SpD := fun ds μ P _ => ∃ n : Nat, ds = [.int (n : Int)] ∧ n < 2 ^ 60 ∧ ∀ (L : List Nat) (j : Nat) μ', (1 ≤ n → PrimesIs n L) → (n = 0 → L = []) → Ext μ μ' → lstAt μ' j = some (natD L) → μ.length ≤ j → P (.ref j) μ'
theorem len_l_primes : ∀ ds μ Pd R, sp_l_primes ds μ Pd R → ds.length = 1 := fun ds μ Pd R ⟨i, e, _⟩ => by rw [e] <;> rfl
def W_l_primes : WS :=
  (wSeq (wPar3 1 2 3 (wCons (wLst wNil) (wCons (wVar 0) (wCons (wC (.int 2)) wNil))))
  (wSeq (wWhile (wB (wOp wLe (wOp wMul (wVar 3) (wVar 3)) (wVar 2))) (wIfS (wB (wOp wEq (wOp wMod (wVar 2) (wVar 3)) (wC (.int 0)))) (wSeq (wDrop (wApp (wVar 1) (wVar 3)))
  (wAsg (wOp wDiv (wVar 2) (wVar 3)) (wgName 2))) (wAsg (wOp wAdd (wVar 3) (wC (.int 1))) (wgName 3))))
  (wRet (wSortSet (wOp wAdd (wVar 1) (wIf (wB (wOp wGt (wVar 2) (wC (.int 1)))) (wLst (wCons (wVar 2) wNil)) (wLst wNil)))))))
theorem vc_l_primes : ∀ ds μ Pd R, sp_l_primes ds μ Pd R → W_l_primes (fun _ C fs μ' => R C fs μ') { nx := fun _ μ' => Pd .non μ', rt := Pd } (startD 4 ds) μ := by
  intro ds μ Pd R h
  obtain ⟨n, rfl, hn, k⟩ := h
  unfold W_l_primes
  walk_at "hd"
  refine ⟨by decide, ?_⟩
  unfold wWhile
  by_cases hn0 : n = 0
  · subst hn0
    refine ⟨fun m δ' μ' => δ' = [some (.int ((0 : Nat) : Int)), some (.ref μ.length), some (.int ((0 : Nat) : Int)), some (.int 2)] ∧ μ' = μ ++ [.lst []], ⟨0, rfl, rfl⟩, ?_⟩
    rintro m δ' μ' ⟨rfl, rfl⟩
    walk_at "hd"
    refine ⟨mulOk (a := 2) (b := 2) (by decide) (by decide) (by decide), ?_⟩
    simp only [show decide ((2 : Int) * 2 ≤ ((0 : Nat) : Int)) = false from rfl, show decide ((1 : Int) < ((0 : Nat) : Int)) = false from rfl, wSortSet]
    walk_at "hd"
    refine ⟨by decide, _, _, (Ext.app _ _).lst (lst_new _ _), lst_new _ _, by decide, [], rfl, ?_, by decide, fun ms h1 h2 => ?_⟩
    · show lstAt _ _ = _
      rw [lst_new]
      rfl
    · have e : ms = [] := List.eq_nil_iff_forall_not_mem.mpr fun z hz => by
        have := (h2 z).mp hz
        simp at this
      subst e
      exact k [] _ _ (fun z => by omega) (fun _ => rfl) (((Ext.app _ _).trans (Ext.app _ _)).trans ((Ext.app _ _).trans (Ext.app _ _))) (lst_new _ _) (by simp)
  have hn1 : 1 ≤ n := Nat.pos_of_ne_zero hn0
  refine ⟨fun m δ' μ' => ∃ (v q : Nat) (F : List Nat), δ' = [some (.int (n : Int)), some (.ref μ.length), some (.int (v : Int)), some (.int (q : Int))] ∧ μ' = μ ++ [.lst (natD F)] ∧ m = (v - q) + v ∧ v ≤ n ∧ q ≤ n + 2 ∧ Tried n F v q, ⟨(n - 2) + n, n, 2, [], rfl, rfl, rfl, Nat.le_refl n, by omega, Tried.start hn1⟩, ?_⟩
  rintro m δ' μ' ⟨v, q, F, rfl, rfl, rfl, hvn, hqn, t⟩
  have q2 := t.q2
  have v1 := t.v1
  have fl := few_of t.few v1 hn
  have l60 : (2 : Nat) ^ 60 + 2 < 2 ^ 130 := by decide +kernel
  walk_at "hd"
  have qq : (q : Int) * (q : Int) = ((q * q : Nat) : Int) := by rw [Int.natCast_mul]
  rw [qq]
  refine ⟨mulOk (a := 130) (b := 130) (by rw [Int.natAbs_natCast]; omega) (by rw [Int.natAbs_natCast]; omega) (by decide), ?_⟩
  cases c : decide (((q * q : Nat) : Int) ≤ (v : Int)) with
  | true =>
    have c' : q * q ≤ v := by
      have := of_decide_eq_true c
      omega
    have q2v : q * 2 ≤ q * q := Nat.mul_le_mul_left q q2
    simp only []
    refine ⟨by omega, ?_⟩
    cases c2 : decide ((v : Int) % (q : Int) = 0) with
    | true =>
      obtain ⟨u, hu⟩ := dvd_int.mp (of_decide_eq_true c2)
      simp only [wApp]
      walk_at "hd"
      refine ⟨⟨_, lst_new _ _⟩, ?_⟩
      simp only [lst_new]
      have eu : (v : Int) / (q : Int) = (u : Int) := by rw [hu, Int.natCast_mul, Int.mul_ediv_cancel_left _ (by omega)]
      rw [eu]
      have u1 : 1 ≤ u := (t.take hu).v1
      have lt : u * 1 < u * q := Nat.mul_lt_mul_of_pos_left (by omega) (by omega)
      have uv : u < v := by rw [hu, Nat.mul_comm q]; omega
      refine ⟨by rw [natD_len]; omega, divOk60 (by omega) (by omega), (u - q) + u, by omega, u, q, F ++ [q], rfl, ?_, rfl, by omega, hqn, t.take hu⟩
      rw [set_last, natD_app]
    | false =>
      have dv : ¬ q ∣ v := fun z => of_decide_eq_false c2 (dvd_int.mpr z)
      simp only []
      exact ⟨(v - (q + 1)) + v, by omega, v, q + 1, F, rfl, rfl, rfl, hvn, by omega, t.skip dv⟩
  | false =>
    have c' : v < q * q := by
      have := of_decide_eq_false c
      omega
    simp only [wSortSet]
    walk_at "hd"
    have fin : ∀ (μ2 : Sto) (T : List Nat) (j : Nat), Ext μ μ2 → lstAt μ2 j = some (natD (F ++ T)) → (T = if 1 < v then [v] else []) → ∃ ns : List Int, HD.isTup (.ref j) = false ∧ itemsOf μ2 (.ref j) = some (ns.map D.int) ∧ ns.length < 64 ∧ ∀ ms : List Int, ms.Pairwise (· < ·) → (∀ k, k ∈ ms ↔ k ∈ ns) → Pd (.ref μ2.length) (μ2 ++ [.lst (ms.map D.int)]) := fun μ2 T j e2 hj hT => by
      refine ⟨(F ++ T).map Int.ofNat, rfl, ?_, ?_, fun ms h1 h2 => ?_⟩
      · show lstAt μ2 j = _
        rw [hj, natD_ints]
      · rw [List.length_map, List.length_append]
        have : T.length ≤ 1 := by
          rw [hT]
          split
          · exact Nat.le_refl 1
          · exact Nat.zero_le 1
        omega
      · obtain ⟨L, rfl, hL⟩ := ints_natsP h2
        rw [← natD_ints]
        exact k L _ _ (fun _ => t.done c' (asc_nats h1) fun p => (hL p).trans (by rw [hT])) (fun z => absurd z hn0) (e2.trans (Ext.app _ _)) (lst_new _ _) e2.1
    have natF : ∀ T : List Nat, natD (F ++ T) = natD F ++ natD T := fun T => by
      unfold natD
      rw [List.map_append]
    cases cv : decide ((1 : Int) < (v : Int)) with
    | true =>
      have cv' : 1 < v := by
        have := of_decide_eq_true cv
        omega
      simp only []
      refine ⟨by decide, _, _, (Ext.app _ _).lst (lst_new _ _), lst_new _ _, by rw [natD_len]; simp; omega, ?_⟩
      exact fin _ [v] _ (((Ext.app _ _).trans (Ext.app _ _)).trans (Ext.app _ _)) (by rw [lst_new, natF] <;> rfl) (by rw [if_pos cv'])
    | false =>
      have cv' : ¬ 1 < v := by
        have := of_decide_eq_false cv
        omega
      simp only []
      refine ⟨by decide, _, _, (Ext.app _ _).lst (lst_new _ _), lst_new _ _, by rw [natD_len]; simp; omega, ?_⟩
      exact fin _ [] _ (((Ext.app _ _).trans (Ext.app _ _)).trans (Ext.app _ _)) (by rw [lst_new, natF] <;> rfl) (by rw [if_neg cv'])

/-! what the law calls a kind: with primes alone -/
theorem kit_bbI : kitB "bool" "bool" = some true := by decide +kernel
theorem kit_tsI : kitB "tuple" "str" = some false := by decide +kernel
theorem natD_getI {l : List Nat} {k : Nat} (h : k < l.length) : (natD l)[k]? = some (.int ((l[k] : Nat) : Int)) := by
  unfold natD
  rw [List.getElem?_map, List.getElem?_eq_getElem h]
  rfl
theorem atI_natK {l : List Nat} {k : Nat} (h : k < l.length) : atI (natD l) ((k : Nat) : Int) = some (.int ((l[k] : Nat) : Int)) := by
  have e : L2.ixN (natD l).length ((k : Nat) : Int) = some k := by
    unfold L2.ixN
    have : (natD l).length = l.length := by
      unfold natD
      rw [List.length_map]
    rw [this, if_pos (by omega), if_pos (by omega), Int.toNat_natCast]
  unfold atI
  rw [e]
  exact natD_getI h
theorem two_outs {sg : Int} {f : Bool} {A Q : Prop} (h : sg = 1 → f = false) (q : Q) : match decide (sg = 1) with | true => (match (generalizing := false) f with | true => A | false => Q) | false => Q := by
  cases c : decide (sg = 1) with
  | true =>
    have z := h (of_decide_eq_true c)
    clear h
    subst z
    exact q
  | false => exact q
def sp_l_is_kind : SpD := fun ds μ P _ => ∃ (sg : Int) (l : List Nat) (f : Bool), ds = [kindD sg (some l) f] ∧ IsKind sg (some l) f ∧ ∀ μ', Ext μ μ' → P (.bl true) μ'
theorem len_l_is_kind : ∀ ds μ Pd R, sp_l_is_kind ds μ Pd R → ds.length = 1 := fun ds μ Pd R ⟨i, ps, f, e, _⟩ => by rw [e] <;> rfl
def W_l_is_kind : WS :=
  (wSeq (wIfS (wOr (wNot (wTruth (wCB (wIsi "tuple") (wCons (wVar 0) (wCons (wC (.ty "tuple")) wNil))))) (wOr (wB (wOp wNe (wCB wLen (wCons (wVar 0) wNil)) (wC (.int 3)))) (wNot (wTruth (wCB (wIsi "bool") (wCons (wOp wIx (wVar 0) (wC (.int 2))) (wCons (wC (.ty "bool")) wNil))))))) (wRet (wC (.bl false))) wNext)
  (wSeq (wIfS (wOr (wNot (wTruth (wCall sp_l_whole (wCons (wOp wIx (wVar 0) (wC (.int 0))) (wCons (wNeg (wC (.int 1))) (wCons (wC (.int 1)) wNil)))))) (wOr (wB (wOp wEq (wOp wIx (wVar 0) (wC (.int 0))) (wC (.int 0)))) (wAnd (wB (wOp wEq (wOp wIx (wVar 0) (wC (.int 0))) (wC (.int 1)))) (wTruth (wOp wIx (wVar 0) (wC (.int 2))))))) (wRet (wC (.bl false))) wNext)
  (wSeq (wIfS (wTruth (wCB (wIsi "str") (wCons (wOp wIx (wVar 0) (wC (.int 1))) (wCons (wC (.ty "str")) wNil)))) (wRet (wAndV (wOp wEq (wOp wIx (wVar 0) (wC (.int 1))) (wC (.str "all"))) (wNotV (wOp wIx (wVar 0) (wC (.int 2)))))) wNext)
  (wSeq (wIfS (wNot (wTruth (wCB (wIsi "tuple") (wCons (wOp wIx (wVar 0) (wC (.int 1))) (wCons (wC (.ty "tuple")) wNil))))) (wRet (wC (.bl false))) wNext)
  (wSeq (wForL (wOp wIx (wVar 0) (wC (.int 1))) (wgName 1) (wIfS (wOr (wNot (wTruth (wCall sp_l_whole (wCons (wVar 1) (wCons (wC (.int 2)) (wCons (wC (.int 997)) wNil)))))) (wOr (wB (wOp wNe (wCall sp_l_primes (wCons (wVar 1) wNil)) (wLst (wCons (wVar 1) wNil)))) (wAnd (wB (wOp wEq (wVar 1) (wC (.int 2)))) (wB (wOp wLt (wOp wIx (wVar 0) (wC (.int 0))) (wC (.int 0))))))) (wRet (wC (.bl false))) wNext))
  (wRet (wCB wAll (wCons (wLcR 2 (wCons (wOp wSub (wCB wLen (wCons (wOp wIx (wVar 0) (wC (.int 1))) wNil)) (wC (.int 1))) wNil) wYes (wOp wLt (wOp wIx (wOp wIx (wVar 0) (wC (.int 1))) (wVar 2)) (wOp wIx (wOp wIx (wVar 0) (wC (.int 1))) (wOp wAdd (wVar 2) (wC (.int 1)))))) wNil))))))))
theorem vc_l_is_kind : ∀ ds μ Pd R, sp_l_is_kind ds μ Pd R → W_l_is_kind (fun _ C fs μ' => R C fs μ') { nx := fun _ μ' => Pd .non μ', rt := Pd } (startD 3 ds) μ := by
  intro ds μ Pd R h
  obtain ⟨sg, l, f, rfl, ⟨h1, h2, ⟨g1, g2, g3⟩, h4⟩, k⟩ := h
  unfold W_l_is_kind kindD
  walk_at "hd"
  refine ⟨_, _, rfl, kit_tt, ?_⟩
  simp only [Bool.not_true]
  refine ⟨3, rfl, ?_⟩
  simp only [show decide (((3 : Nat) : Int) = 3) = true from rfl, Bool.not_true]
  refine ⟨_, _, rfl, kit_bbI, ?_⟩
  simp only [Bool.not_true]
  refine ⟨sg, -1, 1, rfl, by omega, by omega, ?_⟩
  simp only [Bool.not_true, decide_eq_false (show ¬ sg = 0 by omega)]
  simp only [primD]
  refine two_outs h2 ?_
  refine ⟨_, _, rfl, kit_tsI, ?_⟩
  simp only []
  refine ⟨_, _, rfl, kit_tt, ?_⟩
  simp only [Bool.not_true]
  unfold wForL
  walk_at "hd"
  refine ⟨natD l, fun i δ' μ' => Ext μ μ' ∧ ∃ (x1 x2 : Option D), δ' = [some (kindD sg (some l) f), x1, x2], ⟨Ext.refl μ, _, _, rfl⟩, fun i δ' μ' _ _ => rfl, ?_, ?_⟩
  · rintro i z δ' μ' hi ⟨e1, x1, x2, rfl⟩
    unfold natD at hi
    rw [List.getElem?_map] at hi
    obtain ⟨p, hp, rfl⟩ := Option.map_eq_some_iff.mp hi
    obtain ⟨pp, p997⟩ := g2 p (List.mem_of_getElem? hp)
    have p2 := pp.1
    unfold kindD
    walk_at "hd"
    refine ⟨(p : Int), 2, 997, rfl, by omega, by omega, ?_⟩
    simp only [Bool.not_true]
    have l60 : 997 < 2 ^ 60 := by decide +kernel
    refine ⟨p, rfl, by omega, fun L j μ1 hL _ e2 hj _ => ?_⟩
    have eL := (hL (by omega)).eq (PrimesIs.one pp)
    subst eL
    simp only []
    refine ⟨by decide, .list [.int (p : Int)], .list [.int (p : Int)], .ref ((Ext.app _ _).lst hj) (.cons (.int _) .nil), .ref (lst_new _ _) (.cons (.int _) .nil), rfl, rfl, ?_⟩
    rw [same_eqv (d := .list [.int (p : Int)]) rfl]
    simp only [Bool.not_true]
    have good : Ext μ (μ1 ++ [O.lst [D.int (p : Int)]]) := e1.trans (e2.trans (Ext.app _ _))
    cases c : decide ((p : Int) = 2) with
    | false => exact ⟨good, _, _, rfl⟩
    | true =>
      cases c2 : decide (sg < 0) with
      | false => exact ⟨good, _, _, rfl⟩
      | true =>
        have a1 := of_decide_eq_true c
        have a2 := of_decide_eq_true c2
        have a3 : p = 2 := by omega
        exact absurd (a3 ▸ List.mem_of_getElem? hp) (h4 (by omega))
  · rintro δ' μ' ⟨e1, x1, x2, rfl⟩
    have nl : (natD l).length = l.length := by
      unfold natD
      rw [List.length_map]
    unfold wLcR kindD
    walk_at "hd"
    refine ⟨(l.length : Nat), ?_, ?_⟩
    · show some (natD l).length = _
      rw [nl]
    try simp only []
    refine ⟨r62 (by omega), ?_⟩
    have en : ((l.length : Nat) - 1 : Int).toNat = l.length - 1 := by omega
    rw [en]
    refine lc_ext (fun _ => true) (fun _ => .bl true) (by omega) (fun _ _ => trivial) (fun m μ' Q hm e q => q _ (Ext.refl _)) (fun m μ' Q hm _ e q => ?_) fun μ3 e3 hl => ?_
    · walk_at "hd"
      have lt : m + 1 < l.length := by omega
      have c0 : atI (natD l) ((m : Nat) : Int) = some (.int ((l[m] : Nat) : Int)) := atI_natK (by omega)
      have c1 : atI (natD l) ((m : Nat) + 1 : Int) = some (.int ((l[m + 1] : Nat) : Int)) := atI_natK lt
      have asc := List.pairwise_iff_getElem.mp g1 m (m + 1) (by omega) lt (by omega)
      simp only [primD, Int.zero_add, c0, c1]
      rw [decide_eq_true (by omega)]
      exact q _ (Ext.refl _)
    · unfold HD.wAll
      refine ⟨List.replicate (l.length - 1) true, ?_, ?_⟩
      · rw [hl, List.filter_eq_self.mpr (fun _ _ => rfl)]
        rw [List.map_replicate, List.map_const', List.length_range]
      · have ea : (List.replicate (l.length - 1) true).all _root_.id = true := by simp
        rw [ea]
        exact k _ (e1.trans e3)

/-! whether an equation splits by a kind, the law's own way -/
def T_l_splits : WS :=
  (wSeq (wIfS (wAnd (wTruth (wVar 5)) (wB (wOp wEq (wOp wMod (wVar 1) (wC (.int 4))) (wC (.int 0))))) (wRet (wC (.bl true))) wNext)
  (wRet (wIf (wB (wOp wEq (wVar 4) (wC (.str "all")))) (wOp wNe (wVar 2) (wLst wNil)) (wCB wAny (wCons (wLcL 6 (wVar 2) wYes (wOp wInI (wVar 6) (wVar 4))) wNil)))))
def sp_l_splits : SpD := fun ds μ P _ => ∃ (sg : Int) (ps : Option (List Nat)) (f : Bool) (n : Nat), ds = [kindD sg ps f, .int (n : Int)] ∧ IsKind sg ps f ∧ 1 ≤ n ∧ n ≤ 1000 ∧ ∀ b μ', Ext μ μ' → SaysB b (SplK sg ps f n) → P (.bl b) μ'
theorem len_l_splits : ∀ ds μ Pd R, sp_l_splits ds μ Pd R → ds.length = 2 := fun ds μ Pd R ⟨i, ps, f, n, e, _⟩ => by rw [e] <;> rfl
theorem rest_l_splits {sg : Int} {ps : Option (List Nat)} {f : Bool} {n j : Nat} {L : List Nat} {μ : Sto} {R : XD} {E : EndsD} {d0 : D} {x6 : Option D} (hk : IsKind sg ps f) (hL : PrimesIs n L) (hn1 : 1 ≤ n) (hl : L.length ≤ 1000) (hj : lstAt μ j = some (natD (L.filter (ownP sg))))
    (k : ∀ b μ', Ext μ μ' → SaysB b (SplK sg ps f n) → E.rt (.bl b) μ') : T_l_splits R E [some d0, some (.int (n : Int)), some (.ref j), some (.int sg), some (primD ps), some (.bl f), x6] μ := by
  obtain ⟨h1, h2, h3⟩ := id hk
  have four : ((n : Int) % 4 = 0) ↔ n % 4 = 0 := by omega
  -- behind the four
  have tail : ¬ (f = true ∧ n % 4 = 0) → (wRet (wIf (wB (wOp wEq (wVar 4) (wC (.str "all")))) (wOp wNe (wVar 2) (wLst wNil)) (wCB HD.wAny (wCons (wLcL 6 (wVar 2) wYes (wOp wInI (wVar 6) (wVar 4))) wNil)))) R E [some d0, some (.int (n : Int)), some (.ref j), some (.int sg), some (primD ps), some (.bl f), x6] μ := fun no => by
    cases ps with
    | none =>
      simp only [primD]
      walk_at "hd"
      simp only [decide_true]
      refine ⟨by decide, .list (natP (L.filter (ownP sg))), .list [], .ref ((Ext.app _ _).lst hj) (py_nats _), .ref (lst_new _ _) .nil, (shaped_nats _).2, rfl, k _ _ (Ext.app _ _) ?_⟩
      have ne : (L.filter (ownP sg) ≠ []) ↔ SplK sg none f n := by
        unfold SplK
        constructor
        · intro z
          obtain ⟨p, hp⟩ := List.exists_mem_of_ne_nil _ z
          obtain ⟨a, b⟩ := List.mem_filter.mp hp
          obtain ⟨pp, pd⟩ := (hL.2 p).mp a
          have p2 := pp.1
          have pn := pr_le hn1 pd
          rcases h1 with rfl | rfl
          · exact .inl ⟨rfl, by omega⟩
          · refine .inr ⟨rfl, p, pp, pd, ?_⟩
            unfold ownP at b
            simpa using b
        · rintro (⟨rfl, z⟩ | ⟨rfl, p, pp, pd, p3⟩)
          · obtain ⟨p, pp, pd⟩ := pr_dvd n (by omega)
            exact List.ne_nil_of_mem (List.mem_filter.mpr ⟨(hL.2 p).mpr ⟨pp, pd⟩, by unfold ownP; simp⟩)
          · exact List.ne_nil_of_mem (List.mem_filter.mpr ⟨(hL.2 p).mpr ⟨pp, pd⟩, by unfold ownP; simp [p3]⟩)
      unfold SaysB
      rw [← ne]
      generalize L.filter (ownP sg) = M
      cases M with
      | nil => exact ⟨fun z => (by cases z), fun z => absurd rfl z⟩
      | cons a M => exact ⟨fun _ => by simp, fun _ => rfl⟩
    | some l =>
      simp only [primD]
      walk_at "hd"
      obtain ⟨⟨g1, g2, g3⟩, h4⟩ := h3
      refine ⟨.tuple (natP l), .str "all", .tup (py_nats l), .str _, (shaped_nats l).1, by decide +kernel, ?_⟩
      rw [show PyData.eqv (.tuple (natP l)) (.str "all") = false from rfl]
      simp only []
      simp only [wLcL]
      walk_at "hd"
      refine ⟨natD (L.filter (ownP sg)), hj, lc_nats (fun _ => true) (fun p => .bl (l.contains p)) (Nat.le_trans (List.length_filter_le _ _) hl) (fun μ' e => e.lst hj) (fun p hp μ' Q e q => q μ' (Ext.refl μ')) (fun p hp μ' Q _ e q => ?_) fun μ' e hl2 => ?_⟩
      · walk_at "hd"
        refine ⟨l.map Int.ofNat, by rw [← natD_ints] <;> rfl, ?_⟩
        have ec : (l.map Int.ofNat).contains (p : Int) = l.contains p := by
          rw [Bool.eq_iff_iff, List.contains_iff_mem, List.contains_iff_mem, List.mem_map]
          exact ⟨fun ⟨a, ha, ea⟩ => by
            have : a = p := Int.ofNat.inj ea
            exact this ▸ ha, fun h => ⟨p, h, rfl⟩⟩
        rw [ec]
        exact q μ' (Ext.refl μ')
      · unfold HD.wAny
        refine ⟨(L.filter (ownP sg)).map l.contains, ?_, k _ μ' e ?_⟩
        · rw [hl2, List.filter_eq_self.mpr (fun _ _ => rfl), List.map_map]
          rfl
        · unfold SaysB SplK
          rw [List.any_map, List.any_eq_true]
          constructor
          · rintro ⟨p, hp, hz⟩
            obtain ⟨a, b⟩ := List.mem_filter.mp hp
            exact .inr ⟨p, by simpa using hz, ((hL.2 p).mp a).2⟩
          · intro z
            obtain ⟨p, hp, hd⟩ := z.resolve_left no
            refine ⟨p, List.mem_filter.mpr ⟨(hL.2 p).mpr ⟨(g2 p hp).1, hd⟩, ?_⟩, by simpa using hp⟩
            have p2 := (g2 p hp).1.1
            unfold ownP
            rcases h1 with rfl | rfl
            · rfl
            · have ne : p ≠ 2 := fun y => h4 rfl (y ▸ hp)
              simp
              omega
  unfold T_l_splits
  walk_at "hd"
  cases f with
  | false => exact tail fun z => by cases z.1
  | true =>
    simp only []
    refine ⟨by decide, ?_⟩
    cases c4 : decide ((n : Int) % 4 = 0) with
    | true =>
      have c4' := of_decide_eq_true c4
      refine k true μ (Ext.refl μ) ⟨fun _ => ?_, fun _ => rfl⟩
      cases ps with
      | none =>
        have : true = false := h3
        cases this
      | some l => exact .inl ⟨rfl, four.mp c4'⟩
    | false =>
      have c4' := of_decide_eq_false c4
      exact tail fun z => c4' (four.mpr z.2)
def W_l_splits : WS :=
  (wSeq (wAsg (wVar 0) (wgTup 3 (wgCons (wgName 3) (wgCons (wgName 4) (wgCons (wgName 5) wgEnd)))))
  (wSeq (wAsg (wLcL 6 (wCall sp_l_primes (wCons (wVar 1) wNil)) (wOr (wB (wOp wGt (wVar 3) (wC (.int 0)))) (wB (wOp wGt (wVar 6) (wC (.int 2))))) (wVar 6)) (wgName 2))
  (wSeq (wIfS (wAnd (wTruth (wVar 5)) (wB (wOp wEq (wOp wMod (wVar 1) (wC (.int 4))) (wC (.int 0))))) (wRet (wC (.bl true))) wNext)
  (wRet (wIf (wB (wOp wEq (wVar 4) (wC (.str "all")))) (wOp wNe (wVar 2) (wLst wNil)) (wCB wAny (wCons (wLcL 6 (wVar 2) wYes (wOp wInI (wVar 6) (wVar 4))) wNil)))))))
theorem vc_l_splits : ∀ ds μ Pd R, sp_l_splits ds μ Pd R → W_l_splits (fun _ C fs μ' => R C fs μ') { nx := fun _ μ' => Pd .non μ', rt := Pd } (startD 7 ds) μ := by
  intro ds μ Pd R h
  obtain ⟨sg, ps, f, n, rfl, hk, hn1, hn2, k⟩ := h
  have e : W_l_splits = wSeq _ (wSeq _ T_l_splits) := rfl
  rw [e]
  unfold kindD
  walk_at "hd"
  simp only [wLcL]
  walk_at "hd"
  have l60 : 1000 < 2 ^ 60 := by decide +kernel
  refine ⟨n, rfl, by omega, fun L j μ1 hL0 _ e1 hj hlen => ?_⟩
  have hL := hL0 hn1
  refine ⟨natD L, hj, ?_⟩
  have hl : L.length ≤ 1000 := by
    have := asc_len hL.1 (b := n + 1) fun p hp => Nat.lt_succ_of_le (pr_le hn1 ((hL.2 p).mp hp).2)
    have no0 : L.length ≤ n := by
      cases L with
      | nil => exact Nat.zero_le n
      | cons a L =>
        have h1 := asc_from1 hL.1 (b := n + 1) fun p hp => Nat.lt_succ_of_le (pr_le hn1 ((hL.2 p).mp hp).2)
        have := ((hL.2 a).mp (List.mem_cons_self ..)).1.1
        omega
    omega
  refine lc_nats (ownP sg) (fun p => .int (p : Int)) hl (fun μ' e2 => e2.lst hj) (fun p hp μ' Q e2 q => ?_) (fun p hp μ' Q hkp e2 q => ?_) fun μ' e2 hl2 => ?_
  · walk_at "hd"
    have q1 := q μ' (Ext.refl μ')
    unfold ownP at q1
    cases c : decide (0 < sg) with
    | true =>
      rw [c, Bool.true_or] at q1
      exact q1
    | false =>
      rw [c, Bool.false_or] at q1
      simp only []
      have e : decide ((2 : Int) < (p : Int)) = decide (2 < p) := by
        by_cases z : 2 < p
        · rw [decide_eq_true z, decide_eq_true (by omega)]
        · rw [decide_eq_false z, decide_eq_false (by omega)]
      rw [e]
      exact q1
  · walk_at "hd"
    exact q μ' (Ext.refl μ')
  · exact rest_l_splits hk hL hn1 hl hl2 fun b μ'' e3 hb => k b μ'' ((e1.trans e2).trans e3) hb

/-! kinds for looks by hand -/
def prB (p : Nat) : Bool := decide (2 ≤ p) && (List.range p).all fun d => decide (d < 2) || p % d != 0
theorem prB_iff {p : Nat} : prB p = true ↔ IsPr p := by
  unfold prB
  rw [Bool.and_eq_true, decide_eq_true_eq]
  constructor
  · exact fun ⟨h1, h2⟩ => pr_of h1 h2
  · intro h
    refine ⟨h.1, List.all_eq_true.mpr fun d hd => ?_⟩
    have dl := List.mem_range.mp hd
    rw [Bool.or_eq_true, decide_eq_true_eq, bne_iff_ne]
    by_cases z : d < 2
    · exact .inl z
    · refine .inr fun m => ?_
      rcases h.2 d (Nat.dvd_of_mod_eq_zero m) with y | y <;> omega
def stepsB (sg : Int) (n : Nat) : List Nat := ((List.range (n + 1)).filter fun p => (n % p == 0) && ((decide (sg = 1) || decide (2 < p)) && prB p)) ++ (if sg = -1 ∧ n % 4 = 0 then [4] else [])
theorem mem_stepsB {sg : Int} {n p : Nat} (hn : 1 ≤ n) : p ∈ stepsB sg n ↔ Step sg n p := by
  unfold stepsB Step
  rw [List.mem_append, List.mem_filter, List.mem_range, Bool.and_eq_true, Bool.and_eq_true, Bool.or_eq_true, decide_eq_true_eq, decide_eq_true_eq, beq_iff_eq, prB_iff]
  constructor
  · rintro (⟨_, h1, h2, h3⟩ | h)
    · exact .inl ⟨h3, Nat.dvd_of_mod_eq_zero h1, h2⟩
    · split at h
      · rename_i c
        exact .inr ⟨c.1, List.mem_singleton.mp h, c.2⟩
      · cases h
  · rintro (⟨h1, h2, h3⟩ | ⟨h1, rfl, h2⟩)
    · have := Nat.le_of_dvd hn h2
      exact .inl ⟨by omega, Nat.mod_eq_zero_of_dvd h2, h3, h1⟩
    · rw [if_pos ⟨h1, h2⟩]
      exact .inr (List.mem_singleton.mpr rfl)
def noWholeB (ls : List Look) (p : Nat) : Bool := (wholeL ls).all fun m => m % p != 0
theorem noWholeB_iff {ls : List Look} {p : Nat} : noWholeB ls p = true ↔ NoWhole ls p := by
  unfold noWholeB
  rw [List.all_eq_true, noWhole_iff]
  constructor
  · intro h m hm hd
    have := h m hm
    rw [bne_iff_ne] at this
    exact this (Nat.mod_eq_zero_of_dvd hd)
  · intro h m hm
    rw [bne_iff_ne]
    exact fun z => h m hm (Nat.dvd_of_mod_eq_zero z)
def fitB (sg : Int) (ls : List Look) : Bool := (trueL ls).all fun n => (stepsB sg n).any fun p => noWholeB ls p
theorem fitB_iff {sg : Int} {ls : List Look} (ok : LooksOk ls) : fitB sg ls = true ↔ FitS sg ls := by
  unfold fitB FitS
  rw [List.all_eq_true]
  constructor
  · intro h n hn
    obtain ⟨p, h1, h2⟩ := List.any_eq_true.mp (h n (mem_true.mpr hn))
    exact ⟨p, (mem_stepsB (ok.n1 _ hn).1).mp h1, noWholeB_iff.mp h2⟩
  · intro h n hn
    have hn' := mem_true.mp hn
    obtain ⟨p, h1, h2⟩ := h n hn'
    exact List.any_eq_true.mpr ⟨p, (mem_stepsB (ok.n1 _ hn').1).mpr h1, noWholeB_iff.mpr h2⟩
def okB (ls : List Look) : Bool := decide (ls.length ≤ 20) && ls.all fun l => decide (1 ≤ l.1) && decide (l.1 ≤ 1000)
theorem okB_ok {ls : List Look} (h : okB ls = true) : LooksOk ls := by
  unfold okB at h
  rw [Bool.and_eq_true, decide_eq_true_eq] at h
  refine ⟨h.1, fun l hl => ?_⟩
  have := List.all_eq_true.mp h.2 l hl
  rw [Bool.and_eq_true, decide_eq_true_eq, decide_eq_true_eq] at this
  exact this
theorem noFitB {ls : List Look} (ok : LooksOk ls) : (!fitB 1 ls && !fitB (-1) ls) = true ↔ NoFit ls := by
  rw [Bool.and_eq_true, Bool.not_eq_true', Bool.not_eq_true']
  constructor
  · rintro ⟨h1, h2⟩ sg (rfl | rfl) hf
    · rw [(fitB_iff ok).mpr hf] at h1
      cases h1
    · rw [(fitB_iff ok).mpr hf] at h2
      cases h2
  · intro h
    refine ⟨?_, ?_⟩
    · cases c : fitB 1 ls with
      | false => rfl
      | true => exact absurd ((fitB_iff ok).mp c) (h 1 (.inl rfl))
    · cases c : fitB (-1) ls with
      | false => rfl
      | true => exact absurd ((fitB_iff ok).mp c) (h (-1) (.inr rfl))
theorem wseq_in {a b : WS} {R : XD} {E : EndsD} {δ : En} {μ : Sto} (h : a R { E with nx := fun δ' μ' => b R E δ' μ' } δ μ) : wSeq a b R E δ μ := h
/-- what is told for looks -/
def KF (ls : List Look) (d : D) : Prop := (NoFit ls ∧ d = .non) ∨ (¬ NoFit ls ∧ ∃ sg ps f, d = kindD sg (some ps) f ∧ KindFor ls sg ps f ∧ IsKind sg (some ps) f ∧ FitsK sg (some ps) f ls)
theorem KF.one {ls : List Look} {d d' : D} (h : KF ls d) (g : KF ls d') : d = d' := by
  rcases h with ⟨h1, rfl⟩ | ⟨h1, sg, ps, f, rfl, h2, _⟩
  · rcases g with ⟨_, rfl⟩ | ⟨g1, _⟩
    · rfl
    · exact absurd h1 g1
  · rcases g with ⟨g1, _⟩ | ⟨_, sg', ps', f', rfl, g2, _⟩
    · exact absurd g1 h1
    · obtain ⟨rfl, rfl, rfl⟩ := h2.one g2
      rfl
theorem kf_call {ls : List Look} {μ : Sto} {P : D → Sto → Prop} {R : Addr → List (Str × D) → Sto → Prop} (ok : LooksOk ls) (k : ∀ d μ', Ext μ μ' → KF ls d → P d μ') : sp_kind_for [looksD ls] μ P R :=
  ⟨ls, rfl, ok, fun no μ' e => k _ μ' e (.inl ⟨no, rfl⟩), fun yes sg ps f μ' e a b c => k _ μ' e (.inr ⟨yes, sg, ps, f, rfl, a, b, c⟩)⟩
theorem lookA {ls : List Look} {i : Nat} (hi : i < ls.length) : (ls.map lookD).getD i .non = .tup [.int ((ls.getD i (0, true)).1 : Int), .bl (ls.getD i (0, true)).2] := by
  rw [List.getD_eq_getElem?_getD, List.getElem?_map, List.getD_eq_getElem?_getD, List.getElem?_eq_getElem hi]
  rfl
theorem lookN {ls : List Look} (ok : LooksOk ls) {i : Nat} (hi : i < ls.length) : 1 ≤ (ls.getD i (0, true)).1 ∧ (ls.getD i (0, true)).1 ≤ 1000 := by
  rw [List.getD_eq_getElem?_getD, List.getElem?_eq_getElem hi]
  exact ok.n1 _ (List.getElem_mem hi)
theorem lookF {ls : List Look} {sg : Int} {ps : Option (List Nat)} {f : Bool} (h : FitsK sg ps f ls) {i : Nat} (hi : i < ls.length) : (ls.getD i (0, true)).2 = true ↔ SplK sg ps f (ls.getD i (0, true)).1 := by
  rw [List.getD_eq_getElem?_getD, List.getElem?_eq_getElem hi]
  exact h _ _ (List.getElem_mem hi)
/-- by a kind that fits all looks are so -/
theorem all_looks {ls : List Look} {sg : Int} {ps : Option (List Nat)} {f : Bool} {μ : Sto} {R : XD} {P : D → Sto → Prop} {d0 d1 x4 x5 : Option D} (ok : LooksOk ls) (ik : IsKind sg ps f) (hf : FitsK sg ps f ls) (k : ∀ μ', Ext μ μ' → P (.bl true) μ') :
    wLcLT [4, 5] (wVar 2) wYes (wOp wEq (wCall sp_l_splits (wCons (wVar 3) (wCons (wVar 4) wNil))) (wVar 5)) R [d0, d1, some (looksD ls), some (kindD sg ps f), x4, x5] μ (fun d μ1 => HD.wAll [d] μ1 P) := by
  have few := ok.few
  simp only [wLcLT]
  walk_at "hd"
  refine ⟨ls.map lookD, rfl, ?_⟩
  rw [List.length_map]
  refine lcT_says (fun i => [.int ((ls.getD i (0, true)).1 : Int), .bl (ls.getD i (0, true)).2]) (fun _ => True) (by omega) (fun μ2 e => rfl) (fun i hi => ⟨lookA hi, rfl⟩) (fun i μ2 W hi e qk => ?_) fun bs μ2 e3 hb hs hl => ?_
  · have n1 := lookN ok hi
    have hfi := lookF hf hi
    simp only [puts]
    walk_at "hd"
    refine ⟨sg, ps, f, _, rfl, ik, n1.1, n1.2, fun b μ3 e3 sb => ?_⟩
    refine qk _ _ e3 ?_
    unfold SaysB at sb ⊢
    rw [decide_eq_true_eq]
    refine ⟨fun _ => trivial, fun _ => ?_⟩
    rw [Bool.eq_iff_iff]
    exact sb.trans hfi.symm
  · simp only [HD.wAll]
    refine ⟨bs, hl, ?_⟩
    rw [(all_says hs).mpr fun _ _ => trivial]
    exact k μ2 e3
def FAR : List (List Look) := [[(1, true)], [(4, false), (8, true)], [(997, true), (997, false)], [(6, true), (2, false), (3, false)]]
theorem far_ok : (FAR.all fun ls => okB ls && (!fitB 1 ls && !fitB (-1) ls)) = true := by decide +kernel
theorem far_facts {ls : List Look} (h : ls ∈ FAR) : LooksOk ls ∧ NoFit ls := by
  have a := List.all_eq_true.mp far_ok ls h
  rw [Bool.and_eq_true] at a
  have ok := okB_ok a.1
  exact ⟨ok, (noFitB ok).mp a.2⟩
def SOM5 : List (List Look) := [[], [(1, false)], [(997, true)], [(994, true), (7, false), (2, false)], [(4, true), (2, false)]]
def SOM3 : List (List Look) := [List.replicate 20 (2, true), [(1000, false)], (List.range 20).map fun m => (2 + m, true)]
def SOM1 : List Look := (List.range 20).map fun m => (1 + m, false)
def SOM : List (List Look) := SOM5 ++ SOM3 ++ [SOM1]
theorem som_ok : (SOM.all fun ls => okB ls && (fitB 1 ls || fitB (-1) ls)) = true := by decide +kernel
theorem som_facts {ls : List Look} (h : ls ∈ SOM) : LooksOk ls ∧ ¬ NoFit ls := by
  have a := List.all_eq_true.mp som_ok ls h
  rw [Bool.and_eq_true, Bool.or_eq_true] at a
  have ok := okB_ok a.1
  refine ⟨ok, fun z => ?_⟩
  rcases a.2 with b | b
  · exact z 1 (.inl rfl) ((fitB_iff ok).mp b)
  · exact z (-1) (.inr rfl) ((fitB_iff ok).mp b)
abbrev envH (x0 x1 x2 x3 x4 x5 : Option D) : En := [x0, x1, x2, x3, x4, x5]
theorem step_1 {rst : WS} {R : XD} {E : EndsD} {μ : Sto} {x0 x1 x2 x3 x4 x5 : Option D} (k : ∀ μ' j, Ext μ μ' → lstAt μ' j = some (FAR.map looksD) → rst R E (envH (some (.ref j)) x1 x2 x3 x4 x5) μ') : wSeq (wAsg (wLst (wCons (wTup (wCons (wTup (wCons (wC (.int 1)) (wCons (wC (.bl true)) wNil))) wNil)) (wCons (wTup (wCons (wTup (wCons (wC (.int 4)) (wCons (wC (.bl false)) wNil))) (wCons (wTup (wCons (wC (.int 8)) (wCons (wC (.bl true)) wNil))) wNil))) (wCons (wTup (wCons (wTup (wCons (wC (.int 997)) (wCons (wC (.bl true)) wNil))) (wCons (wTup (wCons (wC (.int 997)) (wCons (wC (.bl false)) wNil))) wNil))) (wCons (wTup (wCons (wTup (wCons (wC (.int 6)) (wCons (wC (.bl true)) wNil))) (wCons (wTup (wCons (wC (.int 2)) (wCons (wC (.bl false)) wNil))) (wCons (wTup (wCons (wC (.int 3)) (wCons (wC (.bl false)) wNil))) wNil)))) wNil))))) (wgName 0)) rst R E (envH x0 x1 x2 x3 x4 x5) μ := by
  refine wseq_in ?_
  walk_at "hd"
  refine ⟨by decide, by decide, by decide, by decide, by decide, by decide, by decide, by decide, by decide, by decide, by decide, by decide, by decide, ?_⟩
  exact k _ _ (Ext.app _ _) (lst_new _ _)
theorem step_2 {rst : WS} {j : Nat} {R : XD} {E : EndsD} {μ : Sto} {x0 x1 x2 x3 x4 x5 : Option D} (h : lstAt μ j = some (FAR.map looksD)) (k : ∀ μ', Ext μ μ' → rst R E (envH (some (.ref j)) x1 x2 x3 x4 x5) μ') : wSeq (wIfS (wB (wOp wNe (wLcL 2 (wVar 0) wYes (wCall sp_kind_for (wCons (wVar 2) wNil))) (wOp wMul (wLst (wCons (wC .non) wNil)) (wC (.int 4))))) (wRet (wC (.bl false))) wNext) rst R E (envH (some (.ref j)) x1 x2 x3 x4 x5) μ := by
  refine wseq_in ?_
  walk_at "hd"
  unfold wLcL
  refine ⟨FAR.map looksD, h, ?_⟩
  rw [List.length_map]
  refine lc_ext (fun _ => true) (fun _ => .non) (by decide) (fun μ' e => e.lst h) (fun i μ' Q hi e q => q μ' (Ext.refl _)) (fun i μ' Q hi _ e q => ?_) fun μ1 e1 hl1 => ?_
  · obtain ⟨ls, hin, hls⟩ : ∃ ls, ls ∈ FAR ∧ (FAR.map looksD).getD i .non = looksD ls := by
      refine ⟨FAR[i], List.getElem_mem hi, ?_⟩
      rw [List.getD_eq_getElem?_getD, List.getElem?_map, List.getElem?_eq_getElem hi]
      rfl
    rw [hls]
    obtain ⟨ok, nf⟩ := far_facts hin
    walk_at "hd"
    refine kf_call ok fun d μ2 e2 hd => ?_
    rw [hd.one (.inl ⟨nf, rfl⟩)]
    exact q μ2 e2
  · have hl2 : lstAt μ1 μ.length = some [.non, .non, .non, .non] := hl1
    have sh : SeqAt.shaped (.list [.none, .none, .none, .none]) = true := by decide +kernel
    refine ⟨by decide, _, lst_new _ _, by decide, by decide, ?_⟩
    refine ⟨.list [.none, .none, .none, .none], .list [.none, .none, .none, .none], .ref (((Ext.app _ _).trans (Ext.app _ _)).lst hl2) (.cons .non (.cons .non (.cons .non (.cons .non .nil)))), .ref (lst_new _ _) (.cons .non (.cons .non (.cons .non (.cons .non .nil)))), sh, sh, ?_⟩
    rw [same_eqv sh]
    exact k _ (e1.trans ((Ext.app _ _).trans (Ext.app _ _)))
theorem step_3 {rst : WS} {R : XD} {E : EndsD} {μ : Sto} {x0 x1 x2 x3 x4 x5 : Option D} (k : ∀ μ' j, Ext μ μ' → lstAt μ' j = some (SOM5.map looksD) → rst R E (envH x0 (some (.ref j)) x2 x3 x4 x5) μ') : wSeq (wAsg (wLst (wCons (wTup wNil) (wCons (wTup (wCons (wTup (wCons (wC (.int 1)) (wCons (wC (.bl false)) wNil))) wNil)) (wCons (wTup (wCons (wTup (wCons (wC (.int 997)) (wCons (wC (.bl true)) wNil))) wNil)) (wCons (wTup (wCons (wTup (wCons (wC (.int 994)) (wCons (wC (.bl true)) wNil))) (wCons (wTup (wCons (wC (.int 7)) (wCons (wC (.bl false)) wNil))) (wCons (wTup (wCons (wC (.int 2)) (wCons (wC (.bl false)) wNil))) wNil)))) (wCons (wTup (wCons (wTup (wCons (wC (.int 4)) (wCons (wC (.bl true)) wNil))) (wCons (wTup (wCons (wC (.int 2)) (wCons (wC (.bl false)) wNil))) wNil))) wNil)))))) (wgName 1)) rst R E (envH x0 x1 x2 x3 x4 x5) μ := by
  refine wseq_in ?_
  walk_at "hd"
  refine ⟨by decide, by decide, by decide, by decide, by decide, by decide, by decide, by decide, by decide, by decide, by decide, by decide, by decide, ?_⟩
  exact k _ _ (Ext.app _ _) (lst_new _ _)
theorem step_4 {rst : WS} {j : Nat} {R : XD} {E : EndsD} {μ : Sto} {x0 x1 x2 x3 x4 x5 : Option D} (h : lstAt μ j = some (SOM5.map looksD)) (k : ∀ μ' j, Ext μ μ' → lstAt μ' j = some ((SOM5 ++ SOM3).map looksD) → rst R E (envH x0 (some (.ref j)) x2 x3 x4 x5) μ') : wSeq (wAsg (wOp wAdd (wVar 1) (wLst (wCons (wOp wMulT (wTup (wCons (wTup (wCons (wC (.int 2)) (wCons (wC (.bl true)) wNil))) wNil)) (wC (.int 20))) (wCons (wTup (wCons (wTup (wCons (wC (.int 1000)) (wCons (wC (.bl false)) wNil))) wNil)) (wCons (wCB wTupOf (wCons (wLcR2 4 (wCons (wC (.int 2)) (wCons (wC (.int 22)) wNil)) wYes (wTup (wCons (wVar 4) (wCons (wC (.bl true)) wNil)))) wNil)) wNil))))) (wgName 1)) rst R E (envH x0 (some (.ref j)) x2 x3 x4 x5) μ := by
  refine wseq_in ?_
  walk_at "hd"
  unfold wMulT
  refine ⟨by decide, by decide, by simp, by decide, by decide, by decide, by decide, by decide, ?_⟩
  unfold wLcR2
  walk_at "hd"
  refine ⟨⟨r62 (by decide), r62 (by decide)⟩, ?_⟩
  refine lc_ext (fun _ => true) (fun m => lookD (2 + m, true)) (by decide) (fun _ _ => trivial) (fun m μ' Q hm e q => q _ (Ext.refl _)) (fun m μ' Q hm _ e q => ?_) fun μ1 e1 hl => ?_
  · walk_at "hd"
    refine ⟨by decide, ?_⟩
    exact q _ (Ext.refl _)
  · simp only [itemsOf]
    refine ⟨_, hl, by decide, _, _, (e1.trans (Ext.app _ _)).lst h, lst_new _ _, by decide, ?_⟩
    exact k _ _ (e1.trans ((Ext.app _ _).trans (Ext.app _ _))) (lst_new _ _)
theorem step_5 {rst : WS} {j : Nat} {R : XD} {E : EndsD} {μ : Sto} {x0 x1 x2 x3 x4 x5 : Option D} (h : lstAt μ j = some ((SOM5 ++ SOM3).map looksD)) (k : ∀ μ' j, lstAt μ' j = some (SOM.map looksD) → rst R E (envH x0 (some (.ref j)) x2 x3 x4 x5) μ') : wSeq (wDrop (wApp (wVar 1) (wCB wTupOf (wCons (wLcR2 4 (wCons (wC (.int 1)) (wCons (wC (.int 21)) wNil)) wYes (wTup (wCons (wVar 4) (wCons (wC (.bl false)) wNil)))) wNil)))) rst R E (envH x0 (some (.ref j)) x2 x3 x4 x5) μ := by
  refine wseq_in ?_
  walk_at "hd"
  unfold wApp
  refine ⟨⟨_, h⟩, ?_⟩
  walk_at "hd"
  unfold wLcR2
  walk_at "hd"
  refine ⟨⟨r62 (by decide), r62 (by decide)⟩, ?_⟩
  refine lc_ext (fun _ => true) (fun m => lookD (1 + m, false)) (by decide) (fun _ _ => trivial) (fun m μ' Q hm e q => q _ (Ext.refl _)) (fun m μ' Q hm _ e q => ?_) fun μ1 e1 hl => ?_
  · walk_at "hd"
    refine ⟨by decide, ?_⟩
    exact q _ (Ext.refl _)
  · simp only [itemsOf]
    refine ⟨_, hl, ?_⟩
    simp only [e1.lst h]
    refine ⟨by decide, ?_⟩
    exact k _ _ (lst_set (e1.lst h))
theorem step_6 {rst : WS} {j : Nat} {R : XD} {E : EndsD} {μ : Sto} {x0 x1 x2 x3 x4 x5 : Option D} (h : lstAt μ j = some (SOM.map looksD)) (k : ∀ μ' x2 x3 x4 x5, Ext μ μ' → rst R E (envH x0 (some (.ref j)) x2 x3 x4 x5) μ') : wSeq (wForL (wVar 1) (wgName 2) (wSeq (wAsg (wCall sp_kind_for (wCons (wVar 2) wNil)) (wgName 3))
  (wIfS (wOr (wNot (wTruth (wCall sp_l_is_kind (wCons (wVar 3) wNil)))) (wNot (wTruth (wCB wAll (wCons (wLcLT [4, 5] (wVar 2) wYes (wOp wEq (wCall sp_l_splits (wCons (wVar 3) (wCons (wVar 4) wNil))) (wVar 5))) wNil))))) (wRet (wC (.bl false))) wNext))) rst R E (envH x0 (some (.ref j)) x2 x3 x4 x5) μ := by
  refine wseq_in ?_
  unfold wForL
  walk_at "hd"
  refine ⟨SOM.map looksD, fun n δ' μ' => ∃ (x2 x3 x4 x5 : Option D), δ' = envH x0 (some (.ref j)) x2 x3 x4 x5 ∧ Ext μ μ', ?_, ?_, ?_, ?_⟩
  · exact ⟨_, _, _, _, rfl, Ext.refl _⟩
  · rintro n δ' μ' _ ⟨_, _, _, _, rfl, e⟩
    exact e.lst h
  · rintro n x δ' μ' hx ⟨_, _, _, _, rfl, e⟩
    obtain ⟨ls, hin, rfl⟩ := List.mem_map.mp (List.mem_of_getElem? hx)
    obtain ⟨ok, yes⟩ := som_facts hin
    walk_at "hd"
    refine kf_call ok fun d μ2 e2 hd => ?_
    rcases hd with ⟨z, _⟩ | ⟨_, sg, ps, f, rfl, _, ik, hf⟩
    · exact absurd z yes
    · try simp only []
      refine ⟨sg, ps, f, rfl, ik, fun μ3 e3 => ?_⟩
      try simp only [Bool.not_true]
      refine all_looks ok ik hf fun μ4 e4 => ?_
      exact ⟨_, _, _, _, rfl, e.trans (e2.trans (e3.trans e4))⟩
  · rintro δ' μ' ⟨_, _, _, _, rfl, e⟩
    exact k _ _ _ _ _ e
theorem last_facts : LooksOk [(4, true), (2, false)] ∧ ¬ FitS 1 [(4, true), (2, false)] ∧ FitS (-1) [(4, true), (2, false)] := by
  have ok : LooksOk [(4, true), (2, false)] := okB_ok (by decide +kernel)
  refine ⟨ok, fun z => ?_, (fitB_iff ok).mp (by decide +kernel)⟩
  have := (fitB_iff ok).mpr z
  revert this
  decide +kernel
theorem step_7 {R : XD} {E : EndsD} {μ : Sto} {x0 x1 x2 x3 x4 x5 : Option D} (k : ∀ μ', E.rt (.bl true) μ') : (wRet (wOp wEq (wTwoT (wCall sp_kind_for (wCons (wTup (wCons (wTup (wCons (wC (.int 4)) (wCons (wC (.bl true)) wNil))) (wCons (wTup (wCons (wC (.int 2)) (wCons (wC (.bl false)) wNil))) wNil))) wNil))) (wTup (wCons (wNeg (wC (.int 1))) (wCons (wC (.bl true)) wNil))))) R E (envH x0 x1 x2 x3 x4 x5) μ := by
  obtain ⟨ok, no, yes⟩ := last_facts
  walk_at "hd"
  unfold wTwoT
  walk_at "hd"
  refine ⟨by decide, by decide, by decide, ?_⟩
  refine kf_call (ls := [(4, true), (2, false)]) ok fun d μ1 e1 hd => ?_
  rcases hd with ⟨z, _⟩ | ⟨_, sg, ps, f, rfl, hK, _, _⟩
  · exact absurd yes (z (-1) (.inr rfl))
  obtain ⟨hs, h1, L, asc, mem, rfl, rfl⟩ := hK
  have s1 : sg = -1 := hs.resolve_left fun z => no (h1.mp z)
  subst s1
  have four : [(4, true), (2, false)] = [((4 : Nat), true), (2, false)] := rfl
  have m4 : (4 : Nat) ∈ L := (mem 4).mpr ⟨4, mem_true.mpr (by decide), .inr ⟨rfl, rfl, rfl⟩, fun m hm hd => by
    have : m = 2 := by simpa using hm
    subst this
    exact absurd hd (by decide)⟩
  rw [List.contains_iff_mem.mpr m4]
  have sh : SeqAt.shaped (.tuple [.int (-1), .bool true]) = true := by decide +kernel
  refine ⟨rfl, _, _, _, rfl, by decide, .tuple [.int (-1), .bool true], .tuple [.int (-1), .bool true], .tup (.cons (.int _) (.cons (.bl _) .nil)), .tup (.cons (.int _) (.cons (.bl _) .nil)), sh, sh, ?_⟩
  rw [same_eqv sh]
  exact k _
def sp_l_by_hand : SpD := fun ds μ P _ => ds = [] ∧ ∀ μ', P (.bl true) μ'
theorem len_l_by_hand : ∀ ds μ Pd R, sp_l_by_hand ds μ Pd R → ds.length = 0 := fun ds μ Pd R ⟨e, _⟩ => by rw [e] <;> rfl
def W_l_by_hand : WS :=
  (wSeq (wAsg (wLst (wCons (wTup (wCons (wTup (wCons (wC (.int 1)) (wCons (wC (.bl true)) wNil))) wNil)) (wCons (wTup (wCons (wTup (wCons (wC (.int 4)) (wCons (wC (.bl false)) wNil))) (wCons (wTup (wCons (wC (.int 8)) (wCons (wC (.bl true)) wNil))) wNil))) (wCons (wTup (wCons (wTup (wCons (wC (.int 997)) (wCons (wC (.bl true)) wNil))) (wCons (wTup (wCons (wC (.int 997)) (wCons (wC (.bl false)) wNil))) wNil))) (wCons (wTup (wCons (wTup (wCons (wC (.int 6)) (wCons (wC (.bl true)) wNil))) (wCons (wTup (wCons (wC (.int 2)) (wCons (wC (.bl false)) wNil))) (wCons (wTup (wCons (wC (.int 3)) (wCons (wC (.bl false)) wNil))) wNil)))) wNil))))) (wgName 0))
  (wSeq (wIfS (wB (wOp wNe (wLcL 2 (wVar 0) wYes (wCall sp_kind_for (wCons (wVar 2) wNil))) (wOp wMul (wLst (wCons (wC .non) wNil)) (wC (.int 4))))) (wRet (wC (.bl false))) wNext)
  (wSeq (wAsg (wLst (wCons (wTup wNil) (wCons (wTup (wCons (wTup (wCons (wC (.int 1)) (wCons (wC (.bl false)) wNil))) wNil)) (wCons (wTup (wCons (wTup (wCons (wC (.int 997)) (wCons (wC (.bl true)) wNil))) wNil)) (wCons (wTup (wCons (wTup (wCons (wC (.int 994)) (wCons (wC (.bl true)) wNil))) (wCons (wTup (wCons (wC (.int 7)) (wCons (wC (.bl false)) wNil))) (wCons (wTup (wCons (wC (.int 2)) (wCons (wC (.bl false)) wNil))) wNil)))) (wCons (wTup (wCons (wTup (wCons (wC (.int 4)) (wCons (wC (.bl true)) wNil))) (wCons (wTup (wCons (wC (.int 2)) (wCons (wC (.bl false)) wNil))) wNil))) wNil)))))) (wgName 1))
  (wSeq (wAsg (wOp wAdd (wVar 1) (wLst (wCons (wOp wMulT (wTup (wCons (wTup (wCons (wC (.int 2)) (wCons (wC (.bl true)) wNil))) wNil)) (wC (.int 20))) (wCons (wTup (wCons (wTup (wCons (wC (.int 1000)) (wCons (wC (.bl false)) wNil))) wNil)) (wCons (wCB wTupOf (wCons (wLcR2 4 (wCons (wC (.int 2)) (wCons (wC (.int 22)) wNil)) wYes (wTup (wCons (wVar 4) (wCons (wC (.bl true)) wNil)))) wNil)) wNil))))) (wgName 1))
  (wSeq (wDrop (wApp (wVar 1) (wCB wTupOf (wCons (wLcR2 4 (wCons (wC (.int 1)) (wCons (wC (.int 21)) wNil)) wYes (wTup (wCons (wVar 4) (wCons (wC (.bl false)) wNil)))) wNil))))
  (wSeq (wForL (wVar 1) (wgName 2) (wSeq (wAsg (wCall sp_kind_for (wCons (wVar 2) wNil)) (wgName 3))
  (wIfS (wOr (wNot (wTruth (wCall sp_l_is_kind (wCons (wVar 3) wNil)))) (wNot (wTruth (wCB wAll (wCons (wLcLT [4, 5] (wVar 2) wYes (wOp wEq (wCall sp_l_splits (wCons (wVar 3) (wCons (wVar 4) wNil))) (wVar 5))) wNil))))) (wRet (wC (.bl false))) wNext)))
  (wRet (wOp wEq (wTwoT (wCall sp_kind_for (wCons (wTup (wCons (wTup (wCons (wC (.int 4)) (wCons (wC (.bl true)) wNil))) (wCons (wTup (wCons (wC (.int 2)) (wCons (wC (.bl false)) wNil))) wNil))) wNil))) (wTup (wCons (wNeg (wC (.int 1))) (wCons (wC (.bl true)) wNil)))))))))))
theorem vc_l_by_hand : ∀ ds μ Pd R, sp_l_by_hand ds μ Pd R → W_l_by_hand (fun _ C fs μ' => R C fs μ') { nx := fun _ μ' => Pd .non μ', rt := Pd } (startD 6 ds) μ := by
  intro ds μ Pd R h
  obtain ⟨rfl, k⟩ := h
  unfold W_l_by_hand
  rw [show startD 6 [] = [none, none, none, none, none, none] from rfl]
  refine step_1 (x0 := none) (x1 := none) (x2 := none) (x3 := none) (x4 := none) (x5 := none) fun μ1 j1 e1 h1 => ?_
  refine step_2 (x0 := none) h1 fun μ2 e2 => ?_
  refine step_3 fun μ3 j3 e3 h3 => ?_
  refine step_4 (x1 := none) h3 fun μ4 j4 e4 h4 => ?_
  refine step_5 (x1 := none) h4 fun μ5 j5 h5 => ?_
  refine step_6 (x1 := none) h5 fun μ6 x2 x3 x4 x5 e6 => ?_
  exact step_7 fun μ7 => k μ7

/-! a draw, the other way -/
def sp_l_tap : SpD := fun ds μ P _ => ∃ (j : Nat) (top B : Int), ds = [.ref j, .int top] ∧ Jar μ j B ∧ B ≤ 1000000 ∧ 0 < top ∧ top < 1073741824 ∧ ∀ (r : Int) μ', 0 ≤ r → r < top → Grow j μ μ' → Jar μ' j (B + 1) → P (.int r) μ'
theorem len_l_tap : ∀ ds μ Pd R, sp_l_tap ds μ Pd R → ds.length = 2 := fun ds μ Pd R ⟨j, top, B, e, _⟩ => by rw [e] <;> rfl
def W_l_tap : WS :=
  (wSeq (wAsg (wOp wAdd (wOp wIx (wVar 0) (wC (.int 2))) (wC (.int 1))) (wgSub (wVar 0) (wC (.int 2))))
  (wSeq (wAsg (wOp wMod (wCB wInt (wCons (wOp wAdd (wOp wAdd (wOp wMul (wOp wIx (wVar 0) (wC (.int 1))) (wC (.int 47513))) (wOp wMul (wC (.int 16007)) (wOp wIx (wVar 0) (wC (.int 2))))) (wC (.int 17))) wNil)) (wC (.int 2147483249))) (wgSub (wVar 0) (wC (.int 1))))
  (wSeq (wIfS (wB (wOp wGt (wOp wIx (wVar 0) (wC (.int 0))) (wC (.int 0)))) (wSeq (wAsg (wCB wDivmod (wCons (wCB wInt (wCons (wOp wIx (wVar 0) (wC (.int 0))) wNil)) (wCons (wVar 1) wNil))) (wgTup 2 (wgCons (wgSub (wVar 0) (wC (.int 0))) (wgCons (wgName 3) wgEnd))))
  (wRet (wVar 3))) wNext)
  (wSeq (wAsg (wOp wMod (wCB wInt (wCons (wOp wAdd (wOp wMul (wOp wIx (wVar 0) (wC (.int 1))) (wOp wAdd (wOp wIx (wVar 0) (wC (.int 1))) (wOp wMul (wC (.int 9)) (wOp wIx (wVar 0) (wC (.int 2)))))) (wC (.int 9001))) wNil)) (wC (.int 2147483179))) (wgName 2))
  (wRet (wOp wMod (wCB wInt (wCons (wOp wDiv (wVar 2) (wC (.int 1024))) wNil)) (wVar 1)))))))
theorem vc_l_tap : ∀ ds μ Pd R, sp_l_tap ds μ Pd R → W_l_tap (fun _ C fs μ' => R C fs μ') { nx := fun _ μ' => Pd .non μ', rt := Pd } (startD 4 ds) μ := by
  intro ds μ Pd R h
  obtain ⟨j, top, B, rfl, ⟨a, m, c, hj, ha, hm, hm2, hc, hcB⟩, hB, ht, ht2, k⟩ := h
  unfold W_l_tap
  walk_at "hd"
  simp only [hj]
  walk_at "hd"
  have s1 := lst_set (ys := [.int a, .int m, .int (c + 1)]) hj
  simp only [s1]
  walk_at "hd"
  have nn : 0 < top := ht
  obtain ⟨m2, hm2'⟩ : ∃ m2 : Int, (m * 47513 + 16007 * (c + 1) + 17) % 2147483249 = m2 := ⟨_, rfl⟩
  have m20 : 0 ≤ m2 := by rw [← hm2']; exact Int.emod_nonneg _ (by decide)
  have m21 : m2 < 2147483249 := by rw [← hm2']; exact Int.emod_lt_of_pos _ (by decide)
  refine ⟨mulS (by constructor <;> omega) (by constructor <;> omega), mulS (by constructor <;> omega) (by constructor <;> omega), by decide, ?_⟩
  rw [hm2']
  have s2 := lst_set (ys := [.int a, .int m2, .int (c + 1)]) s1
  simp only [s2]
  walk_at "hd"
  cases hz : decide (0 < a) with
  | true =>
    have ha' : 0 < a := of_decide_eq_true hz
    simp only []
    refine ⟨⟨ht, ht2⟩, ?_⟩
    have s3 := lst_set (ys := [.int (a / top), .int m2, .int (c + 1)]) s2
    refine k (a % top) _ (Int.emod_nonneg _ (by omega)) (Int.emod_lt_of_pos _ ht) (((grow_set _ _ _).trans (grow_set _ _ _)).trans (grow_set _ _ _)) ⟨a / top, m2, c + 1, s3, Int.ediv_nonneg ha (by omega), m20, by omega, by omega, by omega⟩
  | false =>
    simp only []
    have l3 : (3000000000 : Int) < 2 ^ 1000 := by decide +kernel
    refine ⟨mulS (by constructor <;> omega) (by constructor <;> omega), mulS (by constructor <;> omega) (by constructor <;> omega), by decide, ⟨by decide, by decide⟩, ht, k _ _ (Int.emod_nonneg _ (by omega)) (Int.emod_lt_of_pos _ ht) ((grow_set _ _ _).trans (grow_set _ _ _)) ⟨a, m2, c + 1, s2, ha, m20, by omega, by omega, by omega⟩⟩

/-! one of some things -/
def sp_l_of : SpD := fun ds μ P _ => ∃ (j i : Nat) (B : Int) (xs : List D), ds = [.ref j, .ref i] ∧ Jar μ j B ∧ B ≤ 1000000 ∧ lstAt μ i = some xs ∧ i ≠ j ∧ xs ≠ [] ∧ xs.length < 1000 ∧ ∀ (d : D) μ', d ∈ xs → Grow j μ μ' → Jar μ' j (B + 1) → P d μ'
theorem len_l_of : ∀ ds μ Pd R, sp_l_of ds μ Pd R → ds.length = 2 := fun ds μ Pd R ⟨j, i, B, xs, e, _⟩ => by rw [e] <;> rfl
def W_l_of : WS :=
  (wRet (wOp wIx (wVar 1) (wCall sp_l_tap (wCons (wVar 0) (wCons (wCB wLen (wCons (wVar 1) wNil)) wNil)))))
theorem vc_l_of : ∀ ds μ Pd R, sp_l_of ds μ Pd R → W_l_of (fun _ C fs μ' => R C fs μ') { nx := fun _ μ' => Pd .non μ', rt := Pd } (startD 2 ds) μ := by
  intro ds μ Pd R h
  obtain ⟨j, i, B, xs, rfl, hj, hB, hi, hne, hxs, hlen, k⟩ := h
  unfold W_l_of
  walk_at "hd"
  simp only [hi]
  walk_at "hd"
  have hl0 : 0 < xs.length := by
    cases xs with
    | nil => exact absurd rfl hxs
    | cons => exact Nat.succ_pos _
  refine ⟨xs.length, rfl, j, (xs.length : Int), B, rfl, hj, hB, by omega, by omega, fun r μ' h0 h1 g jr => ?_⟩
  obtain ⟨n, rfl⟩ := Int.eq_ofNat_of_zero_le h0
  have hn : n < xs.length := by omega
  have e : xs[n]? = some xs[n] := List.getElem?_eq_getElem hn
  have e2 : atI xs ((n : Nat) : Int) = some xs[n] := atI_nat (j := n) e
  simp only [g.lst hne hi, e2]
  exact k _ _ (List.getElem_mem hn) g jr

/-! looks, drawn -/
def Q4 : List Nat := [2, 3, 5, 7]
def smoothB (n : Nat) : Bool := (List.range (n + 1)).all fun q => decide (q < 2) || (decide (n % q ≠ 0) || (decide (q % 2 = 0) || (decide (q % 3 = 0) || (decide (q % 5 = 0) || decide (q % 7 = 0)))))
theorem smooth_of {n : Nat} (n1 : 1 ≤ n) (h : smoothB n = true) : Smooth Q4 n := fun q hq hd => by
  have le := Nat.le_of_dvd n1 hd
  have a := List.all_eq_true.mp h q (List.mem_range.mpr (by omega))
  simp only [Bool.or_eq_true, decide_eq_true_eq] at a
  have q2 := hq.1
  have two : ∀ p, 2 ≤ p → p ∈ Q4 → q % p = 0 → q ∈ Q4 := fun p hp hm z => by
    rcases hq.2 p (Nat.dvd_of_mod_eq_zero z) with y | y
    · omega
    · exact y ▸ hm
  rcases a with a | a | a | a | a | a
  · omega
  · exact absurd (Nat.mod_eq_zero_of_dvd hd) a
  · exact two 2 (by decide) (by decide) a
  · exact two 3 (by decide) (by decide) a
  · exact two 5 (by decide) (by decide) a
  · exact two 7 (by decide) (by decide) a
def POOL : List Nat := [1, 2, 3, 4, 5, 6, 7, 8, 9, 10, 12, 14, 15, 18, 20, 21, 28, 30, 35, 42, 60, 84, 105, 210, 420, 1000]
theorem pool_ok : (POOL.all fun n => decide (1 ≤ n) && (decide (n ≤ 1000) && smoothB n)) = true := by decide +kernel
theorem pool_has {n : Nat} (h : n ∈ POOL) : 1 ≤ n ∧ n ≤ 1000 ∧ Smooth Q4 n := by
  have a := List.all_eq_true.mp pool_ok n h
  simp only [Bool.and_eq_true, decide_eq_true_eq] at a
  exact ⟨a.1, a.2.1, smooth_of a.1 a.2.2⟩
theorem good4 : GoodPrimes Q4 := ⟨by decide, fun p hp => by
  have : p = 2 ∨ p = 3 ∨ p = 5 ∨ p = 7 := by simpa [Q4] using hp
  rcases this with rfl | rfl | rfl | rfl <;> exact ⟨pr_of (by decide) (by decide +kernel), by decide⟩, by decide⟩
def sp_l_some_looks : SpD := fun ds μ P _ => ∃ (j : Nat) (B : Int) (sg : Int) (ps : Option (List Nat)) (f : Bool) (m : Nat), ds = [.ref j, kindD sg ps f, .int (m : Int)] ∧ Jar μ j B ∧ B ≤ 800000 ∧ IsKind sg ps f ∧ m ≤ 19 ∧
  ∀ ls μ', LooksOk ls → (∀ l, l ∈ ls → Smooth Q4 l.1) → Grow j μ μ' → Jar μ' j (B + 50) → P (looksD ls) μ'
theorem len_l_some_looks : ∀ ds μ Pd R, sp_l_some_looks ds μ Pd R → ds.length = 3 := fun ds μ Pd R ⟨i, _, _, _, _, _, e, _⟩ => by rw [e] <;> rfl
def W_l_some_looks : WS :=
  (wSeq (wAsg (wLst wNil) (wgName 3))
  (wSeq (wForR1 (wCons (wCall sp_l_tap (wCons (wVar 0) (wCons (wOp wAdd (wVar 2) (wC (.int 1))) wNil))) wNil) (wgName 4) (wSeq (wAsg (wLst (wCons (wC (.int 1)) (wCons (wC (.int 2)) (wCons (wC (.int 3)) (wCons (wC (.int 4)) (wCons (wC (.int 5)) (wCons (wC (.int 6)) (wCons (wC (.int 7)) (wCons (wC (.int 8)) (wCons (wC (.int 9)) (wCons (wC (.int 10)) (wCons (wC (.int 12)) (wCons (wC (.int 14)) (wCons (wC (.int 15)) (wCons (wC (.int 18)) (wCons (wC (.int 20)) (wCons (wC (.int 21)) (wCons (wC (.int 28)) (wCons (wC (.int 30)) (wCons (wC (.int 35)) (wCons (wC (.int 42)) (wCons (wC (.int 60)) (wCons (wC (.int 84)) (wCons (wC (.int 105)) (wCons (wC (.int 210)) (wCons (wC (.int 420)) (wCons (wC (.int 1000)) wNil))))))))))))))))))))))))))) (wgName 5))
  (wSeq (wAsg (wCall sp_l_of (wCons (wVar 0) (wCons (wVar 5) wNil))) (wgName 6))
  (wSeq (wAsg (wCall sp_l_splits (wCons (wVar 1) (wCons (wVar 6) wNil))) (wgName 7))
  (wDrop (wApp (wVar 3) (wTup (wCons (wVar 6) (wCons (wIf (wB (wOp wGt (wCall sp_l_tap (wCons (wVar 0) (wCons (wC (.int 9)) wNil))) (wC (.int 0)))) (wVar 7) (wNotV (wVar 7))) wNil)))))))))
  (wRet (wCB wTupOf (wCons (wVar 3) wNil)))))
theorem vc_l_some_looks : ∀ ds μ Pd R, sp_l_some_looks ds μ Pd R → W_l_some_looks (fun _ C fs μ' => R C fs μ') { nx := fun _ μ' => Pd .non μ', rt := Pd } (startD 8 ds) μ := by
  intro ds μ Pd R h
  obtain ⟨j, B, sg, ps, f, m, rfl, hj, hB, hk, hm, k⟩ := h
  unfold W_l_some_looks
  walk_at "hd"
  refine ⟨by decide, ?_⟩
  unfold wForR1 turnsR
  walk_at "hd"
  have jl := hj.lt
  refine ⟨j, (m : Int) + 1, B, rfl, hj.app _, by omega, by omega, by omega, fun r μ1 r0 r1 g1 j1 => ?_⟩
  try simp only []
  have nF : μ.length ≠ j := Nat.ne_of_gt jl
  have g1' : Grow j μ μ1 := ((Grow.refl j μ).app _).trans g1
  have F1 : lstAt μ1 μ.length = some (([] : List Look).map lookD) := g1.lst nF (lst_new _ _)
  refine ⟨r62 (by omega), fun i δ' μ' => ∃ (x4 x5 x6 x7 : Option D) (ls : List Look), δ' = [some (.ref j), some (kindD sg ps f), some (.int (m : Int)), some (.ref μ.length), x4, x5, x6, x7] ∧ lstAt μ' μ.length = some (ls.map lookD) ∧ ls.length = i ∧ (∀ l, l ∈ ls → 1 ≤ l.1 ∧ l.1 ≤ 1000 ∧ Smooth Q4 l.1) ∧ Grow j μ μ' ∧ Jar μ' j (B + 1 + 2 * (i : Int)),
    ⟨_, _, _, _, [], rfl, F1, rfl, fun l hl => absurd hl List.not_mem_nil, g1', j1.mono (by omega)⟩, ?_, ?_⟩
  · rintro i δ' μ2 hi ⟨x4, x5, x6, x7, ls, rfl, hF, hl, hls, g2, j2⟩
    have i19 : i < 20 := by omega
    walk_at "hd"
    refine ⟨by decide, j, μ2.length, _, _, rfl, j2.app _, by omega, lst_new _ _, Nat.ne_of_gt j2.lt, by simp, by simp, fun d1 μ3 hd1 g3 j3 => ?_⟩
    obtain ⟨n, rfl, hn⟩ : ∃ n : Nat, d1 = .int (n : Int) ∧ n ∈ POOL := by
      have : d1 ∈ natD POOL := hd1
      unfold natD at this
      obtain ⟨n, hn, e⟩ := List.mem_map.mp this
      exact ⟨n, e.symm, hn⟩
    obtain ⟨n1, n2, n3⟩ := pool_has hn
    try simp only []
    refine ⟨sg, ps, f, n, rfl, hk, n1, n2, fun b μ4 e4 _ => ?_⟩
    try simp only []
    have g24 : Grow j μ2 μ4 := (((Grow.refl j μ2).app _).trans g3).ext e4
    have hF4 := g24.lst nF hF
    simp only [wApp]
    walk_at "hd"
    refine ⟨⟨_, hF4⟩, j, 9, _, rfl, j3.ext e4, by omega, by decide, by decide, fun r μ5 r0' r9 g5 j5 => ?_⟩
    have hF5 := g5.lst nF hF4
    have fin : ∀ t : Bool, (2 ≤ 1000 ∧ match lstAt μ5 μ.length with
      | some xs => xs.length ≤ 1000 ∧ ∃ (x4 x5 x6 x7 : Option D) (ls : List Look), [some (D.ref j), some (kindD sg ps f), some (D.int (m : Int)), some (D.ref μ.length), some (D.int (0 + (i : Int))), some (D.ref μ2.length), some (D.int (n : Int)), some (D.bl b)] = [some (.ref j), some (kindD sg ps f), some (.int (m : Int)), some (.ref μ.length), x4, x5, x6, x7] ∧ lstAt (List.set μ5 μ.length (O.lst (xs ++ [D.tup [.int (n : Int), .bl t]]))) μ.length = some (ls.map lookD) ∧ ls.length = i + 1 ∧ (∀ l, l ∈ ls → 1 ≤ l.1 ∧ l.1 ≤ 1000 ∧ Smooth Q4 l.1) ∧ Grow j μ (List.set μ5 μ.length (O.lst (xs ++ [D.tup [.int (n : Int), .bl t]]))) ∧ Jar (List.set μ5 μ.length (O.lst (xs ++ [D.tup [.int (n : Int), .bl t]]))) j (B + 1 + 2 * ((i + 1 : Nat) : Int))
      | none => False) := fun t => by
      simp only [hF5]
      refine ⟨by decide, by rw [List.length_map]; omega, _, _, _, _, ls ++ [(n, t)], rfl, by rw [lst_set hF5, List.map_append]; rfl, by rw [List.length_append, hl]; rfl, fun l h => ?_, ?_, ?_⟩
      · rcases List.mem_append.mp h with h | h
        · exact hls l h
        · rw [List.mem_singleton.mp h]
          exact ⟨n1, n2, n3⟩
      · exact ((g2.trans g24).trans g5).set (Nat.le_refl _) _
      · exact (j5.mono (by omega)).set nF _
    try simp only []
    cases c : decide ((0 : Int) < r) with
    | true =>
      simp only []
      exact fin b
    | false =>
      simp only []
      exact fin (!b)
  · rintro δ' μ2 ⟨x4, x5, x6, x7, ls, rfl, hF, hl, hls, g2, j2⟩
    walk_at "hd"
    refine ⟨_, hF, k ls _ ⟨by omega, fun l h => ⟨(hls l h).1, (hls l h).2.1⟩⟩ (fun l h => (hls l h).2.2) g2 (j2.mono (by omega))⟩

/-! a kind, drawn -/
theorem pool_pr : ∀ p, p ∈ [2, 3, 5, 7, 11, 997] → IsPr p := fun p hp => by
  simp only [List.mem_cons, List.not_mem_nil, or_false] at hp
  rcases hp with rfl | rfl | rfl | rfl | rfl | rfl <;> exact pr_of (by decide) (by decide +kernel)
def T_l_some_kind : WS :=
  (wSeq (wAsg (wCB wTupOf (wCons (wLcL 4 (wVar 2) (wB (wOp wEq (wCall sp_l_tap (wCons (wVar 0) (wCons (wC (.int 3)) wNil))) (wC (.int 0)))) (wVar 4)) wNil)) (wgName 3))
  (wRet (wTup (wCons (wVar 1) (wCons (wVar 3) (wCons (wAndV (wOp wLt (wVar 1) (wC (.int 0))) (wOp wEq (wCall sp_l_tap (wCons (wVar 0) (wCons (wC (.int 2)) wNil))) (wC (.int 0)))) wNil))))))
def sp_l_some_kind : SpD := fun ds μ P _ => ∃ (j : Nat) (B : Int), ds = [.ref j] ∧ Jar μ j B ∧ B ≤ 900000 ∧ ∀ (sg : Int) (ps : Option (List Nat)) (f : Bool) μ', IsKind sg ps f → Grow j μ μ' → Jar μ' j (B + 9) → P (kindD sg ps f) μ'
theorem len_l_some_kind : ∀ ds μ Pd R, sp_l_some_kind ds μ Pd R → ds.length = 1 := fun ds μ Pd R ⟨j, B, e, _⟩ => by rw [e] <;> rfl
theorem rest_l_some_kind {j i : Nat} {B sg : Int} {l : List Nat} {μ : Sto} {R : XD} {E : EndsD} (hj : Jar μ j B) (hB : B ≤ 900010) (hi : lstAt μ i = some (natD l)) (hij : i ≠ j) (hl : l.length ≤ 6) (asc : l.Pairwise (· < ·)) (pr : ∀ p ∈ l, IsPr p ∧ p ≤ 997) (hs : sg = 1 ∨ sg = -1) (h2 : sg = -1 → 2 ∉ l)
    (k : ∀ (ps : Option (List Nat)) (f : Bool) μ', IsKind sg ps f → Grow j μ μ' → Jar μ' j (B + 7) → E.rt (kindD sg ps f) μ') : T_l_some_kind R E [some (.ref j), some (.int sg), some (.ref i), none, none] μ := by
  unfold T_l_some_kind
  walk_at "hd"
  simp only [wLcL]
  walk_at "hd"
  refine ⟨natD l, hi, ?_⟩
  have ne : μ.length ≠ j := Nat.ne_of_gt hj.lt
  unfold lcAll
  rw [natD_len]
  refine ⟨fun m acc μ' => Grow j μ μ' ∧ Jar μ' j (B + m) ∧ ∃ s : List Nat, acc = natD s ∧ s.Sublist (l.take m), ⟨(Grow.refl j μ).app _, (hj.app _).mono (by omega), [], rfl, List.nil_sublist _⟩, ?_, ?_⟩
  · rintro m acc μ' hm hc ⟨g, jr, s, rfl, sl⟩
    refine ⟨g.lst hij hi, ?_⟩
    unfold lcTurn
    walk_at "hd"
    refine ⟨j, 3, _, rfl, jr, by omega, by decide, by decide, fun r μ2 r0 r3 g2 j2 => ?_⟩
    simp only []
    have hc2 := g2.2 _ _ ne hc
    have tk : l.take (m + 1) = l.take m ++ [l[m]] := List.take_succ_eq_append_getElem hm
    have sle := sl.length_le
    rw [List.length_take] at sle
    cases cr : decide (r = 0) with
    | true =>
      simp only []
      have eg : (natD l).getD m .non = .int ((l[m] : Nat) : Int) := by
        unfold natD
        rw [List.getD_eq_getElem?_getD, List.getElem?_map, List.getElem?_eq_getElem hm]
        rfl
      rw [eg]
      refine ⟨⟨hc2, by rw [natD_len]; omega⟩, ?_, ?_, s ++ [l[m]], (natD_app _ _).symm, ?_⟩
      · exact (g.trans g2).set (Nat.le_refl _) _
      · exact (j2.mono (by omega)).set ne _
      · rw [tk]
        exact sl.append (List.Sublist.refl _)
    | false =>
      simp only []
      refine ⟨hc2, g.trans g2, j2.mono (by omega), s, rfl, ?_⟩
      rw [tk]
      exact sl.trans (List.sublist_append_left _ _)
  · rintro acc μ' hc ⟨g, jr, s, rfl, sl⟩
    rw [List.take_length] at sl
    refine ⟨g.lst hij hi, ?_⟩
    refine ⟨natD s, lstAt_of hc, ?_⟩
    have good : GoodPrimes s := ⟨asc.sublist sl, fun p hp => pr p (sl.mem hp), by have := sl.length_le; omega⟩
    have no2 : sg = -1 → 2 ∉ s := fun z y => h2 z (sl.mem y)
    rcases hs with rfl | rfl
    · simp only [show decide ((1 : Int) < 0) = false from rfl]
      exact ⟨by decide, k (some s) false μ' ⟨.inl rfl, fun _ => rfl, good, no2⟩ g (jr.mono (by omega))⟩
    · simp only [show decide ((-1 : Int) < 0) = true from rfl]
      refine ⟨j, 2, _, rfl, jr, by omega, by decide, by decide, fun r μ2 r0 r2 g2 j2 => ?_⟩
      exact ⟨by decide, k (some s) _ μ2 ⟨.inr rfl, fun z => by omega, good, no2⟩ (g.trans g2) (j2.mono (by omega))⟩
def W_l_some_kind : WS :=
  (wSeq (wAsg (wCall sp_l_of (wCons (wVar 0) (wCons (wLst (wCons (wC (.int 1)) (wCons (wNeg (wC (.int 1))) wNil))) wNil))) (wgName 1))
  (wSeq (wIfS (wB (wOp wEq (wCall sp_l_tap (wCons (wVar 0) (wCons (wC (.int 6)) wNil))) (wC (.int 0)))) (wRet (wTup (wCons (wVar 1) (wCons (wC (.str "all")) (wCons (wC (.bl false)) wNil))))) wNext)
  (wSeq (wAsg (wIf (wB (wOp wGt (wVar 1) (wC (.int 0)))) (wLst (wCons (wC (.int 2)) (wCons (wC (.int 3)) (wCons (wC (.int 5)) (wCons (wC (.int 7)) (wCons (wC (.int 11)) (wCons (wC (.int 997)) wNil))))))) (wLst (wCons (wC (.int 3)) (wCons (wC (.int 5)) (wCons (wC (.int 7)) (wCons (wC (.int 11)) (wCons (wC (.int 997)) wNil))))))) (wgName 2))
  (wSeq (wAsg (wCB wTupOf (wCons (wLcL 4 (wVar 2) (wB (wOp wEq (wCall sp_l_tap (wCons (wVar 0) (wCons (wC (.int 3)) wNil))) (wC (.int 0)))) (wVar 4)) wNil)) (wgName 3))
  (wRet (wTup (wCons (wVar 1) (wCons (wVar 3) (wCons (wAndV (wOp wLt (wVar 1) (wC (.int 0))) (wOp wEq (wCall sp_l_tap (wCons (wVar 0) (wCons (wC (.int 2)) wNil))) (wC (.int 0)))) wNil)))))))))
theorem vc_l_some_kind : ∀ ds μ Pd R, sp_l_some_kind ds μ Pd R → W_l_some_kind (fun _ C fs μ' => R C fs μ') { nx := fun _ μ' => Pd .non μ', rt := Pd } (startD 5 ds) μ := by
  intro ds μ Pd R h
  obtain ⟨j, B, rfl, hj, hB, k⟩ := h
  have e : W_l_some_kind = wSeq _ (wSeq _ (wSeq _ T_l_some_kind)) := rfl
  rw [e]
  walk_at "hd"
  refine ⟨by decide, j, μ.length, B, _, rfl, hj.app _, by omega, lst_new _ _, Nat.ne_of_gt hj.lt, by simp, by simp, fun d μ1 hd g1 j1 => ?_⟩
  have g1' : Grow j μ μ1 := ((Grow.refl j μ).app _).trans g1
  have hs : ∃ sg : Int, d = .int sg ∧ (sg = 1 ∨ sg = -1) := by
    simp only [List.mem_cons, List.not_mem_nil, or_false] at hd
    rcases hd with e | e
    · exact ⟨1, e, .inl rfl⟩
    · exact ⟨-1, e, .inr rfl⟩
  obtain ⟨sg, rfl, hs⟩ := hs
  simp only []
  refine ⟨j, 6, _, rfl, j1, by omega, by decide, by decide, fun r μ2 r0 r6 g2 j2 => ?_⟩
  simp only []
  have g2' := g1'.trans g2
  cases cr : decide (r = 0) with
  | true =>
    simp only []
    exact ⟨by decide, k sg none false μ2 ⟨hs, fun _ => rfl, rfl⟩ g2' (j2.mono (by omega))⟩
  | false =>
    simp only []
    have go : ∀ l : List Nat, l.length ≤ 6 → l.Pairwise (· < ·) → (∀ p ∈ l, IsPr p ∧ p ≤ 997) → (sg = -1 → 2 ∉ l) → T_l_some_kind (fun _ C fs μ' => R C fs μ') { nx := fun _ μ' => Pd .non μ', rt := Pd } [some (.ref j), some (.int sg), some (.ref μ2.length), none, none] (μ2 ++ [.lst (natD l)]) := fun l h1 h2 h3 h4 =>
      rest_l_some_kind (j2.app _) (by omega) (lst_new _ _) (Nat.ne_of_gt j2.lt) h1 h2 h3 hs h4 fun ps f μ3 hk g3 j3 => k sg ps f μ3 hk ((g2'.app _).trans g3) (j3.mono (by omega))
    have le : ∀ p, p ∈ [2, 3, 5, 7, 11, 997] → IsPr p ∧ p ≤ 997 := fun p hp => ⟨pool_pr p hp, by
      simp only [List.mem_cons, List.not_mem_nil, or_false] at hp
      omega⟩
    rcases hs with rfl | rfl
    · simp only [show decide ((0 : Int) < 1) = true from rfl]
      exact ⟨by decide, go [2, 3, 5, 7, 11, 997] (by decide) (by decide) le (fun z => by omega)⟩
    · simp only [show decide ((0 : Int) < -1) = false from rfl]
      exact ⟨by decide, go [3, 5, 7, 11, 997] (by decide) (by decide) (fun p hp => le p (List.mem_cons_of_mem _ hp)) (fun _ => by decide)⟩

/-! all kinds with some primes alone, or with all -/
abbrev KindT := Int × Option (List Nat) × Bool
def kD3 (K : KindT) : D := kindD K.1 K.2.1 K.2.2
def IsK (K : KindT) : Prop := IsKind K.1 K.2.1 K.2.2
def lotD (l : List Nat) : D := .tup (natD l)
theorem kind_lot {K : KindT} {l : List Nat} : kD3 K ≠ lotD l := fun h => by
  have h' : [D.int K.1, primD K.2.1, .bl K.2.2] = natD l := by
    have := h
    unfold kD3 kindD lotD at this
    injection this
  have e2 : (natD l)[2]? = some (D.bl K.2.2) := by rw [← h']; rfl
  obtain ⟨q, _, e⟩ := natD_at e2
  cases e
def KindsAt (μ : Sto) (j : Nat) (Q : List Nat) : Prop := ∃ Ks : List KindT, lstAt μ j = some (Ks.map kD3) ∧ (Ks.length ≤ 200 ∧ (Q.length ≤ 4 → Ks.length < 64)) ∧ (∀ K, K ∈ Ks → IsK K) ∧ ∀ (T : Nat → Bool) (sg : Int), (sg = 1 ∨ sg = -1) → ((sg, some (someP T sg Q), decide (sg = -1) && T 4) : KindT) ∈ Ks
def sp_l_all_kinds : SpD := fun ds μ P _ => ∃ (i : Nat) (Q : List Nat), ds = [.ref i] ∧ lstAt μ i = some (natD Q) ∧ GoodPrimes Q ∧ Q.length ≤ 5 ∧ ∀ j μ', μ.length ≤ j → Ext μ μ' → KindsAt μ' j Q → P (.ref j) μ'
theorem len_l_all_kinds : ∀ ds μ Pd R, sp_l_all_kinds ds μ Pd R → ds.length = 1 := fun ds μ Pd R ⟨i, _, e, _⟩ => by rw [e] <;> rfl
theorem good_sub {Q l : List Nat} (h : GoodPrimes Q) (s : l.Sublist Q) : GoodPrimes l := ⟨h.1.sublist s, fun p hp => h.2.1 p (s.subset hp), Nat.le_trans s.length_le h.2.2⟩
def W_l_all_kinds : WS :=
  (wSeq (wAsg (wLst (wCons (wTup (wCons (wC (.int 1)) (wCons (wC (.str "all")) (wCons (wC (.bl false)) wNil)))) (wCons (wTup (wCons (wNeg (wC (.int 1))) (wCons (wC (.str "all")) (wCons (wC (.bl false)) wNil)))) wNil))) (wgName 1))
  (wSeq (wAsg (wLst (wCons (wTup wNil) wNil)) (wgName 2))
  (wSeq (wForL (wVar 0) (wgName 3) (wAsg (wOp wAdd (wVar 2) (wLcL 4 (wVar 2) wYes (wOp wAddT (wVar 4) (wTup (wCons (wVar 3) wNil))))) (wgName 2)))
  (wSeq (wForL (wVar 2) (wgName 4) (wSeq (wDrop (wApp (wVar 1) (wTup (wCons (wC (.int 1)) (wCons (wVar 4) (wCons (wC (.bl false)) wNil))))))
  (wIfS (wB (wOp wNotInI (wC (.int 2)) (wVar 4))) (wAsg (wOp wAdd (wVar 1) (wLst (wCons (wTup (wCons (wNeg (wC (.int 1))) (wCons (wVar 4) (wCons (wC (.bl false)) wNil)))) (wCons (wTup (wCons (wNeg (wC (.int 1))) (wCons (wVar 4) (wCons (wC (.bl true)) wNil)))) wNil)))) (wgName 1)) wNext)))
  (wRet (wVar 1))))))
theorem vc_l_all_kinds : ∀ ds μ Pd R, sp_l_all_kinds ds μ Pd R → W_l_all_kinds (fun _ C fs μ' => R C fs μ') { nx := fun _ μ' => Pd .non μ', rt := Pd } (startD 5 ds) μ := by
  intro ds μ Pd R h
  obtain ⟨i, Q, rfl, hi, good, q5, k⟩ := h
  unfold W_l_all_kinds
  walk_at "hd"
  refine ⟨by decide, by decide, by decide, by decide, by decide, ?_⟩
  unfold wForL
  walk_at "hd"
  simp only [itemsOf]
  have k0 : lstAt (μ ++ [.lst [.tup [.int 1, .str "all", .bl false], .tup [.int (-1), .str "all", .bl false]]]) μ.length = some (([(1, none, false), (-1, none, false)] : List KindT).map kD3) := lst_new _ _
  refine ⟨natD Q, fun n δ' μ' => Ext (μ ++ [.lst [.tup [.int 1, .str "all", .bl false], .tup [.int (-1), .str "all", .bl false]]]) μ' ∧ ∃ (p : Nat) (y3 y4 : Option D) (Ls : List (List Nat)), δ' = [some (.ref i), some (.ref μ.length), some (.ref p), y3, y4] ∧ lstAt μ' p = some (Ls.map lotD) ∧ Ls.length = 2 ^ n ∧ (∀ l, l ∈ Ls → l.Sublist (Q.take n)) ∧ ∀ T : Nat → Bool, (Q.take n).filter T ∈ Ls,
    ⟨Ext.app _ _, _, _, _, [[]], rfl, lst_new _ _, rfl, fun l hl => by rw [List.mem_singleton.mp hl]; exact List.nil_sublist _, fun T => List.mem_singleton.mpr rfl⟩, fun n δ' μ' _ ⟨e, _⟩ => ((Ext.app _ _).trans e).lst hi, ?_, ?_⟩
  · rintro n x δ' μ' hx ⟨e, p, y3, y4, Ls, rfl, hp, hl, sub, mem⟩
    obtain ⟨q, hq, rfl⟩ := natD_at hx
    have nl : n < Q.length := (List.getElem?_eq_some_iff.mp hq).1
    have tk : Q.take (n + 1) = Q.take n ++ [q] := by rw [List.take_add_one, hq]; rfl
    have pw : 2 ^ n ≤ 2 ^ 4 := Nat.pow_le_pow_right (by decide) (by omega)
    walk_at "hd"
    simp only [wLcL]
    walk_at "hd"
    refine ⟨Ls.map lotD, hp, ?_⟩
    rw [List.length_map]
    have gd : ∀ m, m < Ls.length → (Ls.map lotD).getD m .non = lotD (Ls.getD m []) := fun m hm => by
      rw [List.getD_eq_getElem?_getD, List.getD_eq_getElem?_getD, List.getElem?_map, List.getElem?_eq_getElem hm]
      rfl
    have gm : ∀ m, m < Ls.length → Ls.getD m [] ∈ Ls := fun m hm => by
      rw [List.getD_eq_getElem?_getD, List.getElem?_eq_getElem hm]
      exact List.getElem_mem hm
    refine lc_ext (fun _ => true) (fun m => lotD (Ls.getD m [] ++ [q])) (by omega) (fun μ2 e2 => e2.lst hp) (fun m μ2 Q2 hm e2 q2 => q2 _ (Ext.refl _)) (fun m μ2 Q2 hm _ e2 q2 => ?_) fun μ2 e2 hl2 => ?_
    · have ll := (sub _ (gm m hm)).length_le
      rw [List.length_take] at ll
      walk_at "hd"
      rw [gd m hm]
      simp only [lotD, wAddT]
      refine ⟨by decide, by rw [natD_len]; simp only [List.length_cons, List.length_nil]; omega, ?_⟩
      rw [← natD_app]
      exact q2 _ (Ext.refl _)
    · have er : ((List.range Ls.length).filter fun _ => true).map (fun m => lotD (Ls.getD m [] ++ [q])) = (Ls.map fun l => l ++ [q]).map lotD := by
        rw [List.filter_eq_self.mpr fun _ _ => rfl, List.map_map]
        refine List.ext_getElem (by simp) fun m h1 h2 => ?_
        simp only [List.getElem_map, List.getElem_range, Function.comp_apply]
        rw [List.getD_eq_getElem?_getD, List.getElem?_eq_getElem (by simpa using h1)]
        rfl
      rw [er] at hl2
      simp only []
      refine ⟨_, _, e2.lst hp, hl2, by rw [List.length_map, List.length_map, List.length_map]; omega, (e.trans e2).trans (Ext.app _ _), _, _, _, Ls ++ Ls.map fun l => l ++ [q], rfl, by rw [lst_new, List.map_append], ?_, fun l hl => ?_, fun T => ?_⟩
      · rw [List.length_append, List.length_map, hl, Nat.pow_succ]
        omega
      · rw [tk]
        rcases List.mem_append.mp hl with h | h
        · exact (sub l h).trans (List.sublist_append_left _ _)
        · obtain ⟨l', h', rfl⟩ := List.mem_map.mp h
          exact (sub l' h').append (List.Sublist.refl _)
      · rw [tk, List.filter_append]
        cases c : T q with
        | true =>
          rw [List.filter_cons_of_pos (by exact c), List.filter_nil]
          exact List.mem_append_right _ (List.mem_map.mpr ⟨_, mem T, rfl⟩)
        | false =>
          rw [List.filter_cons_of_neg (by rw [c]; decide), List.filter_nil, List.append_nil]
          exact List.mem_append_left _ (mem T)
  · rintro δ' μ' ⟨e, p, y3, y4, Ls, rfl, hp, hl, sub, mem⟩
    rw [natD_len] at hl
    have tq : Q.take (natD Q).length = Q := by rw [natD_len, List.take_length]
    rw [tq] at sub mem
    have pw : 2 ^ Q.length ≤ 2 ^ 5 := Nat.pow_le_pow_right (by decide) q5
    walk_at "hd"
    have k0' := e.lst k0
    refine ⟨Ls.map lotD, fun n δ' μ2 => Ext μ μ2 ∧ ∃ (r : Nat) (y3 y4 : Option D) (Ks : List KindT), δ' = [some (.ref i), some (.ref r), some (.ref p), y3, y4] ∧ μ.length ≤ r ∧ lstAt μ2 r = some (Ks.map kD3) ∧ lstAt μ2 p = some (Ls.map lotD) ∧ Ks.length ≤ 2 + 3 * n ∧ (∀ K, K ∈ Ks → IsK K) ∧ ∀ l, l ∈ Ls.take n → ((1, some l, false) : KindT) ∈ Ks ∧ (2 ∉ l → ∀ f, ((-1, some l, f) : KindT) ∈ Ks),
      ⟨(Ext.app _ _).trans e, _, _, _, _, rfl, Nat.le_refl _, k0', hp, by decide, fun K hK => ?_, fun l hl => absurd hl List.not_mem_nil⟩, fun n δ' μ2 _ ⟨e2, r, y3, y4, Ks, _, _, _, hp2, _⟩ => hp2, ?_, ?_⟩
    · rcases List.mem_cons.mp hK with rfl | hK
      · exact ⟨.inl rfl, fun _ => rfl, rfl⟩
      · rw [List.mem_singleton.mp hK]
        exact ⟨.inr rfl, fun _ => rfl, rfl⟩
    · rintro n x δ' μ2 hx ⟨e2, r, y3, y4, Ks, rfl, hr0, hr, hp2, hk, isk, has⟩
      obtain ⟨l, hln, rfl⟩ : ∃ l, Ls[n]? = some l ∧ x = lotD l := by
        rw [List.getElem?_map] at hx
        cases c : Ls[n]? with
        | none =>
          rw [c] at hx
          cases hx
        | some l =>
          rw [c] at hx
          exact ⟨l, rfl, (Option.some.inj hx).symm⟩
      have nl : n < Ls.length := (List.getElem?_eq_some_iff.mp hln).1
      have tk : Ls.take (n + 1) = Ls.take n ++ [l] := by rw [List.take_add_one, hln]; rfl
      have gl := good_sub good (sub l (List.mem_of_getElem? hln))
      walk_at "hd"
      simp only [wApp]
      walk_at "hd"
      have ne : p ≠ r := fun z => by
        rw [z, hr] at hp2
        have q := Option.some.inj hp2
        cases Ks with
        | nil =>
          cases Ls with
          | nil => cases nl
          | cons _ _ => cases q
        | cons K Ks =>
          cases Ls with
          | nil => cases q
          | cons l' Ls => exact kind_lot (List.cons.inj q).1
      have n32 : n < 32 := by
        have : 2 ^ 5 = 32 := rfl
        omega
      have eK : Ks.map kD3 ++ [D.tup [.int 1, lotD l, .bl false]] = (Ks ++ [((1, some l, false) : KindT)]).map kD3 := by
        rw [List.map_append]
        rfl
      have e3 : Ext μ (List.set μ2 r (O.lst ((Ks ++ [((1, some l, false) : KindT)]).map kD3))) := e2.set hr0 _
      have isk1 : IsK ((1, some l, false) : KindT) := ⟨.inl rfl, fun _ => rfl, gl, fun z => absurd (show (1 : Int) = -1 from z) (by decide)⟩
      simp only [hr]
      rw [eK]
      have hr3 : lstAt (List.set μ2 r (O.lst ((Ks ++ [((1, some l, false) : KindT)]).map kD3))) r = some ((Ks ++ [((1, some l, false) : KindT)]).map kD3) := lst_set hr
      have hp3 : lstAt (List.set μ2 r (O.lst ((Ks ++ [((1, some l, false) : KindT)]).map kD3))) p = some (Ls.map lotD) := lstAt_of (by rw [cell_set_ne ne]; exact lstAt_cell hp2)
      generalize List.set μ2 r (O.lst ((Ks ++ [((1, some l, false) : KindT)]).map kD3)) = ν at *
      refine ⟨⟨_, rfl⟩, by decide, by rw [List.length_map]; omega, l.map Int.ofNat, by show some (natD l) = _; rw [natD_ints], ?_⟩
      have c2 : ((l.map Int.ofNat).contains 2) = decide (2 ∈ l) := by
        rw [List.contains_eq_mem, decide_eq_decide, List.mem_map]
        constructor
        · rintro ⟨x, hx, ex⟩
          have : x = 2 := Int.ofNat.inj ex
          rw [← this]
          exact hx
        · exact fun h => ⟨2, h, rfl⟩
      rw [c2]
      by_cases h2 : 2 ∈ l
      · rw [decide_eq_true h2]
        simp only [Bool.not_true]
        refine ⟨e3, r, _, _, Ks ++ [((1, some l, false) : KindT)], rfl, hr0, hr3, hp3, by rw [List.length_append, List.length_singleton]; omega, fun K hK => ?_, fun l' hl' => ?_⟩
        · rcases List.mem_append.mp hK with h | h
          · exact isk K h
          · rw [List.mem_singleton.mp h]
            exact isk1
        · rw [tk] at hl'
          rcases List.mem_append.mp hl' with h | h
          · obtain ⟨a1, a2⟩ := has l' h
            exact ⟨List.mem_append_left _ a1, fun n2 f => List.mem_append_left _ (a2 n2 f)⟩
          · rw [List.mem_singleton.mp h]
            exact ⟨List.mem_append_right _ (List.mem_singleton.mpr rfl), fun n2 => absurd h2 n2⟩
      · rw [decide_eq_false h2]
        simp only [Bool.not_false]
        have eK2 : (Ks ++ [((1, some l, false) : KindT)]).map kD3 ++ [D.tup [.int (-1), lotD l, .bl false], D.tup [.int (-1), lotD l, .bl true]] = (Ks ++ [((1, some l, false) : KindT)] ++ [(-1, some l, false), (-1, some l, true)]).map kD3 := by
          rw [List.map_append (l₁ := Ks ++ [((1, some l, false) : KindT)])]
          rfl
        refine ⟨by decide, by decide, by decide, _, _, (Ext.app _ _).lst hr3, lst_new _ _, by rw [List.length_map, List.length_append, List.length_singleton]; simp only [List.length_cons, List.length_nil]; omega, (e3.trans (Ext.app _ _)).trans (Ext.app _ _), _, _, _, Ks ++ [((1, some l, false) : KindT)] ++ [(-1, some l, false), (-1, some l, true)], rfl, ?_, by rw [← eK2]; exact lst_new _ _, ((Ext.app _ _).trans (Ext.app _ _)).lst hp3, by simp only [List.length_append, List.length_cons, List.length_nil]; omega, fun K hK => ?_, fun l' hl' => ?_⟩
        · have := (e3.trans (Ext.app _ [O.lst [D.tup [.int (-1), lotD l, .bl false], D.tup [.int (-1), lotD l, .bl true]]])).1
          exact this
        · rcases List.mem_append.mp hK with h | h
          · rcases List.mem_append.mp h with h | h
            · exact isk K h
            · rw [List.mem_singleton.mp h]
              exact isk1
          · have : K = (-1, some l, false) ∨ K = (-1, some l, true) := by simpa using h
            rcases this with rfl | rfl
            · exact ⟨.inr rfl, fun z => absurd (show (-1 : Int) = 1 from z) (by decide), gl, fun _ => h2⟩
            · exact ⟨.inr rfl, fun z => absurd (show (-1 : Int) = 1 from z) (by decide), gl, fun _ => h2⟩
        · rw [tk] at hl'
          rcases List.mem_append.mp hl' with h | h
          · obtain ⟨a1, a2⟩ := has l' h
            exact ⟨List.mem_append_left _ (List.mem_append_left _ a1), fun n2 f => List.mem_append_left _ (List.mem_append_left _ (a2 n2 f))⟩
          · rw [List.mem_singleton.mp h]
            refine ⟨List.mem_append_left _ (List.mem_append_right _ (List.mem_singleton.mpr rfl)), fun n2 f => List.mem_append_right _ ?_⟩
            cases f <;> simp
    · rintro δ' μ2 ⟨e2, r, y3, y4, Ks, rfl, hr0, hr, hp2, hk, isk, has⟩
      rw [List.length_map] at hk has
      rw [List.take_length] at has
      walk_at "hd"
      refine k _ _ hr0 e2 ⟨Ks, hr, ⟨by omega, fun q4 => by have p4 : 2 ^ Q.length ≤ 2 ^ 4 := Nat.pow_le_pow_right (by decide) q4; omega⟩, isk, fun T sg hs => ?_⟩
      have hm := mem fun p => T p && (decide (sg = 1) || decide (2 < p))
      obtain ⟨h1, h2⟩ := has _ hm
      rcases hs with rfl | rfl
      · exact h1
      · refine h2 (fun z => ?_) _
        have := (List.mem_filter.mp z).2
        simp at this

/-! all kinds with some primes that fit looks -/
def FitsT (K : KindT) (ls : List Look) : Prop := FitsK K.1 K.2.1 K.2.2 ls
def FitsAt (μ : Sto) (j : Nat) (ls : List Look) (Q : List Nat) : Prop := ∃ Fs : List KindT, lstAt μ j = some (Fs.map kD3) ∧ (Fs.length ≤ 200 ∧ (Q.length ≤ 4 → Fs.length < 64)) ∧ (∀ K, K ∈ Fs → IsK K ∧ FitsT K ls) ∧ ∀ (T : Nat → Bool) (sg : Int), (sg = 1 ∨ sg = -1) → FitsK sg (some (someP T sg Q)) (decide (sg = -1) && T 4) ls → ((sg, some (someP T sg Q), decide (sg = -1) && T 4) : KindT) ∈ Fs
theorem FitsAt.ext {μ μ' : Sto} {j : Nat} {ls : List Look} {Q : List Nat} (h : FitsAt μ j ls Q) (e : Ext μ μ') : FitsAt μ' j ls Q := by
  obtain ⟨Fs, h1, h2⟩ := h
  exact ⟨Fs, e.lst h1, h2⟩
def sp_l_fitting : SpD := fun ds μ P _ => ∃ (q : Nat) (ls : List Look) (Q : List Nat), ds = [looksD ls, .ref q] ∧ LooksOk ls ∧ lstAt μ q = some (natD Q) ∧ GoodPrimes Q ∧ Q.length ≤ 5 ∧ ∀ j μ', Ext μ μ' → FitsAt μ' j ls Q → P (.ref j) μ'
theorem len_l_fitting : ∀ ds μ Pd R, sp_l_fitting ds μ Pd R → ds.length = 2 := fun ds μ Pd R ⟨i, _, _, e, _⟩ => by rw [e] <;> rfl
theorem fits_iff {K : KindT} {ls : List Look} : FitsT K ls ↔ ∀ i, i < ls.length → ((ls.getD i (0, true)).2 = true ↔ SplK K.1 K.2.1 K.2.2 (ls.getD i (0, true)).1) := by
  constructor
  · intro h i hi
    refine h _ _ ?_
    rw [List.getD_eq_getElem?_getD, List.getElem?_eq_getElem hi]
    exact List.getElem_mem hi
  · intro h n b hm
    obtain ⟨i, hi, e⟩ := List.mem_iff_getElem.mp hm
    have q := h i hi
    rw [List.getD_eq_getElem?_getD, List.getElem?_eq_getElem hi] at q
    have e2 : (some ls[i]).getD (0, true) = (n, b) := e
    rw [e2] at q
    exact q
def W_l_fitting : WS :=
  (wSeq (wAsg (wLst wNil) (wgName 2))
  (wSeq (wForL (wCall sp_l_all_kinds (wCons (wVar 1) wNil)) (wgName 3) (wIfS (wTruth (wCB wAll (wCons (wLcLT [4, 5] (wVar 0) wYes (wOp wEq (wCall sp_l_splits (wCons (wVar 3) (wCons (wVar 4) wNil))) (wVar 5))) wNil))) (wDrop (wApp (wVar 2) (wVar 3))) wNext))
  (wRet (wVar 2))))
theorem vc_l_fitting : ∀ ds μ Pd R, sp_l_fitting ds μ Pd R → W_l_fitting (fun _ C fs μ' => R C fs μ') { nx := fun _ μ' => Pd .non μ', rt := Pd } (startD 6 ds) μ := by
  intro ds μ Pd R h
  obtain ⟨q, ls, Q, rfl, ok, hq, good, q5, k⟩ := h
  have few := ok.few
  unfold W_l_fitting
  walk_at "hd"
  refine ⟨by decide, ?_⟩
  unfold wForL
  walk_at "hd"
  refine ⟨q, Q, rfl, (Ext.app _ _).lst hq, good, q5, fun j μ1 hle e1 ⟨Ks, hj, ⟨kl, k64⟩, isk, cov⟩ => ?_⟩
  have hj0 : j ≠ μ.length := by
    rw [List.length_append, List.length_singleton] at hle
    omega
  have F0 : lstAt μ1 μ.length = some (([] : List KindT).map kD3) := e1.lst (lst_new _ _)
  simp only [itemsOf]
  refine ⟨Ks.map kD3, fun n δ' μ' => Ext μ μ' ∧ lstAt μ' j = some (Ks.map kD3) ∧ ∃ (y3 y4 y5 : Option D) (Fs : List KindT), δ' = [some (looksD ls), some (.ref q), some (.ref μ.length), y3, y4, y5] ∧ lstAt μ' μ.length = some (Fs.map kD3) ∧ Fs.length ≤ n ∧ ∀ K, K ∈ Fs ↔ K ∈ Ks.take n ∧ FitsT K ls,
    ⟨(Ext.app _ _).trans e1, hj, _, _, _, [], rfl, F0, Nat.le_refl _, fun K => ⟨fun h => absurd h List.not_mem_nil, fun h => absurd h.1 List.not_mem_nil⟩⟩, fun n δ' μ' _ ⟨_, h, _⟩ => h, ?_, ?_⟩
  · rintro n x δ' μ' hx ⟨e2, hj2, y3, y4, y5, Fs, rfl, hF, fl, mem⟩
    obtain ⟨K, hK, rfl⟩ : ∃ K, Ks[n]? = some K ∧ x = kD3 K := by
      rw [List.getElem?_map] at hx
      cases c : Ks[n]? with
      | none =>
        rw [c] at hx
        cases hx
      | some K =>
        rw [c] at hx
        exact ⟨K, rfl, (Option.some.inj hx).symm⟩
    have nl : n < Ks.length := (List.getElem?_eq_some_iff.mp hK).1
    have tk : Ks.take (n + 1) = Ks.take n ++ [K] := by rw [List.take_add_one, hK]; rfl
    have ik := isk K (List.mem_of_getElem? hK)
    walk_at "hd"
    simp only [wLcLT]
    walk_at "hd"
    refine ⟨ls.map lookD, rfl, ?_⟩
    rw [List.length_map]
    refine lcT_says (fun i => [.int ((ls.getD i (0, true)).1 : Int), .bl (ls.getD i (0, true)).2]) (fun i => ((ls.getD i (0, true)).2 = true ↔ SplK K.1 K.2.1 K.2.2 (ls.getD i (0, true)).1)) (by omega) (fun μ2 e => rfl) (fun i hi => ⟨?_, rfl⟩) (fun i μ2 W hi e qk => ?_) fun bs μ2 e3 hb hs hl => ?_
    · show (ls.map lookD).getD i .non = _
      rw [look_at hi, List.getD_eq_getElem?_getD, List.getElem?_eq_getElem hi]
      rfl
    · have n1 : 1 ≤ (ls.getD i (0, true)).1 ∧ (ls.getD i (0, true)).1 ≤ 1000 := by
        rw [List.getD_eq_getElem?_getD, List.getElem?_eq_getElem hi]
        exact ok.n1 _ (List.getElem_mem hi)
      simp only [puts]
      walk_at "hd"
      refine ⟨K.1, K.2.1, K.2.2, _, rfl, ik, n1.1, n1.2, fun b μ3 e3 sb => ?_⟩
      refine qk _ _ e3 ?_
      unfold SaysB at sb ⊢
      rw [decide_eq_true_eq, ← sb]
      cases b <;> cases (ls.getD i (0, true)).2 <;> simp
    · simp only [wAll]
      refine ⟨bs, hl, ?_⟩
      have al := all_says hs
      rw [hb] at al
      have al2 := al.trans (fits_iff (K := K)).symm
      cases c : bs.all id with
      | true =>
        have yes := al2.mp c
        simp only [wApp]
        walk_at "hd"
        simp only [e3.lst hF]
        refine ⟨⟨_, rfl⟩, by rw [List.length_map]; omega, (e2.trans e3).set (Nat.le_refl _) _, lstAt_of (by rw [cell_set_ne hj0]; exact lstAt_cell (e3.lst hj2)), _, _, _, Fs ++ [K], rfl, by rw [lst_set (e3.lst hF), List.map_append]; rfl, by rw [List.length_append, List.length_singleton]; omega, fun K' => ?_⟩
        rw [List.mem_append, mem K', tk, List.mem_append, List.mem_singleton]
        constructor
        · rintro (⟨h1, h2⟩ | rfl)
          · exact ⟨.inl h1, h2⟩
          · exact ⟨.inr rfl, yes⟩
        · rintro ⟨h1 | h1, h2⟩
          · exact .inl ⟨h1, h2⟩
          · exact .inr h1
      | false =>
        have no : ¬ FitsT K ls := fun z => by
          rw [al2.mpr z] at c
          cases c
        simp only []
        refine ⟨e2.trans e3, e3.lst hj2, _, _, _, Fs, rfl, e3.lst hF, by omega, fun K' => ?_⟩
        rw [mem K', tk, List.mem_append, List.mem_singleton]
        constructor
        · exact fun h => ⟨.inl h.1, h.2⟩
        · rintro ⟨h1 | rfl, h2⟩
          · exact ⟨h1, h2⟩
          · exact absurd h2 no
  · rintro δ' μ' ⟨e2, hj2, y3, y4, y5, Fs, rfl, hF, fl, mem⟩
    rw [List.length_map] at fl mem
    rw [List.take_length] at mem
    walk_at "hd"
    exact k _ _ e2 ⟨Fs, hF, ⟨by omega, fun q4 => by have := k64 q4; omega⟩, fun K hK => ⟨isk K ((mem K).mp hK).1, ((mem K).mp hK).2⟩, fun T sg hs hf => (mem _).mpr ⟨cov T sg hs, hf⟩⟩

/-! a degree is no error -/
def sp_check_degree : SpD := fun ds μ P _ => ∃ i l m : Int, ds = [.int i, .int l, .int m] ∧ l ≤ i ∧ i ≤ m ∧ P .non μ
theorem len_check_degree : ∀ ds μ Pd R, sp_check_degree ds μ Pd R → ds.length = 3 := fun ds μ Pd R ⟨i, l, m, e, _⟩ => by rw [e] <;> rfl
def W_check_degree : WS :=
  (wIfS (wNot (wTruth (wCall sp_is_between (wCons (wVar 0) (wCons (wVar 1) (wCons (wVar 2) wNil)))))) wNever wNext)
theorem vc_check_degree : ∀ ds μ Pd R, sp_check_degree ds μ Pd R → W_check_degree (fun _ C fs μ' => R C fs μ') { nx := fun _ μ' => Pd .non μ', rt := Pd } (startD 3 ds) μ := by
  intro ds μ Pd R h
  obtain ⟨i, l, m, rfl, h1, h2, k⟩ := h
  unfold W_check_degree
  walk_at "hd"
  refine ⟨i, l, m, rfl, ?_⟩
  rw [decide_eq_true h1, decide_eq_true h2]
  simp only [Bool.and_self, Bool.not_true]
  exact k

/-! primes, ascending, up to 997 -/
def sp_are_primes : SpD := fun ds μ P _ => ∃ l : List Nat, ds = [.tup (natD l)] ∧ GoodPrimes l ∧ ∀ μ', Ext μ μ' → P (.bl true) μ'
theorem len_are_primes : ∀ ds μ Pd R, sp_are_primes ds μ Pd R → ds.length = 1 := fun ds μ Pd R ⟨i, e, _⟩ => by rw [e] <;> rfl
def W_are_primes : WS :=
  (wSeq (wIfS (wNot (wTruth (wCB (wIsi "tuple") (wCons (wVar 0) (wCons (wC (.ty "tuple")) wNil))))) (wRet (wC (.bl false))) wNext)
  (wSeq (wAsg (wC (.int 1)) (wgName 1))
  (wSeq (wForL (wVar 0) (wgName 2) (wSeq (wIfS (wOr (wNot (wTruth (wCall sp_is_between (wCons (wVar 2) (wCons (wOp wAdd (wVar 1) (wC (.int 1))) (wCons (wC (.int c_MOST_PRIME)) wNil)))))) (wB (wOp wNe (wCall sp_primes_of (wCons (wVar 2) wNil)) (wLst (wCons (wVar 2) wNil))))) (wRet (wC (.bl false))) wNext)
  (wAsg (wVar 2) (wgName 1))))
  (wRet (wC (.bl true))))))
theorem vc_are_primes : ∀ ds μ Pd R, sp_are_primes ds μ Pd R → W_are_primes (fun _ C fs μ' => R C fs μ') { nx := fun _ μ' => Pd .non μ', rt := Pd } (startD 3 ds) μ := by
  intro ds μ Pd R h
  obtain ⟨l, rfl, ⟨h1, h2, h3⟩, k⟩ := h
  unfold W_are_primes
  walk_at "hd"
  refine ⟨_, _, rfl, kit_tt, ?_⟩
  simp only [Bool.not_true]
  unfold wForL
  walk_at "hd"
  refine ⟨natD l, fun i δ' μ' => Ext μ μ' ∧ ∃ (b : Nat) (x : Option D), δ' = [some (.tup (natD l)), some (.int (b : Int)), x] ∧ ∀ j p : Nat, i ≤ j → l[j]? = some p → b < p, ⟨Ext.refl μ, 1, none, rfl, fun j p _ hp => (h2 p (List.mem_of_getElem? hp)).1.1⟩, fun i δ' μ' _ _ => rfl, ?_, ?_⟩
  · rintro i z δ' μ' hi ⟨e1, b, x, rfl, hb⟩
    unfold natD at hi
    rw [List.getElem?_map] at hi
    obtain ⟨p, hp, rfl⟩ := Option.map_eq_some_iff.mp hi
    obtain ⟨pp, p997⟩ := h2 p (List.mem_of_getElem? hp)
    have bp := hb i p (Nat.le_refl i) hp
    have p2 := pp.1
    walk_at "hd"
    refine ⟨(p : Int), (b : Int) + 1, 997, rfl, ?_⟩
    rw [decide_eq_true (show (b : Int) + 1 ≤ (p : Int) by omega), decide_eq_true (show (p : Int) ≤ 997 by omega)]
    simp only [Bool.and_self, Bool.not_true]
    have l60 : 997 < 2 ^ 60 := by decide +kernel
    refine ⟨p, rfl, by omega, by omega, fun L hL => ?_⟩
    have eL := hL.eq (PrimesIs.one pp)
    subst eL
    simp only []
    refine ⟨by decide, .list [.int (p : Int)], .list [.int (p : Int)], .ref ((Ext.app _ _).lst (lst_new _ _)) (.cons (.int _) .nil), .ref (lst_new _ _) (.cons (.int _) .nil), rfl, rfl, ?_⟩
    have ev : PyData.eqv (.list [.int (p : Int)]) (.list [.int (p : Int)]) = true := same_eqv rfl
    rw [ev]
    simp only [Bool.not_true]
    refine ⟨(e1.trans (Ext.app _ _)).trans (Ext.app _ _), p, _, rfl, fun j q hj hq => ?_⟩
    obtain ⟨li, ei⟩ := List.getElem?_eq_some_iff.mp hp
    obtain ⟨lj, ej⟩ := List.getElem?_eq_some_iff.mp hq
    have := List.pairwise_iff_getElem.mp h1 i j li lj (by omega)
    omega
  · rintro δ' μ' ⟨e1, b, x, rfl, hb⟩
    exact k μ' e1

/-! a sign -/
def sp_is_sign : SpD := fun ds μ P _ => ∃ i : Int, ds = [.int i] ∧ P (.bl (decide (i = 1 ∨ i = -1))) μ
theorem len_is_sign : ∀ ds μ Pd R, sp_is_sign ds μ Pd R → ds.length = 1 := fun ds μ Pd R ⟨i, e, _⟩ => by rw [e] <;> rfl
def W_is_sign : WS :=
  (wRet (wAndV (wCall sp_is_between (wCons (wVar 0) (wCons (wNeg (wC (.int 1))) (wCons (wC (.int 1)) wNil)))) (wOp wNe (wVar 0) (wC (.int 0)))))
theorem vc_is_sign : ∀ ds μ Pd R, sp_is_sign ds μ Pd R → W_is_sign (fun _ C fs μ' => R C fs μ') { nx := fun _ μ' => Pd .non μ', rt := Pd } (startD 1 ds) μ := by
  intro ds μ Pd R h
  obtain ⟨i, rfl, k⟩ := h
  unfold W_is_sign
  walk_at "hd"
  refine ⟨i, -1, 1, rfl, ?_⟩
  by_cases c : -1 ≤ i ∧ i ≤ 1
  · rw [decide_eq_true c.1, decide_eq_true c.2]
    simp only [Bool.and_self]
    have e : (!decide (i = 0)) = decide (i = 1 ∨ i = -1) := by
      by_cases z : i = 0
      · rw [decide_eq_true z, decide_eq_false (by omega)] <;> rfl
      · rw [decide_eq_false z, decide_eq_true (by omega)] <;> rfl
    rw [e]
    exact k
  · have e : (decide (-1 ≤ i) && decide (i ≤ 1)) = false := by
      by_cases z : -1 ≤ i
      · rw [decide_eq_false (show ¬ i ≤ 1 from fun y => c ⟨z, y⟩), Bool.and_false]
      · rw [decide_eq_false z, Bool.false_and]
    rw [e]
    rw [decide_eq_false (by omega)] at k
    exact k

/-! a kind -/
theorem kit_bbK : kitB "bool" "bool" = some true := by decide +kernel
theorem kit_ssK : kitB "str" "str" = some true := by decide +kernel
theorem kit_ts : kitB "tuple" "str" = some false := by decide +kernel
def sp_is_kind : SpD := fun ds μ P _ => ∃ (sg : Int) (ps : Option (List Nat)) (f : Bool), ds = [kindD sg ps f] ∧ IsKind sg ps f ∧ ∀ μ', Ext μ μ' → P (.bl true) μ'
theorem len_is_kind : ∀ ds μ Pd R, sp_is_kind ds μ Pd R → ds.length = 1 := fun ds μ Pd R ⟨i, ps, f, e, _⟩ => by rw [e] <;> rfl
def W_is_kind : WS :=
  (wSeq (wIfS (wOr (wNot (wTruth (wCB (wIsi "tuple") (wCons (wVar 0) (wCons (wC (.ty "tuple")) wNil))))) (wB (wOp wNe (wCB wLen (wCons (wVar 0) wNil)) (wC (.int 3))))) (wRet (wC (.bl false))) wNext)
  (wSeq (wAsg (wVar 0) (wgTup 3 (wgCons (wgName 1) (wgCons (wgName 2) (wgCons (wgName 3) wgEnd)))))
  (wSeq (wIfS (wOr (wNot (wTruth (wCall sp_is_sign (wCons (wVar 1) wNil)))) (wNot (wTruth (wCB (wIsi "bool") (wCons (wVar 3) (wCons (wC (.ty "bool")) wNil)))))) (wRet (wC (.bl false))) wNext)
  (wSeq (wIfS (wAnd (wB (wOp wEq (wVar 1) (wC (.int 1)))) (wTruth (wVar 3))) (wRet (wC (.bl false))) wNext)
  (wSeq (wIfS (wTruth (wCB (wIsi "str") (wCons (wVar 2) (wCons (wC (.ty "str")) wNil)))) (wRet (wAndV (wOp wEq (wVar 2) (wC (.str "all"))) (wNotV (wVar 3)))) wNext)
  (wRet (wAndV (wCall sp_are_primes (wCons (wVar 2) wNil)) (wOrV (wOp wEq (wVar 1) (wC (.int 1))) (wOp wNotInI (wC (.int 2)) (wVar 2))))))))))
theorem vc_is_kind : ∀ ds μ Pd R, sp_is_kind ds μ Pd R → W_is_kind (fun _ C fs μ' => R C fs μ') { nx := fun _ μ' => Pd .non μ', rt := Pd } (startD 4 ds) μ := by
  intro ds μ Pd R h
  obtain ⟨sg, ps, f, rfl, ⟨h1, h2, h3⟩, k⟩ := h
  unfold W_is_kind kindD
  walk_at "hd"
  refine ⟨_, _, rfl, kit_tt, ?_⟩
  simp only [Bool.not_true]
  refine ⟨3, rfl, ?_⟩
  simp only [show decide (((3 : Nat) : Int) = 3) = true from rfl, Bool.not_true]
  refine ⟨sg, rfl, ?_⟩
  rw [decide_eq_true h1]
  simp only [Bool.not_true]
  refine ⟨_, _, rfl, kit_bbK, ?_⟩
  simp only [Bool.not_true]
  rcases h1 with rfl | rfl
  · have hf := h2 rfl
    subst hf
    simp only [decide_true]
    cases ps with
    | none =>
      simp only [primD]
      refine ⟨_, _, rfl, kit_ssK, ?_⟩
      simp only [decide_true]
      exact k μ (Ext.refl μ)
    | some l =>
      simp only [primD]
      refine ⟨_, _, rfl, kit_ts, ?_⟩
      simp only []
      exact ⟨l, rfl, h3.1, fun μ' e => k μ' e⟩
  · have hd : decide ((-1 : Int) = 1) = false := rfl
    rw [hd]
    simp only []
    cases ps with
    | none =>
      have hf : f = false := h3
      subst hf
      simp only [primD]
      refine ⟨_, _, rfl, kit_ssK, ?_⟩
      simp only [decide_true]
      exact k μ (Ext.refl μ)
    | some l =>
      simp only [primD]
      refine ⟨_, _, rfl, kit_ts, ?_⟩
      simp only []
      refine ⟨l, rfl, h3.1, fun μ' e => ?_⟩
      simp only []
      refine ⟨l.map Int.ofNat, by rw [← natD_ints] <;> rfl, ?_⟩
      have no : (l.map Int.ofNat).contains 2 = false := by
        rw [Bool.eq_false_iff]
        intro z
        rw [List.contains_iff_mem] at z
        obtain ⟨a, ha, ea⟩ := List.mem_map.mp z
        have : a = 2 := Int.ofNat.inj ea
        exact h3.2 rfl (this ▸ ha)
      rw [no]
      exact k μ' e

/-! the greatest odd divisor -/
def sp_odd_part : SpD := fun ds μ P _ => ∃ n : Nat, ds = [.int (n : Int)] ∧ 1 ≤ n ∧ n < 2 ^ 130 ∧ ∀ k m : Nat, n = 2 ^ k * (2 * m + 1) → P (.int ((2 * m + 1 : Nat) : Int)) μ
theorem len_odd_part : ∀ ds μ Pd R, sp_odd_part ds μ Pd R → ds.length = 1 := fun ds μ Pd R ⟨i, e, _⟩ => by rw [e] <;> rfl
def W_odd_part : WS :=
  (wRet (wOp wDiv (wVar 0) (wOp wBand (wVar 0) (wNeg (wVar 0)))))
theorem vc_odd_part : ∀ ds μ Pd R, sp_odd_part ds μ Pd R → W_odd_part (fun _ C fs μ' => R C fs μ') { nx := fun _ μ' => Pd .non μ', rt := Pd } (startD 1 ds) μ := by
  intro ds μ Pd R h
  obtain ⟨n, rfl, hn1, hn, kk⟩ := h
  unfold W_odd_part
  walk_at "hd"
  obtain ⟨k, m, e1, e2⟩ := band_neg (n := n) (by omega)
  rw [e2]
  have p0 : 0 < 2 ^ k := Nat.two_pow_pos k
  have pl : 2 ^ k ≤ n := by
    rw [e1]
    exact Nat.le_mul_of_pos_right _ (by omega)
  have e3 : (n : Int) / ((2 ^ k : Nat) : Int) = ((2 * m + 1 : Nat) : Int) := by
    rw [← Int.natCast_ediv]
    congr 1
    exact Nat.div_eq_of_eq_mul_right p0 e1
  rw [e3]
  refine ⟨divOk (by omega) ?_, kk k m e1⟩
  have e : ((2 ^ 8000 : Nat) : Int) = (2 : Int) ^ 8000 := by rw [Int.natCast_pow] <;> rfl
  have l : (2 : Nat) ^ 130 < 2 ^ 8000 := Nat.pow_lt_pow_right (by decide) (by decide)
  omega

/-! whether an equation splits by a kind -/
def sp_splits_by : SpD := fun ds μ P _ => ∃ (sg : Int) (ps : Option (List Nat)) (f : Bool) (n : Nat), ds = [kindD sg ps f, .int (n : Int)] ∧ IsKind sg ps f ∧ 1 ≤ n ∧ n ≤ 1000 ∧ ∀ b μ', Ext μ μ' → SaysB b (SplK sg ps f n) → P (.bl b) μ'
theorem len_splits_by : ∀ ds μ Pd R, sp_splits_by ds μ Pd R → ds.length = 2 := fun ds μ Pd R ⟨i, ps, f, n, e, _⟩ => by rw [e] <;> rfl
def W_splits_by : WS :=
  (wSeq (wIfS (wNot (wTruth (wCall sp_is_kind (wCons (wVar 0) wNil)))) wNever wNext)
  (wSeq (wDrop (wCallD sp_check_degree (dd_check_degree.drop 2) (wCons (wVar 1) (wCons (wC (.int 1)) (wCons (wC (.int c_MOST_LOOKED)) wNil)))))
  (wSeq (wAsg (wVar 0) (wgTup 3 (wgCons (wgName 2) (wgCons (wgName 3) (wgCons (wgName 4) wgEnd)))))
  (wSeq (wIfS (wB (wOp wEq (wVar 3) (wC (.str "all")))) (wRet (wIf (wB (wOp wEq (wVar 2) (wC (.int 1)))) (wOp wGt (wVar 1) (wC (.int 1))) (wOp wGt (wCall sp_odd_part (wCons (wVar 1) wNil)) (wC (.int 1))))) wNext)
  (wSeq (wIfS (wAnd (wTruth (wVar 4)) (wB (wOp wEq (wOp wMod (wVar 1) (wC (.int 4))) (wC (.int 0))))) (wRet (wC (.bl true))) wNext)
  (wRet (wCB wAny (wCons (wLcL 5 (wVar 3) wYes (wOp wEq (wOp wMod (wVar 1) (wVar 5)) (wC (.int 0)))) wNil))))))))
theorem vc_splits_by : ∀ ds μ Pd R, sp_splits_by ds μ Pd R → W_splits_by (fun _ C fs μ' => R C fs μ') { nx := fun _ μ' => Pd .non μ', rt := Pd } (startD 6 ds) μ := by
  intro ds μ Pd R h
  obtain ⟨sg, ps, f, n, rfl, hk, hn1, hn2, k⟩ := h
  unfold W_splits_by
  walk_at "hd"
  refine ⟨sg, ps, f, rfl, hk, fun μ' e => ?_⟩
  simp only [Bool.not_true]
  refine ⟨(n : Int), 1, 1000, rfl, by omega, by omega, ?_⟩
  unfold kindD
  simp only []
  refine ⟨rfl, ?_⟩
  obtain ⟨h1, h2, h3⟩ := id hk
  have l130 : 1000 < 2 ^ 130 := by decide +kernel
  cases ps with
  | none =>
    simp only [primD, decide_true]
    rcases h1 with rfl | rfl
    · simp only [decide_true]
      refine k _ μ' e ?_
      unfold SaysB SplK
      rw [decide_eq_true_iff]
      constructor
      · intro z
        exact .inl ⟨rfl, by omega⟩
      · rintro (⟨_, z⟩ | ⟨z, _⟩)
        · omega
        · omega
    · simp only [show decide ((-1 : Int) = 1) = false from rfl]
      refine ⟨n, rfl, hn1, by omega, fun kk m hm => ?_⟩
      simp only []
      refine k _ μ' e ?_
      unfold SaysB SplK
      rw [decide_eq_true_iff]
      have o := odd_pr hm
      constructor
      · intro z
        exact .inr ⟨rfl, o.mp (by omega)⟩
      · rintro (⟨z, _⟩ | ⟨_, z⟩)
        · omega
        · have := o.mpr z
          omega
  | some l =>
    obtain ⟨⟨g1, g2, g3⟩, h4⟩ := h3
    simp only [primD]
    refine ⟨.tuple (natP l), .str "all", .tup (py_nats l), .str _, (shaped_nats l).1, by decide +kernel, ?_⟩
    rw [show PyData.eqv (.tuple (natP l)) (.str "all") = false from rfl]
    simp only []
    have four : ((n : Int) % 4 = 0) ↔ n % 4 = 0 := by omega
    have any : (∀ b μ'', Ext μ μ'' → SaysB b (∃ p, p ∈ l ∧ p ∣ n) → Pd (.bl b) μ'') → (wCB wAny (wCons (wLcL 5 (wVar 3) wYes (wOp wEq (wOp wMod (wVar 1) (wVar 5)) (wC (.int 0)))) wNil)) (fun _ C fs μ' => R C fs μ') [some (.tup [.int sg, .tup (natD l), .bl f]), some (.int (n : Int)), some (.int sg), some (.tup (natD l)), some (.bl f), none] μ' Pd := fun kk => by
      walk_at "hd"
      simp only [wLcL]
      walk_at "hd"
      refine ⟨natD l, rfl, ?_⟩
      unfold lcAll
      rw [natD_len]
      refine ⟨fun j acc μ2 => acc = (l.take j).map (fun p => D.bl (decide (n % p = 0))) ∧ Ext μ' μ2, ⟨rfl, Ext.app _ _⟩, ?_, ?_⟩
      · rintro j acc μ2 hj hc ⟨rfl, e2⟩
        refine ⟨rfl, ?_⟩
        unfold lcTurn
        simp only [wYes]
        walk_at "hd"
        have eg : (natD l).getD j .non = .int ((l[j] : Nat) : Int) := by
          unfold natD
          rw [List.getD_eq_getElem?_getD, List.getElem?_map, List.getElem?_eq_getElem hj]
          rfl
        rw [eg]
        have mem := List.getElem_mem hj
        have p2 := (g2 _ mem).1.1
        simp only []
        refine ⟨by omega, ⟨hc, ?_⟩, ?_, ?_⟩
        · rw [List.length_map, List.length_take]
          omega
        · rw [List.take_succ_eq_append_getElem hj, List.map_append]
          congr 1
          have ed : decide ((n : Int) % ((l[j] : Nat) : Int) = 0) = decide (n % l[j] = 0) := by
            rw [← Int.natCast_emod]
            by_cases z : n % l[j] = 0
            · rw [z]
              rfl
            · rw [decide_eq_false z, decide_eq_false (by omega)]
          rw [ed]
          rfl
        · exact e2.set (Nat.le_refl _) _
      · rintro acc μ2 hc ⟨rfl, e2⟩
        refine ⟨rfl, ?_⟩
        unfold wAny
        refine ⟨l.map fun p => decide (n % p = 0), ?_, kk _ μ2 (e.trans e2) ?_⟩
        · rw [lstAt_of hc, List.take_length, List.map_map]
          rfl
        · unfold SaysB
          rw [List.any_map, List.any_eq_true]
          constructor
          · rintro ⟨p, hp, hz⟩
            exact ⟨p, hp, Nat.dvd_of_mod_eq_zero (by simpa using hz)⟩
          · rintro ⟨p, hp, hz⟩
            exact ⟨p, hp, by simpa using Nat.mod_eq_zero_of_dvd hz⟩
    have none4 : ¬ (f = true ∧ n % 4 = 0) → (SplK sg (some l) f n ↔ ∃ p, p ∈ l ∧ p ∣ n) := fun z => by
      unfold SplK
      exact ⟨fun y => y.resolve_left z, .inr⟩
    cases f with
    | false =>
      simp only []
      exact any fun b μ'' e2 hb => k b μ'' e2 (hb.trans (none4 fun z => by cases z.1).symm)
    | true =>
      simp only []
      refine ⟨by decide, ?_⟩
      cases c4 : decide ((n : Int) % 4 = 0) with
      | true =>
        have c4' := of_decide_eq_true c4
        exact k true μ' e ⟨fun _ => .inl ⟨rfl, four.mp c4'⟩, fun _ => rfl⟩
      | false =>
        have c4' := of_decide_eq_false c4
        exact any fun b μ'' e2 hb => k b μ'' e2 (hb.trans (none4 fun z => c4' (four.mpr z.2)).symm)

/-! three times: looks, the kind for them -/
def U_l_right : WS :=
  (wSeq (wAsg (wCall sp_kind_for (wCons (wVar 2) wNil)) (wgName 3))
  (wSeq (wIfS (wB (wOp wNe (wCB wRepr (wCons (wCallK 0 1 sp_kind_for g0_0 wNil (wCons (wVar 2) wNil)) wNil)) (wCB wRepr (wCons (wVar 3) wNil)))) (wRet (wC (.bl false))) wNext)
  (wIfS (wB (wOp wIsN (wVar 3) (wC .non))) (wIfS (wB (wOp wNe (wCall sp_l_fitting (wCons (wVar 2) (wCons (wLst (wCons (wC (.int 2)) (wCons (wC (.int 3)) (wCons (wC (.int 5)) (wCons (wC (.int 7)) wNil))))) wNil))) (wLst wNil))) (wRet (wC (.bl false))) wNext) (wSeq (wIfS (wNot (wTruth (wCall sp_l_is_kind (wCons (wVar 3) wNil)))) (wRet (wC (.bl false))) wNext)
  (wSeq (wIfS (wNot (wTruth (wCB wAll (wCons (wLcLT [4, 5] (wVar 2) wYes (wOp wEq (wCall sp_l_splits (wCons (wVar 3) (wCons (wVar 4) wNil))) (wVar 5))) wNil)))) (wRet (wC (.bl false))) wNext)
  (wIfS (wNot (wTruth (wCB wAll (wCons (wLcLT [4, 5] (wVar 2) wYes (wOp wEq (wCB wRepr (wCons (wCall sp_splits_by (wCons (wVar 3) (wCons (wVar 4) wNil))) wNil)) (wCB wRepr (wCons (wVar 5) wNil)))) wNil)))) (wRet (wC (.bl false))) wNext))))))
theorem KF.shows {ls : List Look} {d : D} (h : KF ls d) : ∃ p, (∀ μ, Py μ d p) ∧ p.showable = true ∧ p.depth ≤ 50 ∧ p.shown.length ≤ 5000 := by
  rcases h with ⟨_, rfl⟩ | ⟨_, sg, ps, f, rfl, _, ik, _⟩
  · exact ⟨.none, fun _ => .non, by decide +kernel, by decide +kernel, by decide +kernel⟩
  · have sh := show_kind ik
    exact ⟨_, fun _ => py_kind _ _ _, sh.1, sh.2.1, sh.2.2⟩
theorem step_K {rst : WS} {ls : List Look} {R : XD} {E : EndsD} {μ : Sto} {d0 d1 : D} {x3 x4 x5 : Option D} (ok : LooksOk ls) (k : ∀ d μ', Ext μ μ' → KF ls d → rst R E [some d0, some d1, some (looksD ls), some d, x4, x5] μ') : wSeq (wAsg (wCall sp_kind_for (wCons (wVar 2) wNil)) (wgName 3)) rst R E [some d0, some d1, some (looksD ls), x3, x4, x5] μ := by
  refine wseq_in ?_
  walk_at "hd"
  refine kf_call ok fun d μ1 e1 hd => ?_
  exact k d μ1 e1 hd
theorem step_R {rst : WS} {ls : List Look} {d : D} {R : XD} {E : EndsD} {μ : Sto} {d0 d1 : D} {x3 x4 x5 : Option D} (ok : LooksOk ls) (hd : KF ls d) (k : ∀ μ', Ext μ μ' → rst R E [some d0, some d1, some (looksD ls), some d, x4, x5] μ') : wSeq (wIfS (wB (wOp wNe (wCB wRepr (wCons (wCallK 0 1 sp_kind_for g0_0 wNil (wCons (wVar 2) wNil)) wNil)) (wCB wRepr (wCons (wVar 3) wNil)))) (wRet (wC (.bl false))) wNext) rst R E [some d0, some d1, some (looksD ls), some d, x4, x5] μ := by
  have l5 : 5000 ≤ sizeLine := by decide +kernel
  refine wseq_in ?_
  walk_at "hd"
  refine kf_call ok fun d' μ1 e1 hd' => ?_
  rw [hd'.one hd]
  obtain ⟨q, hp, s1, s2, s3⟩ := hd.shows
  simp only [HD.wRepr]
  refine ⟨q, hp _, s1, by omega, by omega, q, hp _, s1, by omega, by omega, ?_⟩
  simp only [decide_true, Bool.not_true]
  exact k μ1 e1
theorem py_nonempty {μ : Sto} {a : KindT} {r : List KindT} : True := trivial
theorem step_N {ls : List Look} {R : XD} {E : EndsD} {μ : Sto} {d0 d1 : D} {x3 x4 x5 : Option D} (ok : LooksOk ls) (no : NoFit ls) (k : ∀ μ', Ext μ μ' → E.nx [some d0, some d1, some (looksD ls), some .non, x4, x5] μ') : (wIfS (wB (wOp wIsN (wVar 3) (wC .non))) (wIfS (wB (wOp wNe (wCall sp_l_fitting (wCons (wVar 2) (wCons (wLst (wCons (wC (.int 2)) (wCons (wC (.int 3)) (wCons (wC (.int 5)) (wCons (wC (.int 7)) wNil))))) wNil))) (wLst wNil))) (wRet (wC (.bl false))) wNext) (wSeq (wIfS (wNot (wTruth (wCall sp_l_is_kind (wCons (wVar 3) wNil)))) (wRet (wC (.bl false))) wNext)
  (wSeq (wIfS (wNot (wTruth (wCB wAll (wCons (wLcLT [4, 5] (wVar 2) wYes (wOp wEq (wCall sp_l_splits (wCons (wVar 3) (wCons (wVar 4) wNil))) (wVar 5))) wNil)))) (wRet (wC (.bl false))) wNext)
  (wIfS (wNot (wTruth (wCB wAll (wCons (wLcLT [4, 5] (wVar 2) wYes (wOp wEq (wCB wRepr (wCons (wCall sp_splits_by (wCons (wVar 3) (wCons (wVar 4) wNil))) wNil)) (wCB wRepr (wCons (wVar 5) wNil)))) wNil)))) (wRet (wC (.bl false))) wNext)))) R E [some d0, some d1, some (looksD ls), some .non, x4, x5] μ := by
  walk_at "hd"
  have lq : lstAt (μ ++ [O.lst (natD Q4)]) μ.length = some (natD Q4) := lst_new _ _
  refine ⟨by decide, μ.length, ls, Q4, rfl, ok, lq, good4, by decide, fun r μ4 e4 hF => ?_⟩
  obtain ⟨Fs, h1, _, h2, _⟩ := hF
  have em : Fs = [] := List.eq_nil_iff_forall_not_mem.mpr fun K hK => by
    obtain ⟨ik, fk⟩ := h2 K hK
    exact no K.1 ik.1 (FitsK.fitS ik ok fk)
  subst em
  have sh0 : SeqAt.shaped (.list []) = true := by decide +kernel
  refine ⟨by decide, .list [], .list [], .ref ((Ext.app _ _).lst h1) .nil, .ref (lst_new _ _) .nil, sh0, sh0, ?_⟩
  rw [same_eqv sh0]
  exact k _ (((Ext.app _ _).trans e4).trans (Ext.app _ _))
theorem step_1k {rst : WS} {ls : List Look} {sg : Int} {l : List Nat} {f : Bool} {R : XD} {E : EndsD} {μ : Sto} {d0 d1 : D} {x3 x4 x5 : Option D} (ik : IsKind sg (some l) f) (k : ∀ μ', Ext μ μ' → rst R E [some d0, some d1, some (looksD ls), some (kindD sg (some l) f), x4, x5] μ') : wSeq (wIfS (wNot (wTruth (wCall sp_l_is_kind (wCons (wVar 3) wNil)))) (wRet (wC (.bl false))) wNext) rst R E [some d0, some d1, some (looksD ls), some (kindD sg (some l) f), x4, x5] μ := by
  refine wseq_in ?_
  walk_at "hd"
  refine ⟨sg, l, f, rfl, ik, fun μ1 e1 => ?_⟩
  try simp only [Bool.not_true]
  exact k μ1 e1
theorem step_2k {rst : WS} {ls : List Look} {sg : Int} {l : List Nat} {f : Bool} {R : XD} {E : EndsD} {μ : Sto} {d0 d1 : D} {x3 x4 x5 : Option D} (ok : LooksOk ls) (ik : IsKind sg (some l) f) (hf : FitsK sg (some l) f ls) (k : ∀ μ', Ext μ μ' → rst R E [some d0, some d1, some (looksD ls), some (kindD sg (some l) f), x4, x5] μ') : wSeq (wIfS (wNot (wTruth (wCB wAll (wCons (wLcLT [4, 5] (wVar 2) wYes (wOp wEq (wCall sp_l_splits (wCons (wVar 3) (wCons (wVar 4) wNil))) (wVar 5))) wNil)))) (wRet (wC (.bl false))) wNext) rst R E [some d0, some d1, some (looksD ls), some (kindD sg (some l) f), x4, x5] μ := by
  refine wseq_in ?_
  walk_at "hd"
  refine all_looks ok ik hf fun μ1 e1 => ?_
  try simp only [Bool.not_true]
  exact k μ1 e1
theorem step_3k {ls : List Look} {sg : Int} {l : List Nat} {f : Bool} {R : XD} {E : EndsD} {μ : Sto} {d0 d1 : D} {x3 x4 x5 : Option D} (ok : LooksOk ls) (ik : IsKind sg (some l) f) (hf : FitsK sg (some l) f ls) (k : ∀ μ', Ext μ μ' → E.nx [some d0, some d1, some (looksD ls), some (kindD sg (some l) f), x4, x5] μ') : (wIfS (wNot (wTruth (wCB wAll (wCons (wLcLT [4, 5] (wVar 2) wYes (wOp wEq (wCB wRepr (wCons (wCall sp_splits_by (wCons (wVar 3) (wCons (wVar 4) wNil))) wNil)) (wCB wRepr (wCons (wVar 5) wNil)))) wNil)))) (wRet (wC (.bl false))) wNext) R E [some d0, some d1, some (looksD ls), some (kindD sg (some l) f), x4, x5] μ := by
  have few := ok.few
  have l5 : 5000 ≤ sizeLine := by decide +kernel
  walk_at "hd"
  simp only [wLcLT]
  walk_at "hd"
  refine ⟨ls.map lookD, rfl, ?_⟩
  rw [List.length_map]
  refine lcT_says (fun i => [.int ((ls.getD i (0, true)).1 : Int), .bl (ls.getD i (0, true)).2]) (fun _ => True) (by omega) (fun μ2 e => rfl) (fun i hi => ⟨lookA hi, rfl⟩) (fun i μ2 W hi e qk => ?_) fun bs μ2 e3 hb hs hl => ?_
  · have n1 := lookN ok hi
    have hfi := lookF hf hi
    simp only [puts]
    walk_at "hd"
    refine ⟨sg, some l, f, _, rfl, ik, n1.1, n1.2, fun b μ3 e3 sb => ?_⟩
    have eb : b = (ls.getD i (0, true)).2 := by
      rw [Bool.eq_iff_iff]
      exact sb.trans hfi.symm
    subst eb
    have sh := show_bool (ls.getD i (0, true)).2
    simp only [HD.wRepr]
    refine ⟨_, .bl _, sh.1, by omega, by omega, _, .bl _, sh.1, by omega, by omega, ?_⟩
    refine qk _ _ e3 ?_
    unfold SaysB
    simp
  · simp only [HD.wAll]
    refine ⟨bs, hl, ?_⟩
    rw [(all_says hs).mpr fun _ _ => trivial]
    simp only [Bool.not_true]
    exact k μ2 e3
theorem U_ok {ls : List Look} {R : XD} {E : EndsD} {μ : Sto} {d0 d1 : D} {x3 x4 x5 : Option D} (ok : LooksOk ls) (k : ∀ d μ', Ext μ μ' → E.nx [some d0, some d1, some (looksD ls), some d, x4, x5] μ') : U_l_right R E [some d0, some d1, some (looksD ls), x3, x4, x5] μ := by
  unfold U_l_right
  refine step_K ok fun d μ1 e1 hd => ?_
  refine step_R (x3 := none) ok hd fun μ2 e2 => ?_
  rcases id hd with ⟨no, rfl⟩ | ⟨_, sg, l, f, rfl, _, ik, hf⟩
  · exact step_N (x3 := none) ok no fun μ3 e3 => k _ _ ((e1.trans e2).trans e3)
  · have e : ∀ (A : WS) (h : (wSeq (wIfS (wNot (wTruth (wCall sp_l_is_kind (wCons (wVar 3) wNil)))) (wRet (wC (.bl false))) wNext)
  (wSeq (wIfS (wNot (wTruth (wCB wAll (wCons (wLcLT [4, 5] (wVar 2) wYes (wOp wEq (wCall sp_l_splits (wCons (wVar 3) (wCons (wVar 4) wNil))) (wVar 5))) wNil)))) (wRet (wC (.bl false))) wNext)
  (wIfS (wNot (wTruth (wCB wAll (wCons (wLcLT [4, 5] (wVar 2) wYes (wOp wEq (wCB wRepr (wCons (wCall sp_splits_by (wCons (wVar 3) (wCons (wVar 4) wNil))) wNil)) (wCB wRepr (wCons (wVar 5) wNil)))) wNil)))) (wRet (wC (.bl false))) wNext))) R E [some d0, some d1, some (looksD ls), some (kindD sg (some l) f), x4, x5] μ2), (wIfS (wB (wOp wIsN (wVar 3) (wC .non))) A (wSeq (wIfS (wNot (wTruth (wCall sp_l_is_kind (wCons (wVar 3) wNil)))) (wRet (wC (.bl false))) wNext)
  (wSeq (wIfS (wNot (wTruth (wCB wAll (wCons (wLcLT [4, 5] (wVar 2) wYes (wOp wEq (wCall sp_l_splits (wCons (wVar 3) (wCons (wVar 4) wNil))) (wVar 5))) wNil)))) (wRet (wC (.bl false))) wNext)
  (wIfS (wNot (wTruth (wCB wAll (wCons (wLcLT [4, 5] (wVar 2) wYes (wOp wEq (wCB wRepr (wCons (wCall sp_splits_by (wCons (wVar 3) (wCons (wVar 4) wNil))) wNil)) (wCB wRepr (wCons (wVar 5) wNil)))) wNil)))) (wRet (wC (.bl false))) wNext)))) R E [some d0, some d1, some (looksD ls), some (kindD sg (some l) f), x4, x5] μ2 := fun A h => by
      unfold wIfS wB wOp
      walk_at "hd"
      exact h
    refine e _ ?_
    refine step_1k (x3 := none) ik fun μ3 e3 => ?_
    refine step_2k (x3 := none) ok ik hf fun μ4 e4 => ?_
    exact step_3k (x3 := none) ok ik hf fun μ5 e5 => k _ _ ((e1.trans e2).trans (e3.trans (e4.trans e5)))
def sp_l_right : SpD := fun ds μ P _ => ∃ (j : Nat) (B : Int), ds = [.ref j] ∧ Jar μ j B ∧ B ≤ 100 ∧ ∀ μ', Grow j μ μ' → P (.bl true) μ'
theorem len_l_right : ∀ ds μ Pd R, sp_l_right ds μ Pd R → ds.length = 1 := fun ds μ Pd R ⟨i, l, e, _⟩ => by rw [e] <;> rfl
def W_l_right : WS :=
  (wSeq (wForR1 (wCons (wC (.int 3)) wNil) (wgName 1) (wSeq (wAsg (wCall sp_l_some_looks (wCons (wVar 0) (wCons (wCall sp_l_some_kind (wCons (wVar 0) wNil)) (wCons (wC (.int 8)) wNil)))) (wgName 2))
  (wSeq (wAsg (wCall sp_kind_for (wCons (wVar 2) wNil)) (wgName 3))
  (wSeq (wIfS (wB (wOp wNe (wCB wRepr (wCons (wCallK 0 1 sp_kind_for g0_0 wNil (wCons (wVar 2) wNil)) wNil)) (wCB wRepr (wCons (wVar 3) wNil)))) (wRet (wC (.bl false))) wNext)
  (wIfS (wB (wOp wIsN (wVar 3) (wC .non))) (wIfS (wB (wOp wNe (wCall sp_l_fitting (wCons (wVar 2) (wCons (wLst (wCons (wC (.int 2)) (wCons (wC (.int 3)) (wCons (wC (.int 5)) (wCons (wC (.int 7)) wNil))))) wNil))) (wLst wNil))) (wRet (wC (.bl false))) wNext) (wSeq (wIfS (wNot (wTruth (wCall sp_l_is_kind (wCons (wVar 3) wNil)))) (wRet (wC (.bl false))) wNext)
  (wSeq (wIfS (wNot (wTruth (wCB wAll (wCons (wLcLT [4, 5] (wVar 2) wYes (wOp wEq (wCall sp_l_splits (wCons (wVar 3) (wCons (wVar 4) wNil))) (wVar 5))) wNil)))) (wRet (wC (.bl false))) wNext)
  (wIfS (wNot (wTruth (wCB wAll (wCons (wLcLT [4, 5] (wVar 2) wYes (wOp wEq (wCB wRepr (wCons (wCall sp_splits_by (wCons (wVar 3) (wCons (wVar 4) wNil))) wNil)) (wCB wRepr (wCons (wVar 5) wNil)))) wNil)))) (wRet (wC (.bl false))) wNext))))))))
  (wRet (wC (.bl true))))
theorem vc_l_right : ∀ ds μ Pd R, sp_l_right ds μ Pd R → W_l_right (fun _ C fs μ' => R C fs μ') { nx := fun _ μ' => Pd .non μ', rt := Pd } (startD 6 ds) μ := by
  intro ds μ Pd R h
  obtain ⟨j, B, rfl, hj, hB, k⟩ := h
  have e : W_l_right = wSeq (wForR1 _ _ (wSeq _ U_l_right)) _ := rfl
  rw [e]
  walk_at "hd"
  unfold wForR1 turnsR
  walk_at "hd"
  refine ⟨r62 (by decide), fun i δ' μ' => ∃ (x1 x2 x3 x4 x5 : Option D), δ' = [some (.ref j), x1, x2, x3, x4, x5] ∧ Grow j μ μ' ∧ Jar μ' j (B + 70 * (i : Int)), ⟨_, _, _, _, _, rfl, Grow.refl _ _, hj.mono (by omega)⟩, ?_, ?_⟩
  · rintro i δ' μ1 hi ⟨x1, x2, x3, x4, x5, rfl, g1, j1⟩
    have hi3 : i < 3 := hi
    walk_at "hd"
    refine ⟨j, _, rfl, j1, by omega, fun sg ps f μ2 hk g2 j2 => ?_⟩
    refine ⟨j, _, sg, ps, f, 8, rfl, j2, by omega, hk, by decide, fun ls μ3 ok sm g3 j3 => ?_⟩
    try simp only []
    refine U_ok ok fun d μ4 e4 => ⟨_, _, _, _, _, rfl, ((g1.trans g2).trans g3).ext e4, (j3.ext e4).mono (by omega)⟩
  · rintro δ' μ' ⟨x1, x2, x3, x4, x5, rfl, g1, j1⟩
    exact k _ g1

/-! where draws come from, the other way -/
def T_l_open : WS :=
  (wSeq (wForL (wSlL (wVar 0) wNoPart (wPart (wC (.int 14)))) (wgName 4) (wAsg (wOp wMod (wCB wInt (wCons (wOp wAdd (wOp wMul (wVar 3) (wC (.int 60013))) (wCB wInt (wCons (wVar 4) wNil))) wNil)) (wC (.int 2147483323))) (wgName 3)))
  (wRet (wLst (wCons (wIf (wOr (wB (wOp wLt (wVar 2) (wC (.int 0)))) (wB (wOp wGe (wVar 2) (wOp wPow (wC (.int 10)) (wC (.int 17)))))) (wCB wAbs (wCons (wVar 2) wNil)) (wC (.int 0))) (wCons (wOp wMod (wCB wInt (wCons (wOp wAdd (wOp wMul (wVar 3) (wC (.int 44207))) (wVar 2)) wNil)) (wC (.int 2147483323))) (wCons (wC (.int 9)) wNil))))))
theorem p17 : (10 : Int) ^ ((17 : Int).toNat) = 100000000000000000 := by decide +kernel
def sp_l_open : SpD := fun ds μ P _ => ∃ (ns : List Int) (t : Nat), ds = [.ro (ns.map .int), .int (t : Int)] ∧ ns.length ≤ 63 ∧ t ≤ 100 ∧ ∀ (j : Nat) μ', Ext μ μ' → μ.length ≤ j → Jar μ' j 9 → P (.ref j) μ'
theorem len_l_open : ∀ ds μ Pd R, sp_l_open ds μ Pd R → ds.length = 2 := fun ds μ Pd R ⟨j, B, e, _⟩ => by rw [e] <;> rfl
theorem rest_l_open {ns : List Int} {t : Nat} {x : Int} {μ : Sto} {R : XD} {E : EndsD} (k : ∀ (j : Nat) μ', Ext μ μ' → μ.length ≤ j → Jar μ' j 9 → E.rt (.ref j) μ') (ht : t ≤ 100) (hl : ns.length ≤ 63) :
    T_l_open R E [some (.ro (ns.map .int)), some (.int (t : Int)), some (.int x), some (.int (43013 + 263 * (t : Int))), none] μ := by
  unfold T_l_open
  walk_at "hd"
  unfold wForL
  walk_at "hd"
  simp only [itemsOf]
  refine ⟨_, rfl, ?_⟩
  have hc : ∃ cs : List Int, HD.cutD (ns.map D.int) none (some 14) = cs.map .int ∧ cs.length ≤ 63 := by
    unfold HD.cutD
    rw [← List.map_drop, ← List.map_take]
    refine ⟨_, rfl, ?_⟩
    rw [List.length_take, List.length_drop]
    omega
  obtain ⟨cs, hc, hc5⟩ := hc
  rw [hc]
  refine ⟨cs.map .int, fun i δ' μ' => μ' = μ ++ [O.lst (cs.map D.int)] ∧ ∃ (m : Int) (y : Option D), δ' = [some (.ro (ns.map .int)), some (.int (t : Int)), some (.int x), some (.int m), y] ∧ 0 ≤ m ∧ m < 2147483648,
    ⟨rfl, _, _, rfl, by omega, by omega⟩, ?_, ?_, ?_⟩
  · rintro i δ' μ' hi ⟨rfl, m, y, rfl, hm, hm2⟩
    rw [lst_new]
  · rintro i z δ' μ' hi ⟨rfl, m, y, rfl, hm, hm2⟩
    rw [List.getElem?_map] at hi
    obtain ⟨n, hn, rfl⟩ := Option.map_eq_some_iff.mp hi
    walk_at "hd"
    refine ⟨mulS ⟨by omega, by omega⟩ ⟨by decide, by decide⟩, by decide, _, _, rfl, Int.emod_nonneg _ (by decide), ?_⟩
    have := Int.emod_lt_of_pos (m * 60013 + n) (show (0 : Int) < 2147483323 by decide)
    omega
  · rintro δ' μ' ⟨rfl, m, y, rfl, hm, hm2⟩
    walk_at "hd"
    simp only [p17]
    obtain ⟨m2, hm2'⟩ : ∃ m2 : Int, (m * 44207 + x) % 2147483323 = m2 := ⟨_, rfl⟩
    have m20 : 0 ≤ m2 := by rw [← hm2']; exact Int.emod_nonneg _ (by decide)
    have m21 : m2 < 2147483323 := by rw [← hm2']; exact Int.emod_lt_of_pos _ (by decide)
    have mm : MulOk m 44207 := mulS ⟨by omega, by omega⟩ ⟨by decide, by decide⟩
    rw [hm2']
    have ext : ∀ o, Ext μ (μ ++ [O.lst (cs.map D.int)] ++ [o]) := fun o => (Ext.app _ _).trans (Ext.app _ _)
    have len : μ.length ≤ (μ ++ [O.lst (cs.map D.int)]).length := by simp
    have fin : ∀ a : Int, 0 ≤ a → E.rt (.ref (μ ++ [O.lst (cs.map D.int)]).length) (μ ++ [O.lst (cs.map D.int)] ++ [O.lst [.int a, .int m2, .int 9]]) := fun a ha =>
      k _ _ (ext _) len ⟨a, m2, 9, lst_new _ _, ha, m20, by omega, by decide, by decide⟩
    have ab : 0 ≤ (if x < 0 then -x else x) := by split <;> omega
    cases c1 : decide (x < 0) with
    | true =>
      simp only []
      exact ⟨mm, by decide, by decide, fin _ ab⟩
    | false =>
      simp only []
      refine ⟨cpow10 (by decide), ?_⟩
      cases c2 : decide (100000000000000000 ≤ x) with
      | true =>
        simp only []
        exact ⟨mm, by decide, by decide, fin _ ab⟩
      | false =>
        simp only []
        exact ⟨mm, by decide, by decide, fin _ (by decide)⟩
def W_l_open : WS :=
  (wSeq (wAsg (wIf (wB (wOp wLt (wVar 1) (wCB wLen (wCons (wVar 0) wNil)))) (wCB wInt (wCons (wOp wIx (wVar 0) (wVar 1)) wNil)) (wOp wAdd (wOp wMul (wC (.int 823)) (wVar 1)) (wC (.int 71)))) (wgName 2))
  (wSeq (wAsg (wOp wAdd (wC (.int 43013)) (wOp wMul (wC (.int 263)) (wVar 1))) (wgName 3))
  (wSeq (wForL (wSlL (wVar 0) wNoPart (wPart (wC (.int 14)))) (wgName 4) (wAsg (wOp wMod (wCB wInt (wCons (wOp wAdd (wOp wMul (wVar 3) (wC (.int 60013))) (wCB wInt (wCons (wVar 4) wNil))) wNil)) (wC (.int 2147483323))) (wgName 3)))
  (wRet (wLst (wCons (wIf (wOr (wB (wOp wLt (wVar 2) (wC (.int 0)))) (wB (wOp wGe (wVar 2) (wOp wPow (wC (.int 10)) (wC (.int 17)))))) (wCB wAbs (wCons (wVar 2) wNil)) (wC (.int 0))) (wCons (wOp wMod (wCB wInt (wCons (wOp wAdd (wOp wMul (wVar 3) (wC (.int 44207))) (wVar 2)) wNil)) (wC (.int 2147483323))) (wCons (wC (.int 9)) wNil))))))))
theorem vc_l_open : ∀ ds μ Pd R, sp_l_open ds μ Pd R → W_l_open (fun _ C fs μ' => R C fs μ') { nx := fun _ μ' => Pd .non μ', rt := Pd } (startD 5 ds) μ := by
  intro ds μ Pd R h
  obtain ⟨ns, t, rfl, hl, ht, k⟩ := h
  have e : W_l_open = wSeq _ (wSeq _ T_l_open) := rfl
  rw [e]
  walk_at "hd"
  refine ⟨_, rfl, ?_⟩
  have m1 : MulOk 823 (t : Int) := mulS ⟨by decide, by decide⟩ ⟨by omega, by omega⟩
  have m2 : MulOk 263 (t : Int) := mulS ⟨by decide, by decide⟩ ⟨by omega, by omega⟩
  cases c1 : decide ((t : Int) < ((ns.map D.int).length : Int)) with
  | true =>
    simp only []
    have c1' := of_decide_eq_true c1
    rw [List.length_map] at c1'
    have tl : t < ns.length := by omega
    have e1 : (ns.map D.int)[t]? = some (.int ns[t]) := by rw [List.getElem?_map, List.getElem?_eq_getElem tl] <;> rfl
    rw [atI_nat (j := t) e1]
    exact ⟨m2, rest_l_open k ht hl⟩
  | false =>
    simp only []
    exact ⟨m1, m2, rest_l_open k ht hl⟩

/-! the law -/
def sp_law : SpD := spLawD 63
theorem len_law : ∀ ds μ Pd R, sp_law ds μ Pd R → ds.length = 1 := fun ds μ Pd R ⟨i, e, _⟩ => by rw [e] <;> rfl
def W_law : WS :=
  (wSeq (wIfS (wNot (wTruth (wCall sp_l_by_hand wNil))) (wRet (wC (.bl false))) wNext)
  (wRet (wCB wAll (wCons (wLcR 1 (wCons (wCB wMax (wCons (wC (.int 2)) (wCons (wCB wMin (wCons (wCB wLen (wCons (wVar 0) wNil)) (wCons (wC (.int 4)) wNil))) wNil))) wNil) wYes (wCall sp_l_right (wCons (wCall sp_l_open (wCons (wVar 0) (wCons (wVar 1) wNil))) wNil))) wNil))))
theorem vc_law : ∀ ds μ Pd R, sp_law ds μ Pd R → W_law (fun _ C fs μ' => R C fs μ') { nx := fun _ μ' => Pd .non μ', rt := Pd } (startD 2 ds) μ := by
  intro ds μ Pd R h
  obtain ⟨ns, rfl, hl, rfl, k⟩ := h
  unfold W_law
  walk_at "hd"
  refine ⟨rfl, fun μ0 => ?_⟩
  simp only [Bool.not_true]
  simp only [wLcR]
  walk_at "hd"
  refine ⟨_, rfl, ?_⟩
  rw [List.length_map]
  obtain ⟨N, hN, hN4⟩ : ∃ N : Nat, (if (if (4 : Int) < (ns.length : Int) then (4 : Int) else (ns.length : Int)) > 2 then (if (4 : Int) < (ns.length : Int) then (4 : Int) else (ns.length : Int)) else 2) = (N : Int) ∧ N ≤ 4 := ⟨max 2 (min ns.length 4), by (repeat' split) <;> omega, by omega⟩
  rw [hN]
  refine ⟨r62 (by omega), ?_⟩
  unfold lcAll
  rw [Int.toNat_natCast]
  refine ⟨fun j acc μ' => acc = List.replicate j (.bl true), rfl, ?_, ?_⟩
  · rintro j acc μ' hj hacc rfl
    refine ⟨trivial, ?_⟩
    unfold lcTurn
    walk_at "hd"
    simp only [wYes]
    refine ⟨ns, j, by rw [Int.zero_add], hl, by omega, fun i μ1 e1 hi jar => ?_⟩
    have c1 := e1.2 _ _ hacc
    have len1 : μ0.length < μ'.length := cell_lt hacc
    refine ⟨i, 9, rfl, jar, by decide, fun μ2 g2 => ?_⟩
    have d1 := g2.2 _ _ (by omega : μ0.length ≠ i) c1
    refine ⟨⟨d1, by rw [List.length_replicate]; omega⟩, ?_⟩
    rw [← List.replicate_succ, List.replicate_succ']
  · rintro acc μ' hacc rfl
    refine ⟨trivial, ?_⟩
    simp only [wAll]
    refine ⟨List.replicate N true, ?_, ?_⟩
    · rw [List.map_replicate]
      exact lstAt_of hacc
    · have e : (List.replicate N true).all _root_.id = true := by simp
      rw [e]
      exact k _

section
variable {P : Program} {w : World} {K : PySem.W.Frag} {mg : Str → Option Value} {base : Heap}
theorem ok_is_between (T : Tx K mg) : FnG P w K mg base 1 T.f_is_between.a T.f_is_between.fd ["value", "least", "most"] (spOf K sp_is_between) :=
  defD (ws := W_is_between) T.f_is_between.fn sc_is_between len_is_between (fun cdv A outer s H E gd hr =>
    (qss_cons (qs_if (qt_bool (qw_or (qt_not (qt_truth (q_callB (qb_isi "int") (by rfl) T.b_isinstance bt_isinstance (qa_cons (qv 0) (qa_cons (q_bltTy (by rfl) T.b_int bt_int) qa_nil))))) (qw_or1 (qt_truth (q_callB (qb_isi "bool") (by rfl) T.b_isinstance bt_isinstance (qa_cons (qv 0) (qa_cons (q_bltTy (by rfl) T.b_bool bt_bool) qa_nil))))))) (qss_one (qs_ret q_bl)) qss_nil)
    (qss_one (qs_ret (q_chain qo_le qo_le (qv 1) (qv 0) (qv 2)))))) vc_is_between
theorem ok_is_look (T : Tx K mg) : FnG P w K mg base 2 T.f_is_look.a T.f_is_look.fd ["value"] (spOf K sp_is_look) :=
  defD (ws := W_is_look) T.f_is_look.fn sc_is_look len_is_look (fun cdv A outer s H E gd hr =>
    (qss_cons (qs_if (qt_bool (qw_or (qt_not (qt_truth (q_callB (qb_isi "tuple") (by rfl) T.b_isinstance bt_isinstance (qa_cons (qv 0) (qa_cons (q_bltTy (by rfl) T.b_tuple bt_tuple) qa_nil))))) (qw_or1 (qt_cmp (qo_ne hr.units) (q_callB qb_len (by rfl) T.b_len bt_len (qa_cons (qv 0) qa_nil)) q_int (nomark _))))) (qss_one (qs_ret q_bl)) qss_nil)
    (qss_one (qs_ret (q_and (q_call (ok_is_between (P := P) (w := w) (base := base) T) gd (hr.mono (by decide)) (by rfl) T.f_is_between.gl T.f_is_between.fn.kp T.f_is_between.bd (takes_of rfl rfl rfl rfl) (qa_cons (q_ix (qv 0) q_int (fun _ _ => rfl)) (qa_cons q_int (qa_cons (q_globI (by rfl) T.c_MOST_LOOKED) qa_nil)))) (q_one (q_callB (qb_isi "bool") (by rfl) T.b_isinstance bt_isinstance (qa_cons (q_ix (qv 0) q_int (fun _ _ => rfl)) (qa_cons (q_bltTy (by rfl) T.b_bool bt_bool) qa_nil))))))))) vc_is_look
theorem ok_check_looks (T : Tx K mg) : FnG P w K mg base 3 T.f_check_looks.a T.f_check_looks.fd ["looks"] (spOf K sp_check_looks) :=
  defD (ws := W_check_looks) T.f_check_looks.fn sc_check_looks len_check_looks (fun cdv A outer s H E gd hr =>
    (qss_cons (qs_if (qt_not (qt_truth (q_callB (qb_isi "tuple") (by rfl) T.b_isinstance bt_isinstance (qa_cons (qv 0) (qa_cons (q_bltTy (by rfl) T.b_tuple bt_tuple) qa_nil))))) (qss_one qs_never) qss_nil)
    (qss_one (qs_forE (passes_of rfl) rfl (by rfl) T.b_enumerate (qa_cons (qv 0) qa_nil) (qg_tup rfl (qgs_cons (qgn 1 sc_check_looks.nd) (qgs_cons (qgn 2 sc_check_looks.nd) qgs_nil))) (qss_one (qs_if (qt_bool (qw_or (qt_cmp (qo_eq hr.units) (qv 1) (q_globI (by rfl) T.c_MOST_LOOKS) (nomark _)) (qw_or1 (qt_not (qt_truth (q_call (ok_is_look (P := P) (w := w) (base := base) T) gd (hr.mono (by decide)) (by rfl) T.f_is_look.gl T.f_is_look.fn.kp T.f_is_look.bd (takes_of rfl rfl rfl rfl) (qa_cons (qv 2) qa_nil))))))) (qss_one qs_never) qss_nil)))))) vc_check_looks
theorem ok_whole_ones (T : Tx K mg) : FnG P w K mg base 1 T.f_whole_ones.a T.f_whole_ones.fd ["looks"] (spOf K sp_whole_ones) :=
  defD (ws := W_whole_ones) T.f_whole_ones.fn sc_whole_ones len_whole_ones (fun cdv A outer s H E gd hr =>
    (qss_one (qs_ret (qe_lcLT (is := [1, 2]) rfl sc_whole_ones.nd (qv 0) (blkOk_by (own := [("n", 1), ("truth", 2)]) (N := ["looks", "n", "truth"]) (sc := defScope s_whole_ones) (by decide +kernel)) (fun _ _ _ _ _ => (TNs.cons (pg_name (i := 1) sc_whole_ones.nd rfl (Or.inl rfl)) (TNs.cons (pg_name (i := 2) sc_whole_ones.nd rfl (Or.inl rfl)) TNs.nil))) (fun _ _ _ _ _ => (qts_one (qt_not (qt_truth (qv 2))))) (fun _ _ _ _ _ => (qv 1)) (by decide) (by decide))))) vc_whole_ones
theorem ok_least_prime_of (T : Tx K mg) : FnG P w K mg base 1 T.f_least_prime_of.a T.f_least_prime_of.fd ["value"] (spOf K sp_least_prime_of) :=
  defD (ws := W_least_prime_of) T.f_least_prime_of.fn sc_least_prime_of len_least_prime_of (fun cdv A outer s H E gd hr =>
    (qss_cons (qs_if (qt_cmp (qo_eq hr.units) (q_op qo_mod (qv 0) q_int) q_int (nomark _)) (qss_one (qs_ret q_int)) qss_nil)
    (qss_cons (qset 1 q_int sc_least_prime_of.nd)
    (qss_cons (qs_while (passes_of rfl) (qt_cmp qo_le (q_op qo_mul (qv 1) (qv 1)) (qv 0) (nomark _)) (qss_cons (qs_if (qt_cmp (qo_eq hr.units) (q_op qo_mod (qv 0) (qv 1)) q_int (nomark _)) (qss_one (qs_ret (qv 1))) qss_nil)
    (qss_one (qset 1 (q_op qo_add (qv 1) q_int) sc_least_prime_of.nd))))
    (qss_one (qs_ret (qv 0))))))) vc_least_prime_of
theorem ok_primes_of (T : Tx K mg) : FnG P w K mg base 2 T.f_primes_of.a T.f_primes_of.fd ["value"] (spOf K sp_primes_of) :=
  defD (ws := W_primes_of) T.f_primes_of.fn sc_primes_of len_primes_of (fun cdv A outer s H E gd hr =>
    (qss_cons (qset 1 (q_lst qa_nil) sc_primes_of.nd)
    (qss_cons (qs_while (passes_of rfl) (qt_cmp qo_gt (qv 0) q_int (nomark _)) (qss_cons (qset 2 (q_call (ok_least_prime_of (P := P) (w := w) (base := base) T) gd (hr.mono (by decide)) (by rfl) T.f_least_prime_of.gl T.f_least_prime_of.fn.kp T.f_least_prime_of.bd (takes_of rfl rfl rfl rfl) (qa_cons (qv 0) qa_nil)) sc_primes_of.nd)
    (qss_cons (qs_expr (q_app (qv 1) (qv 2)))
    (qss_one (qs_while (passes_of rfl) (qt_cmp (qo_eq hr.units) (q_op qo_mod (qv 0) (qv 2)) q_int (nomark _)) (qss_one (qset 0 (q_op qo_div (qv 0) (qv 2)) sc_primes_of.nd)))))))
    (qss_one (qs_ret (qv 1)))))) vc_primes_of
theorem ok_odd_ones (T : Tx K mg) : FnG P w K mg base 1 T.f_odd_ones.a T.f_odd_ones.fd ["primes"] (spOf K sp_odd_ones) :=
  defD (ws := W_odd_ones) T.f_odd_ones.fn sc_odd_ones len_odd_ones (fun cdv A outer s H E gd hr =>
    (qss_one (qs_ret (qe_lcL (i := 1) rfl sc_odd_ones.nd (qv 0) (blkOk_by (own := [("prime", 1)]) (N := ["primes", "prime"]) (sc := defScope s_odd_ones) (by decide +kernel)) (fun _ _ _ _ _ => pg_name (i := 1) sc_odd_ones.nd rfl (by first | exact Or.inl rfl | exact Or.inr rfl)) (fun _ _ _ _ _ => (qts_one (qt_cmp qo_gt (qv 1) q_int (nomark _)))) (fun _ _ _ _ _ => (qv 1)))))) vc_odd_ones
theorem ok_steps_below (T : Tx K mg) : FnG P w K mg base 2 T.f_steps_below.a T.f_steps_below.fd ["primes", "is_four"] (spOf K sp_steps_below) :=
  defD (ws := W_steps_below) T.f_steps_below.fn sc_steps_below len_steps_below (fun cdv A outer s H E gd hr =>
    (qss_cons (qs_if (qt_truth (qv 1)) (qss_one (qs_ret (q_callB qb_sorted (by rfl) T.b_sorted bt_sorted (qa_cons (q_op qo_add (q_call (ok_odd_ones (P := P) (w := w) (base := base) T) gd (hr.mono (by decide)) (by rfl) T.f_odd_ones.gl T.f_odd_ones.fn.kp T.f_odd_ones.bd (takes_of rfl rfl rfl rfl) (qa_cons (qv 0) qa_nil)) (q_lst (qa_cons q_int qa_nil))) qa_nil)))) qss_nil)
    (qss_one (qs_ret (q_call (ok_odd_ones (P := P) (w := w) (base := base) T) gd (hr.mono (by decide)) (by rfl) T.f_odd_ones.gl T.f_odd_ones.fn.kp T.f_odd_ones.bd (takes_of rfl rfl rfl rfl) (qa_cons (qv 0) qa_nil)))))) vc_steps_below
theorem ok_steps_left (T : Tx K mg) : FnG P w K mg base 3 T.f_steps_left.a T.f_steps_left.fd ["sign", "whole", "n"] (spOf K sp_steps_left) :=
  defD (ws := W_steps_left) T.f_steps_left.fn sc_steps_left len_steps_left (fun cdv A outer s H E gd hr =>
    (qss_cons (qset 3 (q_call (ok_primes_of (P := P) (w := w) (base := base) T) gd (hr.mono (by decide)) (by rfl) T.f_primes_of.gl T.f_primes_of.fn.kp T.f_primes_of.bd (takes_of rfl rfl rfl rfl) (qa_cons (qv 2) qa_nil)) sc_steps_left.nd)
    (qss_cons (qset 4 (q_if (qt_cmp (qo_eq hr.units) (qv 0) q_int (nomark _)) (qv 3) (q_call (ok_steps_below (P := P) (w := w) (base := base) T) gd (hr.mono (by decide)) (by rfl) T.f_steps_below.gl T.f_steps_below.fn.kp T.f_steps_below.bd (takes_of rfl rfl rfl rfl) (qa_cons (qv 3) (qa_cons (q_cmp (qo_eq hr.units) (q_op qo_mod (qv 2) q_int) q_int (nomark _)) qa_nil)))) sc_steps_left.nd)
    (qss_one (qs_ret (qe_lcL (i := 5) rfl sc_steps_left.nd (qv 4) (blkOk_by (own := [("step", 5)]) (N := ["sign", "whole", "n", "primes", "steps", "step", "other"]) (sc := defScope s_steps_left) (by decide +kernel)) (fun _ _ _ _ _ => pg_name (i := 5) sc_steps_left.nd rfl (by first | exact Or.inl rfl | exact Or.inr rfl)) (fun _ _ _ _ _ => (qts_one (qt_truth (q_callB (qb_all rfl) (by rfl) T.b_all bt_all (qa_cons (qe_lcL (i := 6) rfl sc_steps_left.nd (qv 1) (blkOk_by (own := [("other", 6)]) (N := ["sign", "whole", "n", "primes", "steps", "step", "other"]) (sc := relS { kind := .function, names := [(".0", .local), ("step", .cell), ("all", .globalImplicit), ("whole", .free)], isGenerator := false, isCoroutine := false } (defScope s_steps_left)) (by decide +kernel)) (fun _ _ _ _ _ => pg_name (i := 6) sc_steps_left.nd rfl (by first | exact Or.inl rfl | exact Or.inr rfl)) (fun _ _ _ _ _ => qts_nil) (fun _ _ _ _ _ => (q_cmp (qo_ne hr.units) (q_op qo_mod (qv 6) (qv 5)) q_int (nomark _)))) qa_nil))))) (fun _ _ _ _ _ => (qv 5)))))))) vc_steps_left
theorem ok_fitting (T : Tx K mg) : FnG P w K mg base 4 T.f_fitting.a T.f_fitting.fd ["looks"] (spOf K sp_fitting) :=
  defD (ws := W_fitting) T.f_fitting.fn sc_fitting len_fitting (fun cdv A outer s H E gd hr =>
    (qss_cons (qset 1 (q_lst qa_nil) sc_fitting.nd)
    (qss_cons (qset 2 (q_call (ok_whole_ones (P := P) (w := w) (base := base) T) gd (hr.mono (by decide)) (by rfl) T.f_whole_ones.gl T.f_whole_ones.fn.kp T.f_whole_ones.bd (takes_of rfl rfl rfl rfl) (qa_cons (qv 0) qa_nil)) sc_fitting.nd)
    (qss_cons (qs_forL (passes_of rfl) rfl (q_tup (qa_cons q_int (qa_cons (q_neg q_int) qa_nil))) (qgn 3 sc_fitting.nd) (qss_cons (qs_setLcLT (k := 4) (is := [5, 6]) rfl sc_fitting.nd (qv 0) (blkOk_by (own := [("n", 5), ("truth", 6)]) (N := ["looks", "found", "whole", "sign", "reasons", "n", "truth"]) (sc := defScope s_fitting) (by decide +kernel)) (fun _ _ _ _ _ => (TNs.cons (pg_name (i := 5) sc_fitting.nd rfl (Or.inl rfl)) (TNs.cons (pg_name (i := 6) sc_fitting.nd rfl (Or.inl rfl)) TNs.nil))) (fun _ _ _ _ _ => (qts_one (qt_truth (qv 6)))) (fun _ _ _ _ _ => (q_call (ok_steps_left (P := P) (w := w) (base := base) T) gd (hr.mono (by decide)) (by rfl) T.f_steps_left.gl T.f_steps_left.fn.kp T.f_steps_left.bd takes0 (qa_cons (qv 3) (qa_cons (qv 2) (qa_cons (qv 5) qa_nil))))) (by decide) (by decide) rfl rfl (sw_true rfl rfl rfl (by decide +kernel)))
    (qss_one (qs_if (qt_cmp (qo_notInP (room65 hr)) (q_lst qa_nil) (qv 4) (by rfl)) (qss_one (qs_expr (q_app (qv 1) (q_tup (qa_cons (qv 3) (qa_cons (qv 4) qa_nil)))))) qss_nil))))
    (qss_one (qs_ret (qv 1))))))) vc_fitting
theorem ok_kind_by (T : Tx K mg) : FnG P w K mg base 1 T.f_kind_by.a T.f_kind_by.fd ["sign", "steps"] (spOf K sp_kind_by) :=
  defD (ws := W_kind_by) T.f_kind_by.fn sc_kind_by len_kind_by (fun cdv A outer s H E gd hr =>
    (qss_one (qs_ret (q_tup (qa_cons (qv 0) (qa_cons (q_callTy qb_tuple (by rfl) T.b_tuple bt_tuple (qa_cons (qe_lcL (i := 2) rfl sc_kind_by.nd (qv 1) (blkOk_by (own := [("step", 2)]) (N := ["sign", "steps", "step"]) (sc := defScope s_kind_by) (by decide +kernel)) (fun _ _ _ _ _ => pg_name (i := 2) sc_kind_by.nd rfl (by first | exact Or.inl rfl | exact Or.inr rfl)) (fun _ _ _ _ _ => (qts_one (qt_cmp (qo_ne hr.units) (qv 2) q_int (nomark _)))) (fun _ _ _ _ _ => (qv 2))) qa_nil)) (qa_cons (q_cmp qo_inI q_int (qv 1) (by rfl)) qa_nil))))))) vc_kind_by
theorem ok_kind_for (T : Tx K mg) : FnG P w K mg base 5 T.f_kind_for.a T.f_kind_for.fd ["looks"] (spOf K sp_kind_for) :=
  defD (ws := W_kind_for) T.f_kind_for.fn sc_kind_for len_kind_for (fun cdv A outer s H E gd hr =>
    (qss_cons (qs_expr (q_call (ok_check_looks (P := P) (w := w) (base := base) T) gd (hr.mono (by decide)) (by rfl) T.f_check_looks.gl T.f_check_looks.fn.kp T.f_check_looks.bd (takes_of rfl rfl rfl rfl) (qa_cons (qv 0) qa_nil)))
    (qss_cons (qset 1 (q_call (ok_fitting (P := P) (w := w) (base := base) T) gd (hr.mono (by decide)) (by rfl) T.f_fitting.gl T.f_fitting.fn.kp T.f_fitting.bd (takes_of rfl rfl rfl rfl) (qa_cons (qv 0) qa_nil)) sc_kind_for.nd)
    (qss_cons (qs_if (qt_not (qt_truth (qv 1))) (qss_one (qs_ret q_non)) qss_nil)
    (qss_cons (qs_asg (q_ix (qv 1) q_int (fun _ _ => rfl)) (qg_tup rfl (qgs_cons (qgn 2 sc_kind_for.nd) (qgs_cons (qgn 3 sc_kind_for.nd) qgs_nil))))
    (qss_one (qs_ret (q_call (ok_kind_by (P := P) (w := w) (base := base) T) gd (hr.mono (by decide)) (by rfl) T.f_kind_by.gl T.f_kind_by.fn.kp T.f_kind_by.bd (takes_of rfl rfl rfl rfl) (qa_cons (qv 2) (qa_cons (q_sortSet2 (i := 4) (j := 5) (by decide) rfl sc_kind_for.nd (by rfl) T.b_sorted bt_sorted (qv 3) (blkOk_by (own := [("steps", 4), ("step", 5)]) (N := ["looks", "fitting", "sign", "reasons", "steps", "step"]) (sc := defScope s_kind_for) (by decide +kernel)) (fun _ _ _ _ _ => pg_name (i := 4) sc_kind_for.nd rfl (Or.inl rfl)) (fun _ _ _ _ _ => pe_var (i := 4) rfl (by first | exact Or.inl rfl | exact Or.inr rfl | exact Or.inr (Or.inl rfl))) (fun _ _ _ _ _ => pg_name (i := 5) sc_kind_for.nd rfl (Or.inl rfl)) (fun _ _ _ _ _ => pe_var (i := 5) rfl (by first | exact Or.inl rfl | exact Or.inr rfl | exact Or.inr (Or.inl rfl)))) qa_nil)))))))))) vc_kind_for
theorem ok_l_whole (T : Tx K mg) : FnG P w K mg base 1 T.f_l_whole.a T.f_l_whole.fd ["_law_thing", "_law_low", "_law_high"] (spOf K sp_l_whole) :=
  defD (ws := W_l_whole) T.f_l_whole.fn sc_l_whole len_l_whole (fun cdv A outer s H E gd hr =>
    (qss_one (qs_ret (q_and (q_callB (qb_isi "int") (by rfl) T.b_isinstance bt_isinstance (qa_cons (qv 0) (qa_cons (q_bltTy (by rfl) T.b_int bt_int) qa_nil))) (q_and (q_not (q_callB (qb_isi "bool") (by rfl) T.b_isinstance bt_isinstance (qa_cons (qv 0) (qa_cons (q_bltTy (by rfl) T.b_bool bt_bool) qa_nil)))) (q_one (q_chain qo_le qo_le (qv 1) (qv 0) (qv 2)))))))) vc_l_whole
theorem ok_l_primes (T : Tx K mg) : FnG P w K mg base 1 T.f_l_primes.a T.f_l_primes.fd ["_law_value_now"] (spOf K sp_l_primes) :=
  defD (ws := W_l_primes) T.f_l_primes.fn sc_l_primes len_l_primes (fun cdv A outer s H E gd hr =>
    (qss_cons (qs_par3 (i := 1) (j := 2) (l := 3) rfl sc_l_primes.nd rfl rfl rfl (by decide) (by decide) (by decide) rfl rfl rfl (qa_cons (q_lst qa_nil) (qa_cons (qv 0) (qa_cons q_int qa_nil))) (by rfl))
    (qss_cons (qs_while (passes_of rfl) (qt_cmp qo_le (q_op qo_mul (qv 3) (qv 3)) (qv 2) (nomark _)) (qss_one (qs_if (qt_cmp (qo_eq hr.units) (q_op qo_mod (qv 2) (qv 3)) q_int (nomark _)) (qss_cons (qs_expr (q_app (qv 1) (qv 3)))
    (qss_one (qset 2 (q_op qo_div (qv 2) (qv 3)) sc_l_primes.nd))) (qss_one (qset 3 (q_op qo_add (qv 3) q_int) sc_l_primes.nd)))))
    (qss_one (qs_ret (q_sortSet rfl (by rfl) T.b_sorted (by rfl) T.b_set bt_sorted bt_set (q_op qo_add (qv 1) (q_if (qt_cmp qo_gt (qv 2) q_int (nomark _)) (q_lst (qa_cons (qv 2) qa_nil)) (q_lst qa_nil))))))))) vc_l_primes
theorem ok_l_is_kind (T : Tx K mg) : FnG P w K mg base 2 T.f_l_is_kind.a T.f_l_is_kind.fd ["_law_thing"] (spOf K sp_l_is_kind) :=
  defD (ws := W_l_is_kind) T.f_l_is_kind.fn sc_l_is_kind len_l_is_kind (fun cdv A outer s H E gd hr =>
    (qss_cons (qs_if (qt_bool (qw_or (qt_not (qt_truth (q_callB (qb_isi "tuple") (by rfl) T.b_isinstance bt_isinstance (qa_cons (qv 0) (qa_cons (q_bltTy (by rfl) T.b_tuple bt_tuple) qa_nil))))) (qw_or (qt_cmp (qo_ne hr.units) (q_callB qb_len (by rfl) T.b_len bt_len (qa_cons (qv 0) qa_nil)) q_int (nomark _)) (qw_or1 (qt_not (qt_truth (q_callB (qb_isi "bool") (by rfl) T.b_isinstance bt_isinstance (qa_cons (q_ix (qv 0) q_int (fun _ _ => rfl)) (qa_cons (q_bltTy (by rfl) T.b_bool bt_bool) qa_nil))))))))) (qss_one (qs_ret q_bl)) qss_nil)
    (qss_cons (qs_if (qt_bool (qw_or (qt_not (qt_truth (q_call (ok_l_whole (P := P) (w := w) (base := base) T) gd (hr.mono (by decide)) (by rfl) T.f_l_whole.gl T.f_l_whole.fn.kp T.f_l_whole.bd (takes_of rfl rfl rfl rfl) (qa_cons (q_ix (qv 0) q_int (fun _ _ => rfl)) (qa_cons (q_neg q_int) (qa_cons q_int qa_nil)))))) (qw_or (qt_cmp (qo_eq hr.units) (q_ix (qv 0) q_int (fun _ _ => rfl)) q_int (nomark _)) (qw_or1 (qt_bool (qw_and (qt_cmp (qo_eq hr.units) (q_ix (qv 0) q_int (fun _ _ => rfl)) q_int (nomark _)) (qw_and1 (qt_truth (q_ix (qv 0) q_int (fun _ _ => rfl)))))))))) (qss_one (qs_ret q_bl)) qss_nil)
    (qss_cons (qs_if (qt_truth (q_callB (qb_isi "str") (by rfl) T.b_isinstance bt_isinstance (qa_cons (q_ix (qv 0) q_int (fun _ _ => rfl)) (qa_cons (q_bltTy (by rfl) T.b_str bt_str) qa_nil)))) (qss_one (qs_ret (q_and (q_cmp (qo_eq hr.units) (q_ix (qv 0) q_int (fun _ _ => rfl)) q_str (nomark _)) (q_one (q_not (q_ix (qv 0) q_int (fun _ _ => rfl))))))) qss_nil)
    (qss_cons (qs_if (qt_not (qt_truth (q_callB (qb_isi "tuple") (by rfl) T.b_isinstance bt_isinstance (qa_cons (q_ix (qv 0) q_int (fun _ _ => rfl)) (qa_cons (q_bltTy (by rfl) T.b_tuple bt_tuple) qa_nil))))) (qss_one (qs_ret q_bl)) qss_nil)
    (qss_cons (qs_forL (passes_of rfl) rfl (q_ix (qv 0) q_int (fun _ _ => rfl)) (qgn 1 sc_l_is_kind.nd) (qss_one (qs_if (qt_bool (qw_or (qt_not (qt_truth (q_call (ok_l_whole (P := P) (w := w) (base := base) T) gd (hr.mono (by decide)) (by rfl) T.f_l_whole.gl T.f_l_whole.fn.kp T.f_l_whole.bd (takes_of rfl rfl rfl rfl) (qa_cons (qv 1) (qa_cons q_int (qa_cons q_int qa_nil)))))) (qw_or (qt_cmp (qo_ne hr.units) (q_call (ok_l_primes (P := P) (w := w) (base := base) T) gd (hr.mono (by decide)) (by rfl) T.f_l_primes.gl T.f_l_primes.fn.kp T.f_l_primes.bd (takes_of rfl rfl rfl rfl) (qa_cons (qv 1) qa_nil)) (q_lst (qa_cons (qv 1) qa_nil)) (nomark _)) (qw_or1 (qt_bool (qw_and (qt_cmp (qo_eq hr.units) (qv 1) q_int (nomark _)) (qw_and1 (qt_cmp qo_lt (q_ix (qv 0) q_int (fun _ _ => rfl)) q_int (nomark _))))))))) (qss_one (qs_ret q_bl)) qss_nil)))
    (qss_one (qs_ret (q_callB (qb_all rfl) (by rfl) T.b_all bt_all (qa_cons (qe_lcR (i := 2) rfl sc_l_is_kind.nd (by rfl) T.b_range (qa_cons (q_op qo_sub (q_callB qb_len (by rfl) T.b_len bt_len (qa_cons (q_ix (qv 0) q_int (fun _ _ => rfl)) qa_nil)) q_int) qa_nil) (blkOk_by (own := [("_law_k", 2)]) (N := ["_law_thing", "_law_each", "_law_k"]) (sc := defScope s_l_is_kind) (by decide +kernel)) (fun _ _ _ _ _ => pg_name (i := 2) sc_l_is_kind.nd rfl (by first | exact Or.inl rfl | exact Or.inr rfl)) (fun _ _ _ _ _ => qts_nil) (fun _ _ _ _ _ => (q_cmp qo_lt (q_ix (q_ix (qv 0) q_int (fun _ _ => rfl)) (qv 2) (fun _ _ => rfl)) (q_ix (q_ix (qv 0) q_int (fun _ _ => rfl)) (q_op qo_add (qv 2) q_int) (fun _ _ => rfl)) (nomark _)))) qa_nil)))))))))) vc_l_is_kind
theorem ok_l_splits (T : Tx K mg) : FnG P w K mg base 2 T.f_l_splits.a T.f_l_splits.fd ["_law_kind_now", "_law_nth"] (spOf K sp_l_splits) :=
  defD (ws := W_l_splits) T.f_l_splits.fn sc_l_splits len_l_splits (fun cdv A outer s H E gd hr =>
    (qss_cons (qs_asg (qv 0) (qg_tup rfl (qgs_cons (qgn 3 sc_l_splits.nd) (qgs_cons (qgn 4 sc_l_splits.nd) (qgs_cons (qgn 5 sc_l_splits.nd) qgs_nil)))))
    (qss_cons (qs_setLcL (k := 2) (i := 6) rfl sc_l_splits.nd (q_call (ok_l_primes (P := P) (w := w) (base := base) T) gd (hr.mono (by decide)) (by rfl) T.f_l_primes.gl T.f_l_primes.fn.kp T.f_l_primes.bd (takes_of rfl rfl rfl rfl) (qa_cons (qv 1) qa_nil)) (blkOk_by (own := [("_law_prime", 6)]) (N := ["_law_kind_now", "_law_nth", "_law_own", "_law_sign", "_law_primes_now", "_law_is_four", "_law_prime"]) (sc := defScope s_l_splits) (by decide +kernel)) (fun _ _ _ _ _ => pg_name (i := 6) sc_l_splits.nd rfl (by first | exact Or.inl rfl | exact Or.inr rfl)) (fun _ _ _ _ _ => (qts_one (qt_bool (qw_or (qt_cmp qo_gt (qv 3) q_int (nomark _)) (qw_or1 (qt_cmp qo_gt (qv 6) q_int (nomark _))))))) (fun _ _ _ _ _ => (qv 6)) rfl rfl (sw_true rfl rfl rfl (by decide +kernel)))
    (qss_cons (qs_if (qt_bool (qw_and (qt_truth (qv 5)) (qw_and1 (qt_cmp (qo_eq hr.units) (q_op qo_mod (qv 1) q_int) q_int (nomark _))))) (qss_one (qs_ret q_bl)) qss_nil)
    (qss_one (qs_ret (q_if (qt_cmp (qo_eq hr.units) (qv 4) q_str (nomark _)) (q_cmp (qo_ne hr.units) (qv 2) (q_lst qa_nil) (nomark _)) (q_callB (qb_any rfl) (by rfl) T.b_any bt_any (qa_cons (qe_lcL (i := 6) rfl sc_l_splits.nd (qv 2) (blkOk_by (own := [("_law_prime", 6)]) (N := ["_law_kind_now", "_law_nth", "_law_own", "_law_sign", "_law_primes_now", "_law_is_four", "_law_prime"]) (sc := defScope s_l_splits) (by decide +kernel)) (fun _ _ _ _ _ => pg_name (i := 6) sc_l_splits.nd rfl (by first | exact Or.inl rfl | exact Or.inr rfl)) (fun _ _ _ _ _ => qts_nil) (fun _ _ _ _ _ => (q_cmp qo_inI (qv 6) (qv 4) (by rfl)))) qa_nil))))))))) vc_l_splits
theorem ok_l_by_hand (T : Tx K mg) : FnG P w K mg base 6 T.f_l_by_hand.a T.f_l_by_hand.fd [] (spOf K sp_l_by_hand) :=
  defD (ws := W_l_by_hand) T.f_l_by_hand.fn sc_l_by_hand len_l_by_hand (fun cdv A outer s H E gd hr =>
    (qss_cons (qset 0 (q_lst (qa_cons (q_tup (qa_cons (q_tup (qa_cons q_int (qa_cons q_bl qa_nil))) qa_nil)) (qa_cons (q_tup (qa_cons (q_tup (qa_cons q_int (qa_cons q_bl qa_nil))) (qa_cons (q_tup (qa_cons q_int (qa_cons q_bl qa_nil))) qa_nil))) (qa_cons (q_tup (qa_cons (q_tup (qa_cons q_int (qa_cons q_bl qa_nil))) (qa_cons (q_tup (qa_cons q_int (qa_cons q_bl qa_nil))) qa_nil))) (qa_cons (q_tup (qa_cons (q_tup (qa_cons q_int (qa_cons q_bl qa_nil))) (qa_cons (q_tup (qa_cons q_int (qa_cons q_bl qa_nil))) (qa_cons (q_tup (qa_cons q_int (qa_cons q_bl qa_nil))) qa_nil)))) qa_nil))))) sc_l_by_hand.nd)
    (qss_cons (qs_if (qt_cmp (qo_ne hr.units) (qe_lcL (i := 2) rfl sc_l_by_hand.nd (qv 0) (blkOk_by (own := [("_law_each", 2)]) (N := ["_law_far", "_law_some", "_law_each", "_law_told", "_law_nth", "_law_truth"]) (sc := defScope s_l_by_hand) (by decide +kernel)) (fun _ _ _ _ _ => pg_name (i := 2) sc_l_by_hand.nd rfl (by first | exact Or.inl rfl | exact Or.inr rfl)) (fun _ _ _ _ _ => qts_nil) (fun _ _ _ _ _ => (q_call (ok_kind_for (P := P) (w := w) (base := base) T) gd (hr.mono (by decide)) (by rfl) T.f_kind_for.gl T.f_kind_for.fn.kp T.f_kind_for.bd takes0 (qa_cons (qv 2) qa_nil)))) (q_op qo_mul (q_lst (qa_cons q_non qa_nil)) q_int) (nomark _)) (qss_one (qs_ret q_bl)) qss_nil)
    (qss_cons (qset 1 (q_lst (qa_cons (q_tup qa_nil) (qa_cons (q_tup (qa_cons (q_tup (qa_cons q_int (qa_cons q_bl qa_nil))) qa_nil)) (qa_cons (q_tup (qa_cons (q_tup (qa_cons q_int (qa_cons q_bl qa_nil))) qa_nil)) (qa_cons (q_tup (qa_cons (q_tup (qa_cons q_int (qa_cons q_bl qa_nil))) (qa_cons (q_tup (qa_cons q_int (qa_cons q_bl qa_nil))) (qa_cons (q_tup (qa_cons q_int (qa_cons q_bl qa_nil))) qa_nil)))) (qa_cons (q_tup (qa_cons (q_tup (qa_cons q_int (qa_cons q_bl qa_nil))) (qa_cons (q_tup (qa_cons q_int (qa_cons q_bl qa_nil))) qa_nil))) qa_nil)))))) sc_l_by_hand.nd)
    (qss_cons (qset 1 (q_op qo_add (qv 1) (q_lst (qa_cons (q_op qo_mulT (q_tup (qa_cons (q_tup (qa_cons q_int (qa_cons q_bl qa_nil))) qa_nil)) q_int) (qa_cons (q_tup (qa_cons (q_tup (qa_cons q_int (qa_cons q_bl qa_nil))) qa_nil)) (qa_cons (q_callTy qb_tuple (by rfl) T.b_tuple bt_tuple (qa_cons (qe_lcR2 (i := 4) rfl sc_l_by_hand.nd (by rfl) T.b_range (qa_cons q_int (qa_cons q_int qa_nil)) (blkOk_by (own := [("_law_nth", 4)]) (N := ["_law_far", "_law_some", "_law_each", "_law_told", "_law_nth", "_law_truth"]) (sc := defScope s_l_by_hand) (by decide +kernel)) (fun _ _ _ _ _ => pg_name (i := 4) sc_l_by_hand.nd rfl (by first | exact Or.inl rfl | exact Or.inr rfl)) (fun _ _ _ _ _ => qts_nil) (fun _ _ _ _ _ => (q_tup (qa_cons (qv 4) (qa_cons q_bl qa_nil))))) qa_nil)) qa_nil))))) sc_l_by_hand.nd)
    (qss_cons (qs_expr (q_app (qv 1) (q_callTy qb_tuple (by rfl) T.b_tuple bt_tuple (qa_cons (qe_lcR2 (i := 4) rfl sc_l_by_hand.nd (by rfl) T.b_range (qa_cons q_int (qa_cons q_int qa_nil)) (blkOk_by (own := [("_law_nth", 4)]) (N := ["_law_far", "_law_some", "_law_each", "_law_told", "_law_nth", "_law_truth"]) (sc := defScope s_l_by_hand) (by decide +kernel)) (fun _ _ _ _ _ => pg_name (i := 4) sc_l_by_hand.nd rfl (by first | exact Or.inl rfl | exact Or.inr rfl)) (fun _ _ _ _ _ => qts_nil) (fun _ _ _ _ _ => (q_tup (qa_cons (qv 4) (qa_cons q_bl qa_nil))))) qa_nil))))
    (qss_cons (qs_forL (passes_of rfl) rfl (qv 1) (qgn 2 sc_l_by_hand.nd) (qss_cons (qset 3 (q_call (ok_kind_for (P := P) (w := w) (base := base) T) gd (hr.mono (by decide)) (by rfl) T.f_kind_for.gl T.f_kind_for.fn.kp T.f_kind_for.bd (takes_of rfl rfl rfl rfl) (qa_cons (qv 2) qa_nil)) sc_l_by_hand.nd)
    (qss_one (qs_if (qt_bool (qw_or (qt_not (qt_truth (q_call (ok_l_is_kind (P := P) (w := w) (base := base) T) gd (hr.mono (by decide)) (by rfl) T.f_l_is_kind.gl T.f_l_is_kind.fn.kp T.f_l_is_kind.bd (takes_of rfl rfl rfl rfl) (qa_cons (qv 3) qa_nil)))) (qw_or1 (qt_not (qt_truth (q_callB (qb_all rfl) (by rfl) T.b_all bt_all (qa_cons (qe_lcLT (is := [4, 5]) rfl sc_l_by_hand.nd (qv 2) (blkOk_by (own := [("_law_nth", 4), ("_law_truth", 5)]) (N := ["_law_far", "_law_some", "_law_each", "_law_told", "_law_nth", "_law_truth"]) (sc := defScope s_l_by_hand) (by decide +kernel)) (fun _ _ _ _ _ => (TNs.cons (pg_name (i := 4) sc_l_by_hand.nd rfl (Or.inl rfl)) (TNs.cons (pg_name (i := 5) sc_l_by_hand.nd rfl (Or.inl rfl)) TNs.nil))) (fun _ _ _ _ _ => qts_nil) (fun _ _ _ _ _ => (q_cmp (qo_eq hr.units) (q_call (ok_l_splits (P := P) (w := w) (base := base) T) gd (hr.mono (by decide)) (by rfl) T.f_l_splits.gl T.f_l_splits.fn.kp T.f_l_splits.bd takes0 (qa_cons (qv 3) (qa_cons (qv 4) qa_nil))) (qv 5) (nomark _))) (by decide) (by decide)) qa_nil))))))) (qss_one (qs_ret q_bl)) qss_nil))))
    (qss_one (qs_ret (q_cmp (qo_eq hr.units) (q_twoT (q_call (ok_kind_for (P := P) (w := w) (base := base) T) gd (hr.mono (by decide)) (by rfl) T.f_kind_for.gl T.f_kind_for.fn.kp T.f_kind_for.bd (takes_of rfl rfl rfl rfl) (qa_cons (q_tup (qa_cons (q_tup (qa_cons q_int (qa_cons q_bl qa_nil))) (qa_cons (q_tup (qa_cons q_int (qa_cons q_bl qa_nil))) qa_nil))) qa_nil))) (q_tup (qa_cons (q_neg q_int) (qa_cons q_bl qa_nil))) (nomark _))))))))))) vc_l_by_hand
theorem ok_l_tap (T : Tx K mg) : FnG P w K mg base 1 T.f_l_tap.a T.f_l_tap.fd ["_law_keg", "_law_count_now"] (spOf K sp_l_tap) :=
  defD (ws := W_l_tap) T.f_l_tap.fn sc_l_tap len_l_tap (fun cdv A outer s H E gd hr =>
    (qss_cons (qs_asg (q_op qo_add (q_ix (qv 0) q_int (fun _ _ => rfl)) q_int) (qg_sub (qv 0) q_int))
    (qss_cons (qs_asg (q_op qo_mod (q_callTy qb_int (by rfl) T.b_int bt_int (qa_cons (q_op qo_add (q_op qo_add (q_op qo_mul (q_ix (qv 0) q_int (fun _ _ => rfl)) q_int) (q_op qo_mul q_int (q_ix (qv 0) q_int (fun _ _ => rfl)))) q_int) qa_nil)) q_int) (qg_sub (qv 0) q_int))
    (qss_cons (qs_if (qt_cmp qo_gt (q_ix (qv 0) q_int (fun _ _ => rfl)) q_int (nomark _)) (qss_cons (qs_asg (q_callB qb_divmod (by rfl) T.b_divmod bt_divmod (qa_cons (q_callTy qb_int (by rfl) T.b_int bt_int (qa_cons (q_ix (qv 0) q_int (fun _ _ => rfl)) qa_nil)) (qa_cons (qv 1) qa_nil))) (qg_tup rfl (qgs_cons (qg_sub (qv 0) q_int) (qgs_cons (qgn 3 sc_l_tap.nd) qgs_nil))))
    (qss_one (qs_ret (qv 3)))) qss_nil)
    (qss_cons (qset 2 (q_op qo_mod (q_callTy qb_int (by rfl) T.b_int bt_int (qa_cons (q_op qo_add (q_op qo_mul (q_ix (qv 0) q_int (fun _ _ => rfl)) (q_op qo_add (q_ix (qv 0) q_int (fun _ _ => rfl)) (q_op qo_mul q_int (q_ix (qv 0) q_int (fun _ _ => rfl))))) q_int) qa_nil)) q_int) sc_l_tap.nd)
    (qss_one (qs_ret (q_op qo_mod (q_callTy qb_int (by rfl) T.b_int bt_int (qa_cons (q_op qo_div (qv 2) q_int) qa_nil)) (qv 1))))))))) vc_l_tap
theorem ok_l_of (T : Tx K mg) : FnG P w K mg base 2 T.f_l_of.a T.f_l_of.fd ["_law_keg", "_law_some"] (spOf K sp_l_of) :=
  defD (ws := W_l_of) T.f_l_of.fn sc_l_of len_l_of (fun cdv A outer s H E gd hr =>
    (qss_one (qs_ret (q_ix (qv 1) (q_call (ok_l_tap (P := P) (w := w) (base := base) T) gd (hr.mono (by decide)) (by rfl) T.f_l_tap.gl T.f_l_tap.fn.kp T.f_l_tap.bd (takes_of rfl rfl rfl rfl) (qa_cons (qv 0) (qa_cons (q_callB qb_len (by rfl) T.b_len bt_len (qa_cons (qv 1) qa_nil)) qa_nil))) (fun _ _ => rfl))))) vc_l_of
theorem ok_l_some_looks (T : Tx K mg) : FnG P w K mg base 3 T.f_l_some_looks.a T.f_l_some_looks.fd ["_law_keg", "_law_kind_now", "_law_most_now"] (spOf K sp_l_some_looks) :=
  defD (ws := W_l_some_looks) T.f_l_some_looks.fn sc_l_some_looks len_l_some_looks (fun cdv A outer s H E gd hr =>
    (qss_cons (qset 3 (q_lst qa_nil) sc_l_some_looks.nd)
    (qss_cons (qs_forR1 (passes_of rfl) rfl (by rfl) T.b_range (qa_cons (q_call (ok_l_tap (P := P) (w := w) (base := base) T) gd (hr.mono (by decide)) (by rfl) T.f_l_tap.gl T.f_l_tap.fn.kp T.f_l_tap.bd (takes_of rfl rfl rfl rfl) (qa_cons (qv 0) (qa_cons (q_op qo_add (qv 2) q_int) qa_nil))) qa_nil) (qgn 4 sc_l_some_looks.nd) (qss_cons (qset 5 (q_lst (qa_cons q_int (qa_cons q_int (qa_cons q_int (qa_cons q_int (qa_cons q_int (qa_cons q_int (qa_cons q_int (qa_cons q_int (qa_cons q_int (qa_cons q_int (qa_cons q_int (qa_cons q_int (qa_cons q_int (qa_cons q_int (qa_cons q_int (qa_cons q_int (qa_cons q_int (qa_cons q_int (qa_cons q_int (qa_cons q_int (qa_cons q_int (qa_cons q_int (qa_cons q_int (qa_cons q_int (qa_cons q_int (qa_cons q_int qa_nil))))))))))))))))))))))))))) sc_l_some_looks.nd)
    (qss_cons (qset 6 (q_call (ok_l_of (P := P) (w := w) (base := base) T) gd (hr.mono (by decide)) (by rfl) T.f_l_of.gl T.f_l_of.fn.kp T.f_l_of.bd (takes_of rfl rfl rfl rfl) (qa_cons (qv 0) (qa_cons (qv 5) qa_nil))) sc_l_some_looks.nd)
    (qss_cons (qset 7 (q_call (ok_l_splits (P := P) (w := w) (base := base) T) gd (hr.mono (by decide)) (by rfl) T.f_l_splits.gl T.f_l_splits.fn.kp T.f_l_splits.bd (takes_of rfl rfl rfl rfl) (qa_cons (qv 1) (qa_cons (qv 6) qa_nil))) sc_l_some_looks.nd)
    (qss_one (qs_expr (q_app (qv 3) (q_tup (qa_cons (qv 6) (qa_cons (q_if (qt_cmp qo_gt (q_call (ok_l_tap (P := P) (w := w) (base := base) T) gd (hr.mono (by decide)) (by rfl) T.f_l_tap.gl T.f_l_tap.fn.kp T.f_l_tap.bd (takes_of rfl rfl rfl rfl) (qa_cons (qv 0) (qa_cons q_int qa_nil))) q_int (nomark _)) (qv 7) (q_not (qv 7))) qa_nil))))))))))
    (qss_one (qs_ret (q_callTy qb_tuple (by rfl) T.b_tuple bt_tuple (qa_cons (qv 3) qa_nil))))))) vc_l_some_looks
theorem ok_l_some_kind (T : Tx K mg) : FnG P w K mg base 3 T.f_l_some_kind.a T.f_l_some_kind.fd ["_law_keg"] (spOf K sp_l_some_kind) :=
  defD (ws := W_l_some_kind) T.f_l_some_kind.fn sc_l_some_kind len_l_some_kind (fun cdv A outer s H E gd hr =>
    (qss_cons (qset 1 (q_call (ok_l_of (P := P) (w := w) (base := base) T) gd (hr.mono (by decide)) (by rfl) T.f_l_of.gl T.f_l_of.fn.kp T.f_l_of.bd (takes_of rfl rfl rfl rfl) (qa_cons (qv 0) (qa_cons (q_lst (qa_cons q_int (qa_cons (q_neg q_int) qa_nil))) qa_nil))) sc_l_some_kind.nd)
    (qss_cons (qs_if (qt_cmp (qo_eq hr.units) (q_call (ok_l_tap (P := P) (w := w) (base := base) T) gd (hr.mono (by decide)) (by rfl) T.f_l_tap.gl T.f_l_tap.fn.kp T.f_l_tap.bd (takes_of rfl rfl rfl rfl) (qa_cons (qv 0) (qa_cons q_int qa_nil))) q_int (nomark _)) (qss_one (qs_ret (q_tup (qa_cons (qv 1) (qa_cons q_str (qa_cons q_bl qa_nil)))))) qss_nil)
    (qss_cons (qset 2 (q_if (qt_cmp qo_gt (qv 1) q_int (nomark _)) (q_lst (qa_cons q_int (qa_cons q_int (qa_cons q_int (qa_cons q_int (qa_cons q_int (qa_cons q_int qa_nil))))))) (q_lst (qa_cons q_int (qa_cons q_int (qa_cons q_int (qa_cons q_int (qa_cons q_int qa_nil))))))) sc_l_some_kind.nd)
    (qss_cons (qset 3 (q_callTy qb_tuple (by rfl) T.b_tuple bt_tuple (qa_cons (qe_lcL (i := 4) rfl sc_l_some_kind.nd (qv 2) (blkOk_by (own := [("_law_prime", 4)]) (N := ["_law_keg", "_law_sign", "_law_pool", "_law_primes_now", "_law_prime"]) (sc := defScope s_l_some_kind) (by decide +kernel)) (fun _ _ _ _ _ => pg_name (i := 4) sc_l_some_kind.nd rfl (by first | exact Or.inl rfl | exact Or.inr rfl)) (fun _ _ _ _ _ => (qts_one (qt_cmp (qo_eq hr.units) (q_call (ok_l_tap (P := P) (w := w) (base := base) T) gd (hr.mono (by decide)) (by rfl) T.f_l_tap.gl T.f_l_tap.fn.kp T.f_l_tap.bd takes0 (qa_cons (qv 0) (qa_cons q_int qa_nil))) q_int (nomark _)))) (fun _ _ _ _ _ => (qv 4))) qa_nil)) sc_l_some_kind.nd)
    (qss_one (qs_ret (q_tup (qa_cons (qv 1) (qa_cons (qv 3) (qa_cons (q_and (q_cmp qo_lt (qv 1) q_int (nomark _)) (q_one (q_cmp (qo_eq hr.units) (q_call (ok_l_tap (P := P) (w := w) (base := base) T) gd (hr.mono (by decide)) (by rfl) T.f_l_tap.gl T.f_l_tap.fn.kp T.f_l_tap.bd (takes_of rfl rfl rfl rfl) (qa_cons (qv 0) (qa_cons q_int qa_nil))) q_int (nomark _)))) qa_nil))))))))))) vc_l_some_kind
theorem ok_l_all_kinds (T : Tx K mg) : FnG P w K mg base 1 T.f_l_all_kinds.a T.f_l_all_kinds.fd ["_law_primes_now"] (spOf K sp_l_all_kinds) :=
  defD (ws := W_l_all_kinds) T.f_l_all_kinds.fn sc_l_all_kinds len_l_all_kinds (fun cdv A outer s H E gd hr =>
    (qss_cons (qset 1 (q_lst (qa_cons (q_tup (qa_cons q_int (qa_cons q_str (qa_cons q_bl qa_nil)))) (qa_cons (q_tup (qa_cons (q_neg q_int) (qa_cons q_str (qa_cons q_bl qa_nil)))) qa_nil))) sc_l_all_kinds.nd)
    (qss_cons (qset 2 (q_lst (qa_cons (q_tup qa_nil) qa_nil)) sc_l_all_kinds.nd)
    (qss_cons (qs_forL (passes_of rfl) rfl (qv 0) (qgn 3 sc_l_all_kinds.nd) (qss_one (qset 2 (q_op qo_add (qv 2) (qe_lcL (i := 4) rfl sc_l_all_kinds.nd (qv 2) (blkOk_by (own := [("_law_lot", 4)]) (N := ["_law_primes_now", "_law_found", "_law_lots", "_law_prime", "_law_lot"]) (sc := defScope s_l_all_kinds) (by decide +kernel)) (fun _ _ _ _ _ => pg_name (i := 4) sc_l_all_kinds.nd rfl (by first | exact Or.inl rfl | exact Or.inr rfl)) (fun _ _ _ _ _ => qts_nil) (fun _ _ _ _ _ => (q_op qo_addT (qv 4) (q_tup (qa_cons (qv 3) qa_nil)))))) sc_l_all_kinds.nd)))
    (qss_cons (qs_forL (passes_of rfl) rfl (qv 2) (qgn 4 sc_l_all_kinds.nd) (qss_cons (qs_expr (q_app (qv 1) (q_tup (qa_cons q_int (qa_cons (qv 4) (qa_cons q_bl qa_nil))))))
    (qss_one (qs_if (qt_cmp qo_notInI q_int (qv 4) (by rfl)) (qss_one (qset 1 (q_op qo_add (qv 1) (q_lst (qa_cons (q_tup (qa_cons (q_neg q_int) (qa_cons (qv 4) (qa_cons q_bl qa_nil)))) (qa_cons (q_tup (qa_cons (q_neg q_int) (qa_cons (qv 4) (qa_cons q_bl qa_nil)))) qa_nil)))) sc_l_all_kinds.nd)) qss_nil))))
    (qss_one (qs_ret (qv 1)))))))) vc_l_all_kinds
theorem ok_l_fitting (T : Tx K mg) : FnG P w K mg base 3 T.f_l_fitting.a T.f_l_fitting.fd ["_law_looks_now", "_law_primes_now"] (spOf K sp_l_fitting) :=
  defD (ws := W_l_fitting) T.f_l_fitting.fn sc_l_fitting len_l_fitting (fun cdv A outer s H E gd hr =>
    (qss_cons (qset 2 (q_lst qa_nil) sc_l_fitting.nd)
    (qss_cons (qs_forL (passes_of rfl) rfl (q_call (ok_l_all_kinds (P := P) (w := w) (base := base) T) gd (hr.mono (by decide)) (by rfl) T.f_l_all_kinds.gl T.f_l_all_kinds.fn.kp T.f_l_all_kinds.bd (takes_of rfl rfl rfl rfl) (qa_cons (qv 1) qa_nil)) (qgn 3 sc_l_fitting.nd) (qss_one (qs_if (qt_truth (q_callB (qb_all rfl) (by rfl) T.b_all bt_all (qa_cons (qe_lcLT (is := [4, 5]) rfl sc_l_fitting.nd (qv 0) (blkOk_by (own := [("_law_nth", 4), ("_law_truth", 5)]) (N := ["_law_looks_now", "_law_primes_now", "_law_found", "_law_each", "_law_nth", "_law_truth"]) (sc := defScope s_l_fitting) (by decide +kernel)) (fun _ _ _ _ _ => (TNs.cons (pg_name (i := 4) sc_l_fitting.nd rfl (Or.inl rfl)) (TNs.cons (pg_name (i := 5) sc_l_fitting.nd rfl (Or.inl rfl)) TNs.nil))) (fun _ _ _ _ _ => qts_nil) (fun _ _ _ _ _ => (q_cmp (qo_eq hr.units) (q_call (ok_l_splits (P := P) (w := w) (base := base) T) gd (hr.mono (by decide)) (by rfl) T.f_l_splits.gl T.f_l_splits.fn.kp T.f_l_splits.bd takes0 (qa_cons (qv 3) (qa_cons (qv 4) qa_nil))) (qv 5) (nomark _))) (by decide) (by decide)) qa_nil))) (qss_one (qs_expr (q_app (qv 2) (qv 3)))) qss_nil)))
    (qss_one (qs_ret (qv 2)))))) vc_l_fitting
theorem ok_check_degree (T : Tx K mg) : FnG P w K mg base 2 T.f_check_degree.a T.f_check_degree.fd ["n", "least", "most"] (spOf K sp_check_degree) :=
  defDf (ws := W_check_degree) T.f_check_degree.fn sc_check_degree len_check_degree (fun cdv A outer s H E gd hr =>
    (qss_one (qs_if (qt_not (qt_truth (q_call (ok_is_between (P := P) (w := w) (base := base) T) gd (hr.mono (by decide)) (by rfl) T.f_is_between.gl T.f_is_between.fn.kp T.f_is_between.bd (takes_of rfl rfl rfl rfl) (qa_cons (qv 0) (qa_cons (qv 1) (qa_cons (qv 2) qa_nil)))))) (qss_one qs_never) qss_nil))) vc_check_degree
theorem ok_are_primes (T : Tx K mg) : FnG P w K mg base 3 T.f_are_primes.a T.f_are_primes.fd ["values"] (spOf K sp_are_primes) :=
  defD (ws := W_are_primes) T.f_are_primes.fn sc_are_primes len_are_primes (fun cdv A outer s H E gd hr =>
    (qss_cons (qs_if (qt_not (qt_truth (q_callB (qb_isi "tuple") (by rfl) T.b_isinstance bt_isinstance (qa_cons (qv 0) (qa_cons (q_bltTy (by rfl) T.b_tuple bt_tuple) qa_nil))))) (qss_one (qs_ret q_bl)) qss_nil)
    (qss_cons (qset 1 q_int sc_are_primes.nd)
    (qss_cons (qs_forL (passes_of rfl) rfl (qv 0) (qgn 2 sc_are_primes.nd) (qss_cons (qs_if (qt_bool (qw_or (qt_not (qt_truth (q_call (ok_is_between (P := P) (w := w) (base := base) T) gd (hr.mono (by decide)) (by rfl) T.f_is_between.gl T.f_is_between.fn.kp T.f_is_between.bd (takes_of rfl rfl rfl rfl) (qa_cons (qv 2) (qa_cons (q_op qo_add (qv 1) q_int) (qa_cons (q_globI (by rfl) T.c_MOST_PRIME) qa_nil)))))) (qw_or1 (qt_cmp (qo_ne hr.units) (q_call (ok_primes_of (P := P) (w := w) (base := base) T) gd (hr.mono (by decide)) (by rfl) T.f_primes_of.gl T.f_primes_of.fn.kp T.f_primes_of.bd (takes_of rfl rfl rfl rfl) (qa_cons (qv 2) qa_nil)) (q_lst (qa_cons (qv 2) qa_nil)) (nomark _))))) (qss_one (qs_ret q_bl)) qss_nil)
    (qss_one (qset 1 (qv 2) sc_are_primes.nd))))
    (qss_one (qs_ret q_bl)))))) vc_are_primes
theorem ok_is_sign (T : Tx K mg) : FnG P w K mg base 2 T.f_is_sign.a T.f_is_sign.fd ["value"] (spOf K sp_is_sign) :=
  defD (ws := W_is_sign) T.f_is_sign.fn sc_is_sign len_is_sign (fun cdv A outer s H E gd hr =>
    (qss_one (qs_ret (q_and (q_call (ok_is_between (P := P) (w := w) (base := base) T) gd (hr.mono (by decide)) (by rfl) T.f_is_between.gl T.f_is_between.fn.kp T.f_is_between.bd (takes_of rfl rfl rfl rfl) (qa_cons (qv 0) (qa_cons (q_neg q_int) (qa_cons q_int qa_nil)))) (q_one (q_cmp (qo_ne hr.units) (qv 0) q_int (nomark _))))))) vc_is_sign
theorem ok_is_kind (T : Tx K mg) : FnG P w K mg base 4 T.f_is_kind.a T.f_is_kind.fd ["value"] (spOf K sp_is_kind) :=
  defD (ws := W_is_kind) T.f_is_kind.fn sc_is_kind len_is_kind (fun cdv A outer s H E gd hr =>
    (qss_cons (qs_if (qt_bool (qw_or (qt_not (qt_truth (q_callB (qb_isi "tuple") (by rfl) T.b_isinstance bt_isinstance (qa_cons (qv 0) (qa_cons (q_bltTy (by rfl) T.b_tuple bt_tuple) qa_nil))))) (qw_or1 (qt_cmp (qo_ne hr.units) (q_callB qb_len (by rfl) T.b_len bt_len (qa_cons (qv 0) qa_nil)) q_int (nomark _))))) (qss_one (qs_ret q_bl)) qss_nil)
    (qss_cons (qs_asg (qv 0) (qg_tup rfl (qgs_cons (qgn 1 sc_is_kind.nd) (qgs_cons (qgn 2 sc_is_kind.nd) (qgs_cons (qgn 3 sc_is_kind.nd) qgs_nil)))))
    (qss_cons (qs_if (qt_bool (qw_or (qt_not (qt_truth (q_call (ok_is_sign (P := P) (w := w) (base := base) T) gd (hr.mono (by decide)) (by rfl) T.f_is_sign.gl T.f_is_sign.fn.kp T.f_is_sign.bd (takes_of rfl rfl rfl rfl) (qa_cons (qv 1) qa_nil)))) (qw_or1 (qt_not (qt_truth (q_callB (qb_isi "bool") (by rfl) T.b_isinstance bt_isinstance (qa_cons (qv 3) (qa_cons (q_bltTy (by rfl) T.b_bool bt_bool) qa_nil)))))))) (qss_one (qs_ret q_bl)) qss_nil)
    (qss_cons (qs_if (qt_bool (qw_and (qt_cmp (qo_eq hr.units) (qv 1) q_int (nomark _)) (qw_and1 (qt_truth (qv 3))))) (qss_one (qs_ret q_bl)) qss_nil)
    (qss_cons (qs_if (qt_truth (q_callB (qb_isi "str") (by rfl) T.b_isinstance bt_isinstance (qa_cons (qv 2) (qa_cons (q_bltTy (by rfl) T.b_str bt_str) qa_nil)))) (qss_one (qs_ret (q_and (q_cmp (qo_eq hr.units) (qv 2) q_str (nomark _)) (q_one (q_not (qv 3)))))) qss_nil)
    (qss_one (qs_ret (q_and (q_call (ok_are_primes (P := P) (w := w) (base := base) T) gd (hr.mono (by decide)) (by rfl) T.f_are_primes.gl T.f_are_primes.fn.kp T.f_are_primes.bd (takes_of rfl rfl rfl rfl) (qa_cons (qv 2) qa_nil)) (q_one (q_or (q_cmp (qo_eq hr.units) (qv 1) q_int (nomark _)) (q_one (q_cmp qo_notInI q_int (qv 2) (by rfl)))))))))))))) vc_is_kind
theorem ok_odd_part (T : Tx K mg) : FnG P w K mg base 1 T.f_odd_part.a T.f_odd_part.fd ["n"] (spOf K sp_odd_part) :=
  defD (ws := W_odd_part) T.f_odd_part.fn sc_odd_part len_odd_part (fun cdv A outer s H E gd hr =>
    (qss_one (qs_ret (q_op qo_div (qv 0) (q_op qo_band (qv 0) (q_neg (qv 0))))))) vc_odd_part
theorem ok_splits_by (T : Tx K mg) : FnG P w K mg base 5 T.f_splits_by.a T.f_splits_by.fd ["kind", "n"] (spOf K sp_splits_by) :=
  defD (ws := W_splits_by) T.f_splits_by.fn sc_splits_by len_splits_by (fun cdv A outer s H E gd hr =>
    (qss_cons (qs_if (qt_not (qt_truth (q_call (ok_is_kind (P := P) (w := w) (base := base) T) gd (hr.mono (by decide)) (by rfl) T.f_is_kind.gl T.f_is_kind.fn.kp T.f_is_kind.bd (takes_of rfl rfl rfl rfl) (qa_cons (qv 0) qa_nil)))) (qss_one qs_never) qss_nil)
    (qss_cons (qs_expr (q_callD (ok_check_degree (P := P) (w := w) (base := base) T) gd (hr.mono (by decide)) (by rfl) T.f_check_degree.gl T.f_check_degree.fn.kp (bd_check_degree_3 T.f_check_degree.fn) (takes_of rfl rfl rfl rfl) (qa_cons (qv 1) (qa_cons q_int (qa_cons (q_globI (by rfl) T.c_MOST_LOOKED) qa_nil)))))
    (qss_cons (qs_asg (qv 0) (qg_tup rfl (qgs_cons (qgn 2 sc_splits_by.nd) (qgs_cons (qgn 3 sc_splits_by.nd) (qgs_cons (qgn 4 sc_splits_by.nd) qgs_nil)))))
    (qss_cons (qs_if (qt_cmp (qo_eq hr.units) (qv 3) q_str (nomark _)) (qss_one (qs_ret (q_if (qt_cmp (qo_eq hr.units) (qv 2) q_int (nomark _)) (q_cmp qo_gt (qv 1) q_int (nomark _)) (q_cmp qo_gt (q_call (ok_odd_part (P := P) (w := w) (base := base) T) gd (hr.mono (by decide)) (by rfl) T.f_odd_part.gl T.f_odd_part.fn.kp T.f_odd_part.bd (takes_of rfl rfl rfl rfl) (qa_cons (qv 1) qa_nil)) q_int (nomark _))))) qss_nil)
    (qss_cons (qs_if (qt_bool (qw_and (qt_truth (qv 4)) (qw_and1 (qt_cmp (qo_eq hr.units) (q_op qo_mod (qv 1) q_int) q_int (nomark _))))) (qss_one (qs_ret q_bl)) qss_nil)
    (qss_one (qs_ret (q_callB (qb_any rfl) (by rfl) T.b_any bt_any (qa_cons (qe_lcL (i := 5) rfl sc_splits_by.nd (qv 3) (blkOk_by (own := [("prime", 5)]) (N := ["kind", "n", "sign", "primes", "is_four", "prime"]) (sc := defScope s_splits_by) (by decide +kernel)) (fun _ _ _ _ _ => pg_name (i := 5) sc_splits_by.nd rfl (by first | exact Or.inl rfl | exact Or.inr rfl)) (fun _ _ _ _ _ => qts_nil) (fun _ _ _ _ _ => (q_cmp (qo_eq hr.units) (q_op qo_mod (qv 1) (qv 5)) q_int (nomark _)))) qa_nil)))))))))) vc_splits_by
theorem ok_l_right (T : Tx K mg) : FnG P w K mg base 6 T.f_l_right.a T.f_l_right.fd ["_law_keg"] (spOf K sp_l_right) :=
  defD (ws := W_l_right) T.f_l_right.fn sc_l_right len_l_right (fun cdv A outer s H E gd hr =>
    (qss_cons (qs_forR1 (passes_of rfl) rfl (by rfl) T.b_range (qa_cons q_int qa_nil) (qgn 1 sc_l_right.nd) (qss_cons (qset 2 (q_call (ok_l_some_looks (P := P) (w := w) (base := base) T) gd (hr.mono (by decide)) (by rfl) T.f_l_some_looks.gl T.f_l_some_looks.fn.kp T.f_l_some_looks.bd (takes_of rfl rfl rfl rfl) (qa_cons (qv 0) (qa_cons (q_call (ok_l_some_kind (P := P) (w := w) (base := base) T) gd (hr.mono (by decide)) (by rfl) T.f_l_some_kind.gl T.f_l_some_kind.fn.kp T.f_l_some_kind.bd (takes_of rfl rfl rfl rfl) (qa_cons (qv 0) qa_nil)) (qa_cons q_int qa_nil)))) sc_l_right.nd)
    (qss_cons (qset 3 (q_call (ok_kind_for (P := P) (w := w) (base := base) T) gd (hr.mono (by decide)) (by rfl) T.f_kind_for.gl T.f_kind_for.fn.kp T.f_kind_for.bd (takes_of rfl rfl rfl rfl) (qa_cons (qv 2) qa_nil)) sc_l_right.nd)
    (qss_cons (qs_if (qt_cmp (qo_ne hr.units) (q_callB (qb_repr gd hr.units) (by rfl) T.b_repr bt_repr (qa_cons (q_callK0 (ks := ["looks"]) (g := g0_0) (ok_kind_for (P := P) (w := w) (base := base) T) gd (hr.mono (by decide)) (by rfl) T.f_kind_for.gl T.f_kind_for.fn.kp (kb_kind_for_g0_0l T.f_kind_for.fn) gall_g0_0 (takes_of rfl rfl rfl rfl) (qk_cons (qv 2) qk_nil)) qa_nil)) (q_callB (qb_repr gd hr.units) (by rfl) T.b_repr bt_repr (qa_cons (qv 3) qa_nil)) (nomark _)) (qss_one (qs_ret q_bl)) qss_nil)
    (qss_one (qs_if (qt_cmp qo_isN (qv 3) q_non (nomark _)) (qss_one (qs_if (qt_cmp (qo_ne hr.units) (q_call (ok_l_fitting (P := P) (w := w) (base := base) T) gd (hr.mono (by decide)) (by rfl) T.f_l_fitting.gl T.f_l_fitting.fn.kp T.f_l_fitting.bd (takes_of rfl rfl rfl rfl) (qa_cons (qv 2) (qa_cons (q_lst (qa_cons q_int (qa_cons q_int (qa_cons q_int (qa_cons q_int qa_nil))))) qa_nil))) (q_lst qa_nil) (nomark _)) (qss_one (qs_ret q_bl)) qss_nil)) (qss_cons (qs_if (qt_not (qt_truth (q_call (ok_l_is_kind (P := P) (w := w) (base := base) T) gd (hr.mono (by decide)) (by rfl) T.f_l_is_kind.gl T.f_l_is_kind.fn.kp T.f_l_is_kind.bd (takes_of rfl rfl rfl rfl) (qa_cons (qv 3) qa_nil)))) (qss_one (qs_ret q_bl)) qss_nil)
    (qss_cons (qs_if (qt_not (qt_truth (q_callB (qb_all rfl) (by rfl) T.b_all bt_all (qa_cons (qe_lcLT (is := [4, 5]) rfl sc_l_right.nd (qv 2) (blkOk_by (own := [("_law_nth", 4), ("_law_truth", 5)]) (N := ["_law_keg", "_law_again", "_law_looks_now", "_law_told", "_law_nth", "_law_truth"]) (sc := defScope s_l_right) (by decide +kernel)) (fun _ _ _ _ _ => (TNs.cons (pg_name (i := 4) sc_l_right.nd rfl (Or.inl rfl)) (TNs.cons (pg_name (i := 5) sc_l_right.nd rfl (Or.inl rfl)) TNs.nil))) (fun _ _ _ _ _ => qts_nil) (fun _ _ _ _ _ => (q_cmp (qo_eq hr.units) (q_call (ok_l_splits (P := P) (w := w) (base := base) T) gd (hr.mono (by decide)) (by rfl) T.f_l_splits.gl T.f_l_splits.fn.kp T.f_l_splits.bd takes0 (qa_cons (qv 3) (qa_cons (qv 4) qa_nil))) (qv 5) (nomark _))) (by decide) (by decide)) qa_nil)))) (qss_one (qs_ret q_bl)) qss_nil)
    (qss_one (qs_if (qt_not (qt_truth (q_callB (qb_all rfl) (by rfl) T.b_all bt_all (qa_cons (qe_lcLT (is := [4, 5]) rfl sc_l_right.nd (qv 2) (blkOk_by (own := [("_law_nth", 4), ("_law_truth", 5)]) (N := ["_law_keg", "_law_again", "_law_looks_now", "_law_told", "_law_nth", "_law_truth"]) (sc := defScope s_l_right) (by decide +kernel)) (fun _ _ _ _ _ => (TNs.cons (pg_name (i := 4) sc_l_right.nd rfl (Or.inl rfl)) (TNs.cons (pg_name (i := 5) sc_l_right.nd rfl (Or.inl rfl)) TNs.nil))) (fun _ _ _ _ _ => qts_nil) (fun _ _ _ _ _ => (q_cmp (qo_eq hr.units) (q_callB (qb_repr gd hr.units) (by rfl) T.b_repr bt_repr (qa_cons (q_call (ok_splits_by (P := P) (w := w) (base := base) T) gd (hr.mono (by decide)) (by rfl) T.f_splits_by.gl T.f_splits_by.fn.kp T.f_splits_by.bd takes0 (qa_cons (qv 3) (qa_cons (qv 4) qa_nil))) qa_nil)) (q_callB (qb_repr gd hr.units) (by rfl) T.b_repr bt_repr (qa_cons (qv 5) qa_nil)) (nomark _))) (by decide) (by decide)) qa_nil)))) (qss_one (qs_ret q_bl)) qss_nil))))))))))
    (qss_one (qs_ret q_bl)))) vc_l_right
theorem ok_l_open (T : Tx K mg) : FnG P w K mg base 1 T.f_l_open.a T.f_l_open.fd ["_law_script", "_law_k"] (spOf K sp_l_open) :=
  defD (ws := W_l_open) T.f_l_open.fn sc_l_open len_l_open (fun cdv A outer s H E gd hr =>
    (qss_cons (qset 2 (q_if (qt_cmp qo_lt (qv 1) (q_callB qb_len (by rfl) T.b_len bt_len (qa_cons (qv 0) qa_nil)) (nomark _)) (q_callTy qb_int (by rfl) T.b_int bt_int (qa_cons (q_ix (qv 0) (qv 1) (fun _ _ => rfl)) qa_nil)) (q_op qo_add (q_op qo_mul q_int (qv 1)) q_int)) sc_l_open.nd)
    (qss_cons (qset 3 (q_op qo_add q_int (q_op qo_mul q_int (qv 1))) sc_l_open.nd)
    (qss_cons (qs_forL (passes_of rfl) rfl (q_sliceL (qv 0) qp_none (qp_some q_int)) (qgn 4 sc_l_open.nd) (qss_one (qset 3 (q_op qo_mod (q_callTy qb_int (by rfl) T.b_int bt_int (qa_cons (q_op qo_add (q_op qo_mul (qv 3) q_int) (q_callTy qb_int (by rfl) T.b_int bt_int (qa_cons (qv 4) qa_nil))) qa_nil)) q_int) sc_l_open.nd)))
    (qss_one (qs_ret (q_lst (qa_cons (q_if (qt_bool (qw_or (qt_cmp qo_lt (qv 2) q_int (nomark _)) (qw_or1 (qt_cmp qo_ge (qv 2) (q_op qo_pow q_int q_int) (nomark _))))) (q_callB qb_abs (by rfl) T.b_abs bt_abs (qa_cons (qv 2) qa_nil)) q_int) (qa_cons (q_op qo_mod (q_callTy qb_int (by rfl) T.b_int bt_int (qa_cons (q_op qo_add (q_op qo_mul (qv 3) q_int) (qv 2)) qa_nil)) q_int) (qa_cons q_int qa_nil)))))))))) vc_l_open
theorem ok_law (T : Tx K mg) : FnG P w K mg base 7 T.f_law.a T.f_law.fd ["_law_script"] (spOf K sp_law) :=
  defD (ws := W_law) T.f_law.fn sc_law len_law (fun cdv A outer s H E gd hr =>
    (qss_cons (qs_if (qt_not (qt_truth (q_call0 (ok_l_by_hand (P := P) (w := w) (base := base) T) gd (hr.mono (by decide)) (by rfl) T.f_l_by_hand.gl T.f_l_by_hand.fn.kp T.f_l_by_hand.bd (takes_of rfl rfl rfl rfl)))) (qss_one (qs_ret q_bl)) qss_nil)
    (qss_one (qs_ret (q_callB (qb_all rfl) (by rfl) T.b_all bt_all (qa_cons (qe_lcR (i := 1) rfl sc_law.nd (by rfl) T.b_range (qa_cons (q_callB (qb_max rfl) (by rfl) T.b_max bt_max (qa_cons q_int (qa_cons (q_callB (qb_min rfl) (by rfl) T.b_min bt_min (qa_cons (q_callB qb_len (by rfl) T.b_len bt_len (qa_cons (qv 0) qa_nil)) (qa_cons q_int qa_nil))) qa_nil))) qa_nil) (blkOk_by (own := [("_law_k", 1)]) (N := ["_law_script", "_law_k"]) (sc := defScope s_law) (by decide +kernel)) (fun _ _ _ _ _ => pg_name (i := 1) sc_law.nd rfl (by first | exact Or.inl rfl | exact Or.inr rfl)) (fun _ _ _ _ _ => qts_nil) (fun _ _ _ _ _ => (q_call (ok_l_right (P := P) (w := w) (base := base) T) gd (hr.mono (by decide)) (by rfl) T.f_l_right.gl T.f_l_right.fn.kp T.f_l_right.bd takes0 (qa_cons (q_call (ok_l_open (P := P) (w := w) (base := base) T) gd (hr.mono (by decide)) (by rfl) T.f_l_open.gl T.f_l_open.fn.kp T.f_l_open.bd takes0 (qa_cons (qv 0) (qa_cons (qv 1) qa_nil))) qa_nil)))) qa_nil)))))) vc_law
end
def tx_of {K : PySem.W.Frag} {h : Heap} {mg : Str → Option Value} (X : K.In h) (G : h.Ns mainGlobals mg) {f0 f1 f2 f3 f4 f5 f6 f7 f8 f9 f10 f11 f12 f13 f14 f15 f16 f17 f18 f19 f20 f21 f22 f23 f24 f25 f26 f27 f28 f29 f30 f31 : Addr}
    {od0 an0 od1 an1 od2 an2 od3 an3 od4 an4 od5 an5 od6 an6 od7 an7 od8 an8 od9 an9 od10 an10 od11 an11 od12 an12 od13 an13 od14 an14 od15 an15 od16 an16 od17 an17 od18 an18 od19 an19 od20 an20 od21 an21 od22 an22 od23 an23 od24 an24 od25 an25 od26 an26 od27 an27 od28 an28 od29 an29 od30 an30 od31 an31 : Option Addr} {sl0 sl1 sl2 sl3 sl4 sl5 sl6 sl7 sl8 sl9 sl10 sl11 sl12 sl13 sl14 sl15 sl16 sl17 sl18 sl19 sl20 sl21 sl22 sl23 sl24 sl25 sl26 sl27 sl28 sl29 sl30 sl31 : Array (Option Value)} {oc0 kV0 dc0 pm0 cd0 ct0 oc1 kV1 dc1 pm1 cd1 ct1 oc2 kV2 dc2 pm2 cd2 ct2 oc3 kV3 dc3 pm3 cd3 ct3 oc4 kV4 dc4 pm4 cd4 ct4 oc5 kV5 dc5 pm5 cd5 ct5 oc6 kV6 dc6 pm6 cd6 ct6 oc7 kV7 dc7 pm7 cd7 ct7 oc8 kV8 dc8 pm8 cd8 ct8 oc9 kV9 dc9 pm9 cd9 ct9 oc10 kV10 dc10 pm10 cd10 ct10 oc11 kV11 dc11 pm11 cd11 ct11 oc12 kV12 dc12 pm12 cd12 ct12 oc13 kV13 dc13 pm13 cd13 ct13 oc14 kV14 dc14 pm14 cd14 ct14 oc15 kV15 dc15 pm15 cd15 ct15 oc16 kV16 dc16 pm16 cd16 ct16 oc17 kV17 dc17 pm17 cd17 ct17 oc18 kV18 dc18 pm18 cd18 ct18 oc19 kV19 dc19 pm19 cd19 ct19 oc20 kV20 dc20 pm20 cd20 ct20 oc21 kV21 dc21 pm21 cd21 ct21 oc22 kV22 dc22 pm22 cd22 ct22 oc23 kV23 dc23 pm23 cd23 ct23 oc24 kV24 dc24 pm24 cd24 ct24 oc25 kV25 dc25 pm25 cd25 ct25 oc26 kV26 dc26 pm26 cd26 ct26 oc27 kV27 dc27 pm27 cd27 ct27 oc28 kV28 dc28 pm28 cd28 ct28 oc29 kV29 dc29 pm29 cd29 ct29 oc30 kV30 dc30 pm30 cd30 ct30 oc31 kV31 dc31 pm31 cd31 ct31 : Value} {t_MOST_SIZE t_MOST_LOOKS t_MOST_LOOKED t_MOST_PRIME : Tok} {dV23 : Value}
    (a0 : PySem.W.nsIn K mainGlobals "is_between" = some (some (.ref f0))) (l0 : K.lookup f0 = some ⟨oc0, od0, .func (PySem.W.fnOf "is_between" "is_between" (defArgs s_is_between) (defBody s_is_between) (defScope s_is_between) .none kV0 dc0 pm0 an0 cd0 ct0), sl0⟩) (c0 : PySem.W.codeIn K cd0 "is_between" = true) (k0 : PySem.W.keepIn K (.ref f0) = true)
    (a1 : PySem.W.nsIn K mainGlobals "_is_look" = some (some (.ref f1))) (l1 : K.lookup f1 = some ⟨oc1, od1, .func (PySem.W.fnOf "_is_look" "_is_look" (defArgs s_is_look) (defBody s_is_look) (defScope s_is_look) .none kV1 dc1 pm1 an1 cd1 ct1), sl1⟩) (c1 : PySem.W.codeIn K cd1 "_is_look" = true) (k1 : PySem.W.keepIn K (.ref f1) = true)
    (a2 : PySem.W.nsIn K mainGlobals "_check_looks" = some (some (.ref f2))) (l2 : K.lookup f2 = some ⟨oc2, od2, .func (PySem.W.fnOf "_check_looks" "_check_looks" (defArgs s_check_looks) (defBody s_check_looks) (defScope s_check_looks) .none kV2 dc2 pm2 an2 cd2 ct2), sl2⟩) (c2 : PySem.W.codeIn K cd2 "_check_looks" = true) (k2 : PySem.W.keepIn K (.ref f2) = true)
    (a3 : PySem.W.nsIn K mainGlobals "_whole_ones" = some (some (.ref f3))) (l3 : K.lookup f3 = some ⟨oc3, od3, .func (PySem.W.fnOf "_whole_ones" "_whole_ones" (defArgs s_whole_ones) (defBody s_whole_ones) (defScope s_whole_ones) .none kV3 dc3 pm3 an3 cd3 ct3), sl3⟩) (c3 : PySem.W.codeIn K cd3 "_whole_ones" = true) (k3 : PySem.W.keepIn K (.ref f3) = true)
    (a4 : PySem.W.nsIn K mainGlobals "least_prime_of" = some (some (.ref f4))) (l4 : K.lookup f4 = some ⟨oc4, od4, .func (PySem.W.fnOf "least_prime_of" "least_prime_of" (defArgs s_least_prime_of) (defBody s_least_prime_of) (defScope s_least_prime_of) .none kV4 dc4 pm4 an4 cd4 ct4), sl4⟩) (c4 : PySem.W.codeIn K cd4 "least_prime_of" = true) (k4 : PySem.W.keepIn K (.ref f4) = true)
    (a5 : PySem.W.nsIn K mainGlobals "primes_of" = some (some (.ref f5))) (l5 : K.lookup f5 = some ⟨oc5, od5, .func (PySem.W.fnOf "primes_of" "primes_of" (defArgs s_primes_of) (defBody s_primes_of) (defScope s_primes_of) .none kV5 dc5 pm5 an5 cd5 ct5), sl5⟩) (c5 : PySem.W.codeIn K cd5 "primes_of" = true) (k5 : PySem.W.keepIn K (.ref f5) = true)
    (a6 : PySem.W.nsIn K mainGlobals "odd_ones" = some (some (.ref f6))) (l6 : K.lookup f6 = some ⟨oc6, od6, .func (PySem.W.fnOf "odd_ones" "odd_ones" (defArgs s_odd_ones) (defBody s_odd_ones) (defScope s_odd_ones) .none kV6 dc6 pm6 an6 cd6 ct6), sl6⟩) (c6 : PySem.W.codeIn K cd6 "odd_ones" = true) (k6 : PySem.W.keepIn K (.ref f6) = true)
    (a7 : PySem.W.nsIn K mainGlobals "steps_below" = some (some (.ref f7))) (l7 : K.lookup f7 = some ⟨oc7, od7, .func (PySem.W.fnOf "steps_below" "steps_below" (defArgs s_steps_below) (defBody s_steps_below) (defScope s_steps_below) .none kV7 dc7 pm7 an7 cd7 ct7), sl7⟩) (c7 : PySem.W.codeIn K cd7 "steps_below" = true) (k7 : PySem.W.keepIn K (.ref f7) = true)
    (a8 : PySem.W.nsIn K mainGlobals "_steps_left" = some (some (.ref f8))) (l8 : K.lookup f8 = some ⟨oc8, od8, .func (PySem.W.fnOf "_steps_left" "_steps_left" (defArgs s_steps_left) (defBody s_steps_left) (defScope s_steps_left) .none kV8 dc8 pm8 an8 cd8 ct8), sl8⟩) (c8 : PySem.W.codeIn K cd8 "_steps_left" = true) (k8 : PySem.W.keepIn K (.ref f8) = true)
    (a9 : PySem.W.nsIn K mainGlobals "_fitting" = some (some (.ref f9))) (l9 : K.lookup f9 = some ⟨oc9, od9, .func (PySem.W.fnOf "_fitting" "_fitting" (defArgs s_fitting) (defBody s_fitting) (defScope s_fitting) .none kV9 dc9 pm9 an9 cd9 ct9), sl9⟩) (c9 : PySem.W.codeIn K cd9 "_fitting" = true) (k9 : PySem.W.keepIn K (.ref f9) = true)
    (a10 : PySem.W.nsIn K mainGlobals "_kind_by" = some (some (.ref f10))) (l10 : K.lookup f10 = some ⟨oc10, od10, .func (PySem.W.fnOf "_kind_by" "_kind_by" (defArgs s_kind_by) (defBody s_kind_by) (defScope s_kind_by) .none kV10 dc10 pm10 an10 cd10 ct10), sl10⟩) (c10 : PySem.W.codeIn K cd10 "_kind_by" = true) (k10 : PySem.W.keepIn K (.ref f10) = true)
    (a11 : PySem.W.nsIn K mainGlobals "kind_for" = some (some (.ref f11))) (l11 : K.lookup f11 = some ⟨oc11, od11, .func (PySem.W.fnOf "kind_for" "kind_for" (defArgs s_kind_for) (defBody s_kind_for) (defScope s_kind_for) .none kV11 dc11 pm11 an11 cd11 ct11), sl11⟩) (c11 : PySem.W.codeIn K cd11 "kind_for" = true) (k11 : PySem.W.keepIn K (.ref f11) = true)
    (a12 : PySem.W.nsIn K mainGlobals "_law_whole" = some (some (.ref f12))) (l12 : K.lookup f12 = some ⟨oc12, od12, .func (PySem.W.fnOf "_law_whole" "_law_whole" (defArgs s_l_whole) (defBody s_l_whole) (defScope s_l_whole) .none kV12 dc12 pm12 an12 cd12 ct12), sl12⟩) (c12 : PySem.W.codeIn K cd12 "_law_whole" = true) (k12 : PySem.W.keepIn K (.ref f12) = true)
    (a13 : PySem.W.nsIn K mainGlobals "_law_primes" = some (some (.ref f13))) (l13 : K.lookup f13 = some ⟨oc13, od13, .func (PySem.W.fnOf "_law_primes" "_law_primes" (defArgs s_l_primes) (defBody s_l_primes) (defScope s_l_primes) .none kV13 dc13 pm13 an13 cd13 ct13), sl13⟩) (c13 : PySem.W.codeIn K cd13 "_law_primes" = true) (k13 : PySem.W.keepIn K (.ref f13) = true)
    (a14 : PySem.W.nsIn K mainGlobals "_law_is_kind" = some (some (.ref f14))) (l14 : K.lookup f14 = some ⟨oc14, od14, .func (PySem.W.fnOf "_law_is_kind" "_law_is_kind" (defArgs s_l_is_kind) (defBody s_l_is_kind) (defScope s_l_is_kind) .none kV14 dc14 pm14 an14 cd14 ct14), sl14⟩) (c14 : PySem.W.codeIn K cd14 "_law_is_kind" = true) (k14 : PySem.W.keepIn K (.ref f14) = true)
    (a15 : PySem.W.nsIn K mainGlobals "_law_splits" = some (some (.ref f15))) (l15 : K.lookup f15 = some ⟨oc15, od15, .func (PySem.W.fnOf "_law_splits" "_law_splits" (defArgs s_l_splits) (defBody s_l_splits) (defScope s_l_splits) .none kV15 dc15 pm15 an15 cd15 ct15), sl15⟩) (c15 : PySem.W.codeIn K cd15 "_law_splits" = true) (k15 : PySem.W.keepIn K (.ref f15) = true)
    (a16 : PySem.W.nsIn K mainGlobals "_law_by_hand" = some (some (.ref f16))) (l16 : K.lookup f16 = some ⟨oc16, od16, .func (PySem.W.fnOf "_law_by_hand" "_law_by_hand" (defArgs s_l_by_hand) (defBody s_l_by_hand) (defScope s_l_by_hand) .none kV16 dc16 pm16 an16 cd16 ct16), sl16⟩) (c16 : PySem.W.codeIn K cd16 "_law_by_hand" = true) (k16 : PySem.W.keepIn K (.ref f16) = true)
    (a17 : PySem.W.nsIn K mainGlobals "_law_tap" = some (some (.ref f17))) (l17 : K.lookup f17 = some ⟨oc17, od17, .func (PySem.W.fnOf "_law_tap" "_law_tap" (defArgs s_l_tap) (defBody s_l_tap) (defScope s_l_tap) .none kV17 dc17 pm17 an17 cd17 ct17), sl17⟩) (c17 : PySem.W.codeIn K cd17 "_law_tap" = true) (k17 : PySem.W.keepIn K (.ref f17) = true)
    (a18 : PySem.W.nsIn K mainGlobals "_law_of" = some (some (.ref f18))) (l18 : K.lookup f18 = some ⟨oc18, od18, .func (PySem.W.fnOf "_law_of" "_law_of" (defArgs s_l_of) (defBody s_l_of) (defScope s_l_of) .none kV18 dc18 pm18 an18 cd18 ct18), sl18⟩) (c18 : PySem.W.codeIn K cd18 "_law_of" = true) (k18 : PySem.W.keepIn K (.ref f18) = true)
    (a19 : PySem.W.nsIn K mainGlobals "_law_some_looks" = some (some (.ref f19))) (l19 : K.lookup f19 = some ⟨oc19, od19, .func (PySem.W.fnOf "_law_some_looks" "_law_some_looks" (defArgs s_l_some_looks) (defBody s_l_some_looks) (defScope s_l_some_looks) .none kV19 dc19 pm19 an19 cd19 ct19), sl19⟩) (c19 : PySem.W.codeIn K cd19 "_law_some_looks" = true) (k19 : PySem.W.keepIn K (.ref f19) = true)
    (a20 : PySem.W.nsIn K mainGlobals "_law_some_kind" = some (some (.ref f20))) (l20 : K.lookup f20 = some ⟨oc20, od20, .func (PySem.W.fnOf "_law_some_kind" "_law_some_kind" (defArgs s_l_some_kind) (defBody s_l_some_kind) (defScope s_l_some_kind) .none kV20 dc20 pm20 an20 cd20 ct20), sl20⟩) (c20 : PySem.W.codeIn K cd20 "_law_some_kind" = true) (k20 : PySem.W.keepIn K (.ref f20) = true)
    (a21 : PySem.W.nsIn K mainGlobals "_law_all_kinds" = some (some (.ref f21))) (l21 : K.lookup f21 = some ⟨oc21, od21, .func (PySem.W.fnOf "_law_all_kinds" "_law_all_kinds" (defArgs s_l_all_kinds) (defBody s_l_all_kinds) (defScope s_l_all_kinds) .none kV21 dc21 pm21 an21 cd21 ct21), sl21⟩) (c21 : PySem.W.codeIn K cd21 "_law_all_kinds" = true) (k21 : PySem.W.keepIn K (.ref f21) = true)
    (a22 : PySem.W.nsIn K mainGlobals "_law_fitting" = some (some (.ref f22))) (l22 : K.lookup f22 = some ⟨oc22, od22, .func (PySem.W.fnOf "_law_fitting" "_law_fitting" (defArgs s_l_fitting) (defBody s_l_fitting) (defScope s_l_fitting) .none kV22 dc22 pm22 an22 cd22 ct22), sl22⟩) (c22 : PySem.W.codeIn K cd22 "_law_fitting" = true) (k22 : PySem.W.keepIn K (.ref f22) = true)
    (a23 : PySem.W.nsIn K mainGlobals "check_degree" = some (some (.ref f23))) (l23 : K.lookup f23 = some ⟨oc23, od23, .func (PySem.W.fnOf "check_degree" "check_degree" (defArgs s_check_degree) (defBody s_check_degree) (defScope s_check_degree) dV23 kV23 dc23 pm23 an23 cd23 ct23), sl23⟩) (c23 : PySem.W.codeIn K cd23 "check_degree" = true) (k23 : PySem.W.keepIn K (.ref f23) = true) (df23 : kD K (.tup dd_check_degree) dV23 = true)
    (a24 : PySem.W.nsIn K mainGlobals "_are_primes" = some (some (.ref f24))) (l24 : K.lookup f24 = some ⟨oc24, od24, .func (PySem.W.fnOf "_are_primes" "_are_primes" (defArgs s_are_primes) (defBody s_are_primes) (defScope s_are_primes) .none kV24 dc24 pm24 an24 cd24 ct24), sl24⟩) (c24 : PySem.W.codeIn K cd24 "_are_primes" = true) (k24 : PySem.W.keepIn K (.ref f24) = true)
    (a25 : PySem.W.nsIn K mainGlobals "is_sign" = some (some (.ref f25))) (l25 : K.lookup f25 = some ⟨oc25, od25, .func (PySem.W.fnOf "is_sign" "is_sign" (defArgs s_is_sign) (defBody s_is_sign) (defScope s_is_sign) .none kV25 dc25 pm25 an25 cd25 ct25), sl25⟩) (c25 : PySem.W.codeIn K cd25 "is_sign" = true) (k25 : PySem.W.keepIn K (.ref f25) = true)
    (a26 : PySem.W.nsIn K mainGlobals "_is_kind" = some (some (.ref f26))) (l26 : K.lookup f26 = some ⟨oc26, od26, .func (PySem.W.fnOf "_is_kind" "_is_kind" (defArgs s_is_kind) (defBody s_is_kind) (defScope s_is_kind) .none kV26 dc26 pm26 an26 cd26 ct26), sl26⟩) (c26 : PySem.W.codeIn K cd26 "_is_kind" = true) (k26 : PySem.W.keepIn K (.ref f26) = true)
    (a27 : PySem.W.nsIn K mainGlobals "odd_part" = some (some (.ref f27))) (l27 : K.lookup f27 = some ⟨oc27, od27, .func (PySem.W.fnOf "odd_part" "odd_part" (defArgs s_odd_part) (defBody s_odd_part) (defScope s_odd_part) .none kV27 dc27 pm27 an27 cd27 ct27), sl27⟩) (c27 : PySem.W.codeIn K cd27 "odd_part" = true) (k27 : PySem.W.keepIn K (.ref f27) = true)
    (a28 : PySem.W.nsIn K mainGlobals "splits_by" = some (some (.ref f28))) (l28 : K.lookup f28 = some ⟨oc28, od28, .func (PySem.W.fnOf "splits_by" "splits_by" (defArgs s_splits_by) (defBody s_splits_by) (defScope s_splits_by) .none kV28 dc28 pm28 an28 cd28 ct28), sl28⟩) (c28 : PySem.W.codeIn K cd28 "splits_by" = true) (k28 : PySem.W.keepIn K (.ref f28) = true)
    (a29 : PySem.W.nsIn K mainGlobals "_law_right" = some (some (.ref f29))) (l29 : K.lookup f29 = some ⟨oc29, od29, .func (PySem.W.fnOf "_law_right" "_law_right" (defArgs s_l_right) (defBody s_l_right) (defScope s_l_right) .none kV29 dc29 pm29 an29 cd29 ct29), sl29⟩) (c29 : PySem.W.codeIn K cd29 "_law_right" = true) (k29 : PySem.W.keepIn K (.ref f29) = true)
    (a30 : PySem.W.nsIn K mainGlobals "_law_open" = some (some (.ref f30))) (l30 : K.lookup f30 = some ⟨oc30, od30, .func (PySem.W.fnOf "_law_open" "_law_open" (defArgs s_l_open) (defBody s_l_open) (defScope s_l_open) .none kV30 dc30 pm30 an30 cd30 ct30), sl30⟩) (c30 : PySem.W.codeIn K cd30 "_law_open" = true) (k30 : PySem.W.keepIn K (.ref f30) = true)
    (a31 : PySem.W.nsIn K mainGlobals "law" = some (some (.ref f31))) (l31 : K.lookup f31 = some ⟨oc31, od31, .func (PySem.W.fnOf "law" "law" (defArgs s_law) (defBody s_law) (defScope s_law) .none kV31 dc31 pm31 an31 cd31 ct31), sl31⟩) (c31 : PySem.W.codeIn K cd31 "law" = true) (k31 : PySem.W.keepIn K (.ref f31) = true)
    (z_abs : PySem.W.nsIn K mainGlobals "abs" = some none)
    (z_all : PySem.W.nsIn K mainGlobals "all" = some none)
    (z_any : PySem.W.nsIn K mainGlobals "any" = some none)
    (z_bool : PySem.W.nsIn K mainGlobals "bool" = some none)
    (z_divmod : PySem.W.nsIn K mainGlobals "divmod" = some none)
    (z_enumerate : PySem.W.nsIn K mainGlobals "enumerate" = some none)
    (z_int : PySem.W.nsIn K mainGlobals "int" = some none)
    (z_isinstance : PySem.W.nsIn K mainGlobals "isinstance" = some none)
    (z_len : PySem.W.nsIn K mainGlobals "len" = some none)
    (z_max : PySem.W.nsIn K mainGlobals "max" = some none)
    (z_min : PySem.W.nsIn K mainGlobals "min" = some none)
    (z_range : PySem.W.nsIn K mainGlobals "range" = some none)
    (z_repr : PySem.W.nsIn K mainGlobals "repr" = some none)
    (z_set : PySem.W.nsIn K mainGlobals "set" = some none)
    (z_sorted : PySem.W.nsIn K mainGlobals "sorted" = some none)
    (z_str : PySem.W.nsIn K mainGlobals "str" = some none)
    (z_tuple : PySem.W.nsIn K mainGlobals "tuple" = some none)
    (y_MOST_SIZE : PySem.W.nsIn K mainGlobals "MOST_SIZE" = some (some (.int c_MOST_SIZE t_MOST_SIZE)))
    (y_MOST_LOOKS : PySem.W.nsIn K mainGlobals "MOST_LOOKS" = some (some (.int c_MOST_LOOKS t_MOST_LOOKS)))
    (y_MOST_LOOKED : PySem.W.nsIn K mainGlobals "MOST_LOOKED" = some (some (.int c_MOST_LOOKED t_MOST_LOOKED)))
    (y_MOST_PRIME : PySem.W.nsIn K mainGlobals "MOST_PRIME" = some (some (.int c_MOST_PRIME t_MOST_PRIME))) : Tx K mg :=
  { f_is_between := ⟨f0, _, fun_mk (st := s_is_between) l0 c0 k0, PySem.W.mg_of X G a0, (fun_mk (st := s_is_between) l0 c0 k0).binds (ps := ["value", "least", "most"]) fun _ _ _ _ _ _ us hl => match us, hl with | [_, _, _], _ => rfl⟩,
    f_is_look := ⟨f1, _, fun_mk (st := s_is_look) l1 c1 k1, PySem.W.mg_of X G a1, (fun_mk (st := s_is_look) l1 c1 k1).binds (ps := ["value"]) fun _ _ _ _ _ _ us hl => match us, hl with | [_], _ => rfl⟩,
    f_check_looks := ⟨f2, _, fun_mk (st := s_check_looks) l2 c2 k2, PySem.W.mg_of X G a2, (fun_mk (st := s_check_looks) l2 c2 k2).binds (ps := ["looks"]) fun _ _ _ _ _ _ us hl => match us, hl with | [_], _ => rfl⟩,
    f_whole_ones := ⟨f3, _, fun_mk (st := s_whole_ones) l3 c3 k3, PySem.W.mg_of X G a3, (fun_mk (st := s_whole_ones) l3 c3 k3).binds (ps := ["looks"]) fun _ _ _ _ _ _ us hl => match us, hl with | [_], _ => rfl⟩,
    f_least_prime_of := ⟨f4, _, fun_mk (st := s_least_prime_of) l4 c4 k4, PySem.W.mg_of X G a4, (fun_mk (st := s_least_prime_of) l4 c4 k4).binds (ps := ["value"]) fun _ _ _ _ _ _ us hl => match us, hl with | [_], _ => rfl⟩,
    f_primes_of := ⟨f5, _, fun_mk (st := s_primes_of) l5 c5 k5, PySem.W.mg_of X G a5, (fun_mk (st := s_primes_of) l5 c5 k5).binds (ps := ["value"]) fun _ _ _ _ _ _ us hl => match us, hl with | [_], _ => rfl⟩,
    f_odd_ones := ⟨f6, _, fun_mk (st := s_odd_ones) l6 c6 k6, PySem.W.mg_of X G a6, (fun_mk (st := s_odd_ones) l6 c6 k6).binds (ps := ["primes"]) fun _ _ _ _ _ _ us hl => match us, hl with | [_], _ => rfl⟩,
    f_steps_below := ⟨f7, _, fun_mk (st := s_steps_below) l7 c7 k7, PySem.W.mg_of X G a7, (fun_mk (st := s_steps_below) l7 c7 k7).binds (ps := ["primes", "is_four"]) fun _ _ _ _ _ _ us hl => match us, hl with | [_, _], _ => rfl⟩,
    f_steps_left := ⟨f8, _, fun_mk (st := s_steps_left) l8 c8 k8, PySem.W.mg_of X G a8, (fun_mk (st := s_steps_left) l8 c8 k8).binds (ps := ["sign", "whole", "n"]) fun _ _ _ _ _ _ us hl => match us, hl with | [_, _, _], _ => rfl⟩,
    f_fitting := ⟨f9, _, fun_mk (st := s_fitting) l9 c9 k9, PySem.W.mg_of X G a9, (fun_mk (st := s_fitting) l9 c9 k9).binds (ps := ["looks"]) fun _ _ _ _ _ _ us hl => match us, hl with | [_], _ => rfl⟩,
    f_kind_by := ⟨f10, _, fun_mk (st := s_kind_by) l10 c10 k10, PySem.W.mg_of X G a10, (fun_mk (st := s_kind_by) l10 c10 k10).binds (ps := ["sign", "steps"]) fun _ _ _ _ _ _ us hl => match us, hl with | [_, _], _ => rfl⟩,
    f_kind_for := ⟨f11, _, fun_mk (st := s_kind_for) l11 c11 k11, PySem.W.mg_of X G a11, (fun_mk (st := s_kind_for) l11 c11 k11).binds (ps := ["looks"]) fun _ _ _ _ _ _ us hl => match us, hl with | [_], _ => rfl⟩,
    f_l_whole := ⟨f12, _, fun_mk (st := s_l_whole) l12 c12 k12, PySem.W.mg_of X G a12, (fun_mk (st := s_l_whole) l12 c12 k12).binds (ps := ["_law_thing", "_law_low", "_law_high"]) fun _ _ _ _ _ _ us hl => match us, hl with | [_, _, _], _ => rfl⟩,
    f_l_primes := ⟨f13, _, fun_mk (st := s_l_primes) l13 c13 k13, PySem.W.mg_of X G a13, (fun_mk (st := s_l_primes) l13 c13 k13).binds (ps := ["_law_value_now"]) fun _ _ _ _ _ _ us hl => match us, hl with | [_], _ => rfl⟩,
    f_l_is_kind := ⟨f14, _, fun_mk (st := s_l_is_kind) l14 c14 k14, PySem.W.mg_of X G a14, (fun_mk (st := s_l_is_kind) l14 c14 k14).binds (ps := ["_law_thing"]) fun _ _ _ _ _ _ us hl => match us, hl with | [_], _ => rfl⟩,
    f_l_splits := ⟨f15, _, fun_mk (st := s_l_splits) l15 c15 k15, PySem.W.mg_of X G a15, (fun_mk (st := s_l_splits) l15 c15 k15).binds (ps := ["_law_kind_now", "_law_nth"]) fun _ _ _ _ _ _ us hl => match us, hl with | [_, _], _ => rfl⟩,
    f_l_by_hand := ⟨f16, _, fun_mk (st := s_l_by_hand) l16 c16 k16, PySem.W.mg_of X G a16, (fun_mk (st := s_l_by_hand) l16 c16 k16).binds (ps := []) fun _ _ _ _ _ _ us hl => match us, hl with | [], _ => rfl⟩,
    f_l_tap := ⟨f17, _, fun_mk (st := s_l_tap) l17 c17 k17, PySem.W.mg_of X G a17, (fun_mk (st := s_l_tap) l17 c17 k17).binds (ps := ["_law_keg", "_law_count_now"]) fun _ _ _ _ _ _ us hl => match us, hl with | [_, _], _ => rfl⟩,
    f_l_of := ⟨f18, _, fun_mk (st := s_l_of) l18 c18 k18, PySem.W.mg_of X G a18, (fun_mk (st := s_l_of) l18 c18 k18).binds (ps := ["_law_keg", "_law_some"]) fun _ _ _ _ _ _ us hl => match us, hl with | [_, _], _ => rfl⟩,
    f_l_some_looks := ⟨f19, _, fun_mk (st := s_l_some_looks) l19 c19 k19, PySem.W.mg_of X G a19, (fun_mk (st := s_l_some_looks) l19 c19 k19).binds (ps := ["_law_keg", "_law_kind_now", "_law_most_now"]) fun _ _ _ _ _ _ us hl => match us, hl with | [_, _, _], _ => rfl⟩,
    f_l_some_kind := ⟨f20, _, fun_mk (st := s_l_some_kind) l20 c20 k20, PySem.W.mg_of X G a20, (fun_mk (st := s_l_some_kind) l20 c20 k20).binds (ps := ["_law_keg"]) fun _ _ _ _ _ _ us hl => match us, hl with | [_], _ => rfl⟩,
    f_l_all_kinds := ⟨f21, _, fun_mk (st := s_l_all_kinds) l21 c21 k21, PySem.W.mg_of X G a21, (fun_mk (st := s_l_all_kinds) l21 c21 k21).binds (ps := ["_law_primes_now"]) fun _ _ _ _ _ _ us hl => match us, hl with | [_], _ => rfl⟩,
    f_l_fitting := ⟨f22, _, fun_mk (st := s_l_fitting) l22 c22 k22, PySem.W.mg_of X G a22, (fun_mk (st := s_l_fitting) l22 c22 k22).binds (ps := ["_law_looks_now", "_law_primes_now"]) fun _ _ _ _ _ _ us hl => match us, hl with | [_, _], _ => rfl⟩,
    f_check_degree := ⟨f23, _, fundf_mk (st := s_check_degree) (dds := dd_check_degree) l23 c23 df23 k23, PySem.W.mg_of X G a23⟩,
    f_are_primes := ⟨f24, _, fun_mk (st := s_are_primes) l24 c24 k24, PySem.W.mg_of X G a24, (fun_mk (st := s_are_primes) l24 c24 k24).binds (ps := ["values"]) fun _ _ _ _ _ _ us hl => match us, hl with | [_], _ => rfl⟩,
    f_is_sign := ⟨f25, _, fun_mk (st := s_is_sign) l25 c25 k25, PySem.W.mg_of X G a25, (fun_mk (st := s_is_sign) l25 c25 k25).binds (ps := ["value"]) fun _ _ _ _ _ _ us hl => match us, hl with | [_], _ => rfl⟩,
    f_is_kind := ⟨f26, _, fun_mk (st := s_is_kind) l26 c26 k26, PySem.W.mg_of X G a26, (fun_mk (st := s_is_kind) l26 c26 k26).binds (ps := ["value"]) fun _ _ _ _ _ _ us hl => match us, hl with | [_], _ => rfl⟩,
    f_odd_part := ⟨f27, _, fun_mk (st := s_odd_part) l27 c27 k27, PySem.W.mg_of X G a27, (fun_mk (st := s_odd_part) l27 c27 k27).binds (ps := ["n"]) fun _ _ _ _ _ _ us hl => match us, hl with | [_], _ => rfl⟩,
    f_splits_by := ⟨f28, _, fun_mk (st := s_splits_by) l28 c28 k28, PySem.W.mg_of X G a28, (fun_mk (st := s_splits_by) l28 c28 k28).binds (ps := ["kind", "n"]) fun _ _ _ _ _ _ us hl => match us, hl with | [_, _], _ => rfl⟩,
    f_l_right := ⟨f29, _, fun_mk (st := s_l_right) l29 c29 k29, PySem.W.mg_of X G a29, (fun_mk (st := s_l_right) l29 c29 k29).binds (ps := ["_law_keg"]) fun _ _ _ _ _ _ us hl => match us, hl with | [_], _ => rfl⟩,
    f_l_open := ⟨f30, _, fun_mk (st := s_l_open) l30 c30 k30, PySem.W.mg_of X G a30, (fun_mk (st := s_l_open) l30 c30 k30).binds (ps := ["_law_script", "_law_k"]) fun _ _ _ _ _ _ us hl => match us, hl with | [_, _], _ => rfl⟩,
    f_law := ⟨f31, _, fun_mk (st := s_law) l31 c31 k31, PySem.W.mg_of X G a31, (fun_mk (st := s_law) l31 c31 k31).binds (ps := ["_law_script"]) fun _ _ _ _ _ _ us hl => match us, hl with | [_], _ => rfl⟩,
    b_abs := PySem.W.mg_none_of X G z_abs,
    b_all := PySem.W.mg_none_of X G z_all,
    b_any := PySem.W.mg_none_of X G z_any,
    b_bool := PySem.W.mg_none_of X G z_bool,
    b_divmod := PySem.W.mg_none_of X G z_divmod,
    b_enumerate := PySem.W.mg_none_of X G z_enumerate,
    b_int := PySem.W.mg_none_of X G z_int,
    b_isinstance := PySem.W.mg_none_of X G z_isinstance,
    b_len := PySem.W.mg_none_of X G z_len,
    b_max := PySem.W.mg_none_of X G z_max,
    b_min := PySem.W.mg_none_of X G z_min,
    b_range := PySem.W.mg_none_of X G z_range,
    b_repr := PySem.W.mg_none_of X G z_repr,
    b_set := PySem.W.mg_none_of X G z_set,
    b_sorted := PySem.W.mg_none_of X G z_sorted,
    b_str := PySem.W.mg_none_of X G z_str,
    b_tuple := PySem.W.mg_none_of X G z_tuple,
    c_MOST_SIZE := PySem.W.mg_of X G y_MOST_SIZE,
    c_MOST_LOOKS := PySem.W.mg_of X G y_MOST_LOOKS,
    c_MOST_LOOKED := PySem.W.mg_of X G y_MOST_LOOKED,
    c_MOST_PRIME := PySem.W.mg_of X G y_MOST_PRIME }
theorem law_fd {K : PySem.W.Frag} {mg : Str → Option Value} (T : Tx K mg) : ∃ fd : FuncData, T.f_law.fd = fd ∧ ∀ (s : Shared) (u : Value), BindsTo s fd ⟨[u], []⟩ [("_law_script", u)] := by
  obtain ⟨oc, od, kV, doc, pm, an, cdv, ct, osl, e, _, _⟩ := T.f_law.fn.ex
  exact ⟨_, e, fun s u => .of_eq rfl⟩
theorem the_end {K : PySem.W.Frag} {h : Heap} {mg : Str → Option Value} {fa : Addr} {P : Program} {w : World} (hfa : mg "law" = some (.ref fa)) (T : Tx K mg) :
    ∃ fd : FuncData, (∀ (s : Shared) (v : Value), BindsTo s fd ⟨[v], []⟩ [("_law_script", v)]) ∧ ∀ base : Heap, K.In base → base.Ns mainGlobals mg → FnG P w K mg base 7 fa fd ["_law_script"] (spOf K (spLawD 63)) := by
  have e := T.f_law.gl.symm.trans hfa
  have e2 : T.f_law.a = fa := by
    cases e
    rfl
  obtain ⟨fd, e3, hb⟩ := law_fd T
  refine ⟨fd, hb, fun base _ _ => ?_⟩
  have q := ok_law (P := P) (w := w) (base := base) T
  rw [e2, e3] at q
  exact q
end HDL
open PySem PySem.W PyProof.Rows
set_option maxHeartbeats 0 in
theorem PySem.Challenge.cw_purepowers_k29_whole_kinds_for_looks_holds : PySem.Challenge.rw_purepowers_k29_whole_kinds_for_looks.Holds := by
  w_on; o_law; k_head; (case hw => w_witness2)
  k_fill
  refine HD.walkD (l := PySem.Challenge.rw_purepowers_k29_whole_kinds_for_looks) (n := 63) (k := 7) (x := "_law_script") rfl (by decide) rfl ⟨rfl, by decide, by decide⟩ (fun w h Y => PySem.W.kIn_of Y) ?F
  case F =>
    intro w mg fa h KX G hmg
    refine' HDL.the_end (h := h) hmg (HDL.tx_of KX G ?a0 ?l0 ?c0 ?k0 ?a1 ?l1 ?c1 ?k1 ?a2 ?l2 ?c2 ?k2 ?a3 ?l3 ?c3 ?k3 ?a4 ?l4 ?c4 ?k4 ?a5 ?l5 ?c5 ?k5 ?a6 ?l6 ?c6 ?k6 ?a7 ?l7 ?c7 ?k7 ?a8 ?l8 ?c8 ?k8 ?a9 ?l9 ?c9 ?k9 ?a10 ?l10 ?c10 ?k10 ?a11 ?l11 ?c11 ?k11 ?a12 ?l12 ?c12 ?k12 ?a13 ?l13 ?c13 ?k13 ?a14 ?l14 ?c14 ?k14 ?a15 ?l15 ?c15 ?k15 ?a16 ?l16 ?c16 ?k16 ?a17 ?l17 ?c17 ?k17 ?a18 ?l18 ?c18 ?k18 ?a19 ?l19 ?c19 ?k19 ?a20 ?l20 ?c20 ?k20 ?a21 ?l21 ?c21 ?k21 ?a22 ?l22 ?c22 ?k22 ?a23 ?l23 ?c23 ?k23 ?df23 ?a24 ?l24 ?c24 ?k24 ?a25 ?l25 ?c25 ?k25 ?a26 ?l26 ?c26 ?k26 ?a27 ?l27 ?c27 ?k27 ?a28 ?l28 ?c28 ?k28 ?a29 ?l29 ?c29 ?k29 ?a30 ?l30 ?c30 ?k30 ?a31 ?l31 ?c31 ?k31 ?z_abs ?z_all ?z_any ?z_bool ?z_divmod ?z_enumerate ?z_int ?z_isinstance ?z_len ?z_max ?z_min ?z_range ?z_repr ?z_set ?z_sorted ?z_str ?z_tuple ?y_MOST_SIZE ?y_MOST_LOOKS ?y_MOST_LOOKED ?y_MOST_PRIME)
    (case a0 => k_is)
    (case l0 => k_is)
    (case c0 => k_is)
    (case k0 => k_is)
    (case a1 => k_is)
    (case l1 => k_is)
    (case c1 => k_is)
    (case k1 => k_is)
    (case a2 => k_is)
    (case l2 => k_is)
    (case c2 => k_is)
    (case k2 => k_is)
    (case a3 => k_is)
    (case l3 => k_is)
    (case c3 => k_is)
    (case k3 => k_is)
    (case a4 => k_is)
    (case l4 => k_is)
    (case c4 => k_is)
    (case k4 => k_is)
    (case a5 => k_is)
    (case l5 => k_is)
    (case c5 => k_is)
    (case k5 => k_is)
    (case a6 => k_is)
    (case l6 => k_is)
    (case c6 => k_is)
    (case k6 => k_is)
    (case a7 => k_is)
    (case l7 => k_is)
    (case c7 => k_is)
    (case k7 => k_is)
    (case a8 => k_is)
    (case l8 => k_is)
    (case c8 => k_is)
    (case k8 => k_is)
    (case a9 => k_is)
    (case l9 => k_is)
    (case c9 => k_is)
    (case k9 => k_is)
    (case a10 => k_is)
    (case l10 => k_is)
    (case c10 => k_is)
    (case k10 => k_is)
    (case a11 => k_is)
    (case l11 => k_is)
    (case c11 => k_is)
    (case k11 => k_is)
    (case a12 => k_is)
    (case l12 => k_is)
    (case c12 => k_is)
    (case k12 => k_is)
    (case a13 => k_is)
    (case l13 => k_is)
    (case c13 => k_is)
    (case k13 => k_is)
    (case a14 => k_is)
    (case l14 => k_is)
    (case c14 => k_is)
    (case k14 => k_is)
    (case a15 => k_is)
    (case l15 => k_is)
    (case c15 => k_is)
    (case k15 => k_is)
    (case a16 => k_is)
    (case l16 => k_is)
    (case c16 => k_is)
    (case k16 => k_is)
    (case a17 => k_is)
    (case l17 => k_is)
    (case c17 => k_is)
    (case k17 => k_is)
    (case a18 => k_is)
    (case l18 => k_is)
    (case c18 => k_is)
    (case k18 => k_is)
    (case a19 => k_is)
    (case l19 => k_is)
    (case c19 => k_is)
    (case k19 => k_is)
    (case a20 => k_is)
    (case l20 => k_is)
    (case c20 => k_is)
    (case k20 => k_is)
    (case a21 => k_is)
    (case l21 => k_is)
    (case c21 => k_is)
    (case k21 => k_is)
    (case a22 => k_is)
    (case l22 => k_is)
    (case c22 => k_is)
    (case k22 => k_is)
    (case a23 => k_is)
    (case l23 => k_is)
    (case c23 => k_is)
    (case k23 => k_is)
    (case df23 => kernel_rfl)
    (case a24 => k_is)
    (case l24 => k_is)
    (case c24 => k_is)
    (case k24 => k_is)
    (case a25 => k_is)
    (case l25 => k_is)
    (case c25 => k_is)
    (case k25 => k_is)
    (case a26 => k_is)
    (case l26 => k_is)
    (case c26 => k_is)
    (case k26 => k_is)
    (case a27 => k_is)
    (case l27 => k_is)
    (case c27 => k_is)
    (case k27 => k_is)
    (case a28 => k_is)
    (case l28 => k_is)
    (case c28 => k_is)
    (case k28 => k_is)
    (case a29 => k_is)
    (case l29 => k_is)
    (case c29 => k_is)
    (case k29 => k_is)
    (case a30 => k_is)
    (case l30 => k_is)
    (case c30 => k_is)
    (case k30 => k_is)
    (case a31 => k_is)
    (case l31 => k_is)
    (case c31 => k_is)
    (case k31 => k_is)
    (case z_abs => k_is)
    (case z_all => k_is)
    (case z_any => k_is)
    (case z_bool => k_is)
    (case z_divmod => k_is)
    (case z_enumerate => k_is)
    (case z_int => k_is)
    (case z_isinstance => k_is)
    (case z_len => k_is)
    (case z_max => k_is)
    (case z_min => k_is)
    (case z_range => k_is)
    (case z_repr => k_is)
    (case z_set => k_is)
    (case z_sorted => k_is)
    (case z_str => k_is)
    (case z_tuple => k_is)
    (case y_MOST_SIZE => k_is)
    (case y_MOST_LOOKS => k_is)
    (case y_MOST_LOOKED => k_is)
    (case y_MOST_PRIME => k_is)
