import PyProof.Rows.All
import Wide.All
import OpenK.AllK
import Wide.FinOn
import HandS.ForMost
import HandS.Evl
import HandS.TupAny
import HandS.TupMul
import HandS.TupLe
import HandS.IsInst
import HandS.DictComp
import HandS.Flow
import HandS.Wide
import HandS.WideBits
import HandS.RevRange
import HandS.Conv
import HandS.Deep
import HandS.Walk
import HandS.Star
import HandS.SortRule
import PyProof.FactsAll.tuple_2
import HandS.Style
import HandS.Defaults
import PyProof.EqAt
import HandS.ForExc
import HandS.ExcIs
import HandS.SetFor
import HandS.ExcInit
import HandS.ExcField
import HandS.HotCalls
import KE.KExcIs
import HandS.Property
import HandS.OwnEq
import PyProof.P3Eq
import HandS.Head0
import HandS.Head1
import HandS.Head2
import HandS.HeadEnd
import HandS.HeadHook1
import HandS.HeadHook2
import PySem.Challenge.RW_onlyflags_k00_error_classes
set_option Elab.async false
set_option linter.all false
set_option maxRecDepth 100000
set_option maxHeartbeats 4000000
namespace Fr
open PySem L2
open Evl (Ex)
/-! # data without addresses -/
inductive Dat where
  | non | bl (b : Bool) | int (i : Int) | str (x : Str) | tup (ds : List Dat) | lst (ds : List Dat) | dic (es : List (List L2.Key × Dat)) | obj (C : Addr) (fs : List (Str × Dat)) | hnd (p : Addr)
mutual
inductive Rep (H : Hp) : V → Dat → Prop where
  | non : Rep H .non .non
  | bl (b : Bool) : Rep H (.bl b) (.bl b)
  | int (i : Int) : Rep H (.int i) (.int i)
  | str (x : Str) : Rep H (.str x) (.str x)
  | tup {a : Addr} {xs : List V} {ds : List Dat} : H a = some (.tup xs) → Reps H xs ds → Rep H (.ref a) (.tup ds)
  | lst {a : Addr} {xs : List V} {ds : List Dat} : H a = some (.lst xs) → Reps H xs ds → Rep H (.ref a) (.lst ds)
  | dic {a : Addr} {kvs : List (List L2.Key × V)} {es : List (List L2.Key × Dat)} : H a = some (.dT kvs) → RepsK H kvs es → Rep H (.ref a) (.dic es)
  | obj {a C dx : Addr} {kvs : List (Str × V)} {fs : List (Str × Dat)} : H a = some (.ins C dx kvs) → RepsF H kvs fs → Rep H (.ref a) (.obj C fs)
  | hnd (p : Addr) : Rep H (.ref p) (.hnd p)
inductive Reps (H : Hp) : List V → List Dat → Prop where
  | nil : Reps H [] []
  | cons {v : V} {d : Dat} {vs : List V} {ds : List Dat} : Rep H v d → Reps H vs ds → Reps H (v :: vs) (d :: ds)
inductive RepsK (H : Hp) : List (List L2.Key × V) → List (List L2.Key × Dat) → Prop where
  | nil : RepsK H [] []
  | cons {k : List L2.Key} {v : V} {d : Dat} {vs : List (List L2.Key × V)} {ds : List (List L2.Key × Dat)} : Rep H v d → RepsK H vs ds → RepsK H ((k, v) :: vs) ((k, d) :: ds)
inductive RepsF (H : Hp) : List (Str × V) → List (Str × Dat) → Prop where
  | nil : RepsF H [] []
  | cons {k : Str} {v : V} {d : Dat} {vs : List (Str × V)} {ds : List (Str × Dat)} : Rep H v d → RepsF H vs ds → RepsF H ((k, v) :: vs) ((k, d) :: ds)
end
section
variable {H H' : Hp}
mutual
theorem Rep.mono (e : Ex H H') : ∀ {v : V} {d : Dat}, Rep H v d → Rep H' v d
  | _, _, .non => .non
  | _, _, .bl b => .bl b
  | _, _, .int i => .int i
  | _, _, .str x => .str x
  | _, _, .tup h r => .tup (e _ _ h) (Reps.mono e r)
  | _, _, .lst h r => .lst (e _ _ h) (Reps.mono e r)
  | _, _, .dic h r => .dic (e _ _ h) (RepsK.mono e r)
  | _, _, .obj h r => .obj (e _ _ h) (RepsF.mono e r)
  | _, _, .hnd p => .hnd p
theorem Reps.mono (e : Ex H H') : ∀ {v : List V} {d : List Dat}, Reps H v d → Reps H' v d
  | _, _, .nil => .nil
  | _, _, .cons h r => .cons (Rep.mono e h) (Reps.mono e r)
theorem RepsK.mono (e : Ex H H') : ∀ {v : List (List L2.Key × V)} {d : List (List L2.Key × Dat)}, RepsK H v d → RepsK H' v d
  | _, _, .nil => .nil
  | _, _, .cons h r => .cons (Rep.mono e h) (RepsK.mono e r)
theorem RepsF.mono (e : Ex H H') : ∀ {v : List (Str × V)} {d : List (Str × Dat)}, RepsF H v d → RepsF H' v d
  | _, _, .nil => .nil
  | _, _, .cons h r => .cons (Rep.mono e h) (RepsF.mono e r)
end
theorem Reps.len : ∀ {v : List V} {d : List Dat}, Reps H v d → v.length = d.length
  | _, _, .nil => rfl
  | _, _, .cons _ r => by simp [Reps.len r]
theorem Reps.get : ∀ {vs : List V} {ds : List Dat} {i : Nat} {d : Dat}, Reps H vs ds → ds[i]? = some d → ∃ v, vs[i]? = some v ∧ Rep H v d
  | _, _, _, _, .nil, h => by simp at h
  | _, _, 0, _, .cons h _, q => by simp at q; subst q; exact ⟨_, rfl, h⟩
  | _, _, i + 1, _, .cons _ r, q => by
    obtain ⟨v, a, b⟩ := Reps.get (i := i) r (by simpa using q)
    exact ⟨v, by simpa using a, b⟩
theorem Reps.getV : ∀ {vs : List V} {ds : List Dat} {i : Nat} {v : V}, Reps H vs ds → vs[i]? = some v → ∃ d, ds[i]? = some d ∧ Rep H v d
  | _, _, _, _, .nil, h => by simp at h
  | _, _, 0, _, .cons h _, q => by simp at q; subst q; exact ⟨_, rfl, h⟩
  | _, _, i + 1, _, .cons _ r, q => by
    obtain ⟨v, a, b⟩ := Reps.getV (i := i) r (by simpa using q)
    exact ⟨v, by simpa using a, b⟩
theorem Reps.app : ∀ {vs us : List V} {ds es : List Dat}, Reps H vs ds → Reps H us es → Reps H (vs ++ us) (ds ++ es)
  | _, _, _, _, .nil, s => s
  | _, _, _, _, .cons h r, s => .cons h (Reps.app r s)
theorem Reps.drop : ∀ {vs : List V} {ds : List Dat} (n : Nat), Reps H vs ds → Reps H (vs.drop n) (ds.drop n)
  | _, _, 0, r => r
  | _, _, _ + 1, .nil => .nil
  | _, _, n + 1, .cons _ r => Reps.drop n r
theorem Reps.take : ∀ {vs : List V} {ds : List Dat} (n : Nat), Reps H vs ds → Reps H (vs.take n) (ds.take n)
  | _, _, 0, _ => .nil
  | _, _, _ + 1, .nil => .nil
  | _, _, n + 1, .cons h r => .cons h (Reps.take n r)
theorem Reps.one {v : V} {d : Dat} (h : Rep H v d) : Reps H [v] [d] := .cons h .nil
theorem Reps.ints : ∀ {vs : List V} {ns : List Int}, Reps H vs (ns.map Dat.int) → vs = ns.map V.int
  | _, [], h => by cases h; rfl
  | _, n :: ns, h => by
    cases h with
    | cons h r =>
      cases h
      rw [Reps.ints r]
      rfl
theorem Reps.ofInts : ∀ (ns : List Int), Reps H (ns.map V.int) (ns.map Dat.int)
  | [] => .nil
  | n :: ns => .cons (.int n) (Reps.ofInts ns)
end
/-- no tuple -/
def NT : HO → Prop
  | .tup _ => False
  | _ => True
/-! # a heap and the part of it that is seen -/
structure Gr (A H B H' : Hp) : Prop where
  up : Ex H H'
  view : Ex A B
  sub : Ex B H'
  hid : ∀ a o, H a = some o → NT o → A a = none → B a = none
theorem Gr.refl {A H : Hp} (s : Ex A H) : Gr A H A H := ⟨Ex.refl H, Ex.refl A, s, fun _ _ _ _ h => h⟩
theorem Gr.trans {A H B H1 C H2 : Hp} (a : Gr A H B H1) (b : Gr B H1 C H2) : Gr A H C H2 :=
  ⟨a.up.trans b.up, a.view.trans b.view, b.sub, fun x o h m n => b.hid x o (a.up x o h) m (a.hid x o h m n)⟩
/-- a new object, seen -/
theorem Gr.new {A H : Hp} (s : Ex A H) {p : Addr} {o : HO} (h : H p = none) : Gr A H (upd A p o) (upd H p o) := by
  have hA : A p = none := Evl.fresh_back s h
  refine ⟨Ex.new h, Ex.new hA, fun a u e => ?_, fun a u e _ n => ?_⟩
  · by_cases q : a = p
    · subst q
      rw [upd_same] at e ⊢
      exact e
    · rw [upd_ne q] at e ⊢
      exact s a u e
  · rw [upd_ne (ne_of_none e h)]
    exact n
/-- a new object, not seen -/
theorem Gr.newU {A H : Hp} (s : Ex A H) {p : Addr} {o : HO} (h : H p = none) : Gr A H A (upd H p o) :=
  ⟨Ex.new h, Ex.refl A, s.trans (Ex.new h), fun _ _ _ _ n => n⟩
/-- an object of this frame's is shown -/
theorem Gr.show {A0 H0 A H : Hp} (g : Gr A0 H0 A H) {p : Addr} {o : HO} (h : H p = some o) (h0 : H0 p = none) (hA : A p = none) : Gr A0 H0 (upd A p o) H := by
  refine ⟨g.up, g.view.trans (Ex.new hA), fun a u e => ?_, fun a u e m n => ?_⟩
  · by_cases q : a = p
    · subst q
      rw [upd_same] at e
      rw [h]
      exact e
    · rw [upd_ne q] at e
      exact g.sub a u e
  · rw [upd_ne (ne_of_none e h0)]
    exact g.hid a u e m n
/-- a tuple that stands is shown -/
theorem Gr.tup {A H : Hp} (s : Ex A H) {q : Addr} {xs : List V} (h : H q = some (.tup xs)) : Gr A H (upd A q (.tup xs)) H := by
  refine ⟨Ex.refl H, fun a u e => ?_, fun a u e => ?_, fun a u e m n => ?_⟩
  · by_cases z : a = q
    · subst z
      rw [upd_same]
      exact (h.symm.trans (s _ _ e)).symm ▸ rfl
    · rw [upd_ne z]
      exact e
  · by_cases z : a = q
    · subst z
      rw [upd_same] at e
      rw [h]
      exact e
    · rw [upd_ne z] at e
      exact s a u e
  · by_cases z : a = q
    · subst z
      rw [h] at e
      cases e
      exact m.elim
    · rw [upd_ne z]
      exact n
/-- an object of this frame's changes -/
theorem Gr.mut {A0 H0 A H : Hp} (g : Gr A0 H0 A H) {p : Addr} {o : HO} (h0 : H0 p = none) (hA : A p = none) : Gr A0 H0 A (upd H p o) :=
  ⟨g.up.mut h0, g.view, g.sub.mut hA, g.hid⟩
/-- an object of this frame's was locked meanwhile -/
theorem Gr.unlock {A0 H0 A H C H' : Hp} {l : Addr} {u v : HO} (g0 : Gr A0 H0 A H) (h0 : H0 l = none) (hA : A l = none) (nt : NT v) (gC : Gr A (upd H l v) C H') : Gr A0 H0 C (upd H' l u) ∧ C l = none := by
  have cl : C l = none := gC.hid l v upd_same nt hA
  refine ⟨⟨fun a o e => ?_, g0.view.trans gC.view, fun a o e => ?_, fun a o e m n => ?_⟩, cl⟩
  · have na : a ≠ l := ne_of_none e h0
    rw [upd_ne na]
    exact gC.up a o (by rw [upd_ne na]; exact g0.up a o e)
  · have na : a ≠ l := ne_of_none e cl
    rw [upd_ne na]
    exact gC.sub a o e
  · have na : a ≠ l := ne_of_none e h0
    exact gC.hid a o (by rw [upd_ne na]; exact g0.up a o e) m (g0.hid a o e m n)
/-! # slots -/
inductive Slot where
  | no | d (x : Dat) | o (xs : List Dat) | od (es : List (List L2.Key × Dat)) | b (c : Addr) (xs : List Dat) | scr (K : PySem.W.Frag) (ns : List Int)
abbrev Gam := List Slot
/-- an object of the frame's own -/
def Slot.mine : Slot → Bool
  | .o _ => true
  | .od _ => true
  | .b _ _ => true
  | _ => false
structure Ok (H0 A H : Hp) (σ : L2.St) (γ : Gam) : Prop where
  sub : Ex A H
  len : σ.length = γ.length
  get : ∀ (i : Nat) (x : Dat), γ[i]? = some (Slot.d x) → ∃ v : V, σ[i]? = some (some v) ∧ Rep A v x
  own : ∀ (i : Nat) (xs : List Dat), γ[i]? = some (Slot.o xs) → ∃ (l : Addr) (vs : List V), σ[i]? = some (some (V.ref l)) ∧ H0 l = none ∧ A l = none ∧ H l = some (.lst vs) ∧ Reps A vs xs
  ownD : ∀ (i : Nat) (es : List (List L2.Key × Dat)), γ[i]? = some (Slot.od es) → ∃ (l : Addr) (kvs : List (List L2.Key × V)), σ[i]? = some (some (V.ref l)) ∧ H0 l = none ∧ A l = none ∧ H l = some (.dT kvs) ∧ RepsK A kvs es
  bor : ∀ (i : Nat) (c : Addr) (xs : List Dat), γ[i]? = some (Slot.b c xs) → ∃ vs : List V, σ[i]? = some (some (V.ref c)) ∧ H0 c = none ∧ A c = none ∧ H c = some (.lst vs) ∧ Reps A vs xs
  scr : ∀ (i : Nat) (K : PySem.W.Frag) (ns : List Int), γ[i]? = some (Slot.scr K ns) → ∃ a : Addr, σ[i]? = some (some (V.ref a)) ∧ SqL K A a (ns.map V.int)
  sep : ∀ (i j : Nat) (l : Addr) (s t : Slot), γ[i]? = some s → γ[j]? = some t → s.mine = true → t.mine = true → σ[i]? = some (some (V.ref l)) → σ[j]? = some (some (V.ref l)) → i = j
theorem Ok.mono {H0 A H B H' : Hp} {σ : L2.St} {γ : Gam} (k : Ok H0 A H σ γ) (g : Gr A H B H') : Ok H0 B H' σ γ := by
  refine ⟨g.sub, k.len, fun i x h => ?_, fun i xs h => ?_, fun i es h => ?_, fun i c xs h => ?_, fun i K ns h => ?_, k.sep⟩
  · obtain ⟨v, a, b⟩ := k.get i x h
    exact ⟨v, a, b.mono g.view⟩
  · obtain ⟨l, vs, a, b, c, d, e⟩ := k.own i xs h
    exact ⟨l, vs, a, b, g.hid l _ d True.intro c, g.up l _ d, e.mono g.view⟩
  · obtain ⟨l, vs, a, b, c, d, e⟩ := k.ownD i es h
    exact ⟨l, vs, a, b, g.hid l _ d True.intro c, g.up l _ d, e.mono g.view⟩
  · obtain ⟨vs, a, b, c', d, e⟩ := k.bor i c xs h
    exact ⟨vs, a, b, g.hid c _ d True.intro c', g.up c _ d, e.mono g.view⟩
  · obtain ⟨a, h1, h2⟩ := k.scr i K ns h
    exact ⟨a, h1, Evl.ex_l g.view h2⟩
/-- what a mine slot's address is like -/
theorem Ok.addr {H0 A H : Hp} {σ : L2.St} {γ : Gam} (k : Ok H0 A H σ γ) {i : Nat} {s : Slot} (h : γ[i]? = some s) (m : s.mine = true) : ∃ (l : Addr) (o : HO), σ[i]? = some (some (V.ref l)) ∧ H0 l = none ∧ A l = none ∧ H l = some o := by
  cases s with
  | no => cases m
  | d x => cases m
  | o xs =>
    obtain ⟨l, vs, a, b, c, d, _⟩ := k.own i xs h
    exact ⟨l, _, a, b, c, d⟩
  | od es =>
    obtain ⟨l, vs, a, b, c, d, _⟩ := k.ownD i es h
    exact ⟨l, _, a, b, c, d⟩
  | b c xs =>
    obtain ⟨vs, a, b, c', d, _⟩ := k.bor i c xs h
    exact ⟨c, _, a, b, c', d⟩
  | scr K ns => cases m
theorem set_get {γ : Gam} {i j : Nat} {s t : Slot} (h : (γ.set i s)[j]? = some t) : (i = j ∧ t = s ∧ i < γ.length) ∨ (i ≠ j ∧ γ[j]? = some t) := by
  by_cases q : i = j
  · subst q
    have hi : i < γ.length := by
      have := (List.getElem?_eq_some_iff.mp h).1
      rwa [List.length_set] at this
    rw [List.getElem?_set_self hi] at h
    exact .inl ⟨rfl, (Option.some.inj h).symm, hi⟩
  · rw [List.getElem?_set_ne q] at h
    exact .inr ⟨q, h⟩
/-- a slot is stored with what is none of the frame's own -/
theorem Ok.setAny {H0 A H : Hp} {σ : L2.St} {γ : Gam} (k : Ok H0 A H σ γ) (i : Nat) (u : Option V) (s : Slot) (m : s.mine = false) (ns : ∀ K l, s ≠ .scr K l) (hs : ∀ x, s = .d x → ∃ v, u = some v ∧ Rep A v x) : Ok H0 A H (σ.set i u) (γ.set i s) := by
  refine ⟨k.sub, by rw [List.length_set, List.length_set, k.len], fun j y h => ?_, fun j ys h => ?_, fun j ys h => ?_, fun j c ys h => ?_, fun j K l h => ?_, fun j n l a b h1 h2 h3 h4 h5 h6 => ?_⟩
  · rcases set_get h with ⟨rfl, e, hi⟩ | ⟨q, h⟩
    · obtain ⟨v, rfl, r⟩ := hs y e.symm
      exact ⟨v, by rw [List.getElem?_set_self (by rw [k.len]; exact hi)], r⟩
    · obtain ⟨w, a, b⟩ := k.get j y h
      exact ⟨w, by rw [List.getElem?_set_ne q]; exact a, b⟩
  · rcases set_get h with ⟨rfl, e, hi⟩ | ⟨q, h⟩
    · rw [← e] at m
      cases m
    · obtain ⟨l, vs, a, b⟩ := k.own j ys h
      exact ⟨l, vs, by rw [List.getElem?_set_ne q]; exact a, b⟩
  · rcases set_get h with ⟨rfl, e, hi⟩ | ⟨q, h⟩
    · rw [← e] at m
      cases m
    · obtain ⟨l, vs, a, b⟩ := k.ownD j ys h
      exact ⟨l, vs, by rw [List.getElem?_set_ne q]; exact a, b⟩
  · rcases set_get h with ⟨rfl, e, hi⟩ | ⟨q, h⟩
    · rw [← e] at m
      cases m
    · obtain ⟨vs, a, b⟩ := k.bor j c ys h
      exact ⟨vs, by rw [List.getElem?_set_ne q]; exact a, b⟩
  · rcases set_get h with ⟨rfl, e, hi⟩ | ⟨q, h⟩
    · exact absurd e.symm (ns K l)
    · obtain ⟨a, h1, h2⟩ := k.scr j K l h
      exact ⟨a, by rw [List.getElem?_set_ne q]; exact h1, h2⟩
  · rcases set_get h1 with ⟨rfl, e, hi⟩ | ⟨q1, h1⟩
    · rw [e, m] at h3
      cases h3
    · rcases set_get h2 with ⟨rfl, e, hi⟩ | ⟨q2, h2⟩
      · rw [e, m] at h4
        cases h4
      · rw [List.getElem?_set_ne q1] at h5
        rw [List.getElem?_set_ne q2] at h6
        exact k.sep j n l a b h1 h2 h3 h4 h5 h6
/-- a slot is stored with data -/
theorem Ok.setD {H0 A H : Hp} {σ : L2.St} {γ : Gam} (k : Ok H0 A H σ γ) {v : V} {x : Dat} (r : Rep A v x) (i : Nat) : Ok H0 A H (σ.set i (some v)) (γ.set i (Slot.d x)) :=
  k.setAny i _ _ rfl (fun _ _ z => nomatch z) fun y e => ⟨v, rfl, by cases e; exact r⟩
/-- a slot is forgotten -/
theorem Ok.forget {H0 A H : Hp} {σ : L2.St} {γ : Gam} (k : Ok H0 A H σ γ) (i : Nat) (u : Option V) : Ok H0 A H (σ.set i u) (γ.set i Slot.no) :=
  k.setAny i _ _ rfl (fun _ _ z => nomatch z) fun y e => nomatch e
/-- the same slots, less known -/
def Less (γ δ : Gam) : Prop := γ.length = δ.length ∧ ∀ (i : Nat) (s : Slot), δ[i]? = some s → s = Slot.no ∨ γ[i]? = some s
theorem Ok.less {H0 A H : Hp} {σ : L2.St} {γ δ : Gam} (k : Ok H0 A H σ γ) (h : Less γ δ) : Ok H0 A H σ δ := by
  have back : ∀ (i : Nat) (s : Slot), δ[i]? = some s → s ≠ .no → γ[i]? = some s := fun i s q n => (h.2 i s q).resolve_left n
  refine ⟨k.sub, by rw [k.len, h.1], fun i x q => k.get i x (back i _ q (by intro z; cases z)), fun i x q => k.own i x (back i _ q (by intro z; cases z)), fun i x q => k.ownD i x (back i _ q (by intro z; cases z)), fun i c x q => k.bor i c x (back i _ q (by intro z; cases z)), fun i K l q => k.scr i K l (back i _ q (by intro z; cases z)),
    fun i j l s t h1 h2 h3 h4 h5 h6 => ?_⟩
  exact k.sep i j l s t (back i s h1 fun z => by subst z; cases h3) (back j t h2 fun z => by subst z; cases h4) h3 h4 h5 h6
/-- a slot is stored with a new object of the frame's own -/
theorem Ok.setM {H0 A H : Hp} {σ : L2.St} {γ : Gam} (k : Ok H0 A H σ γ) {l : Addr} {s : Slot} (i : Nat) (new : ∀ (j : Nat) (t : Slot), γ[j]? = some t → t.mine = true → σ[j]? ≠ some (some (V.ref l)))
    (hD : ∀ x, s ≠ .d x) (hB : ∀ c xs, s ≠ .b c xs) (hS : ∀ K l, s ≠ .scr K l) (hO : ∀ xs, s = .o xs → ∃ vs, H0 l = none ∧ A l = none ∧ H l = some (.lst vs) ∧ Reps A vs xs) (hE : ∀ es, s = .od es → ∃ kvs, H0 l = none ∧ A l = none ∧ H l = some (.dT kvs) ∧ RepsK A kvs es) : Ok H0 A H (σ.set i (some (V.ref l))) (γ.set i s) := by
  refine ⟨k.sub, by rw [List.length_set, List.length_set, k.len], fun j y h => ?_, fun j ys h => ?_, fun j ys h => ?_, fun j c ys h => ?_, fun j K m h => ?_, fun j n a t u h1 h2 h3 h4 h5 h6 => ?_⟩
  · rcases set_get h with ⟨rfl, e, hi⟩ | ⟨q, h⟩
    · exact absurd e.symm (hD y)
    · obtain ⟨w, a, b⟩ := k.get j y h
      exact ⟨w, by rw [List.getElem?_set_ne q]; exact a, b⟩
  · rcases set_get h with ⟨rfl, e, hi⟩ | ⟨q, h⟩
    · obtain ⟨vs, a, b, c, d⟩ := hO ys e.symm
      exact ⟨l, vs, by rw [List.getElem?_set_self (by rw [k.len]; exact hi)], a, b, c, d⟩
    · obtain ⟨l, vs, a, b⟩ := k.own j ys h
      exact ⟨l, vs, by rw [List.getElem?_set_ne q]; exact a, b⟩
  · rcases set_get h with ⟨rfl, e, hi⟩ | ⟨q, h⟩
    · obtain ⟨vs, a, b, c, d⟩ := hE ys e.symm
      exact ⟨l, vs, by rw [List.getElem?_set_self (by rw [k.len]; exact hi)], a, b, c, d⟩
    · obtain ⟨l, vs, a, b⟩ := k.ownD j ys h
      exact ⟨l, vs, by rw [List.getElem?_set_ne q]; exact a, b⟩
  · rcases set_get h with ⟨rfl, e, hi⟩ | ⟨q, h⟩
    · exact absurd e.symm (hB c ys)
    · obtain ⟨vs, a, b⟩ := k.bor j c ys h
      exact ⟨vs, by rw [List.getElem?_set_ne q]; exact a, b⟩
  · rcases set_get h with ⟨rfl, e, hi⟩ | ⟨q, h⟩
    · exact absurd e.symm (hS K m)
    · obtain ⟨a, h1, h2⟩ := k.scr j K m h
      exact ⟨a, by rw [List.getElem?_set_ne q]; exact h1, h2⟩
  · rcases set_get h1 with ⟨q1, e1, hi⟩ | ⟨q1, g1⟩
    · rcases set_get h2 with ⟨q2, e2, _⟩ | ⟨q2, g2⟩
      · rw [← q1, ← q2]
      · subst q1
        rw [List.getElem?_set_self (by rw [k.len]; exact hi)] at h5
        cases h5
        rw [List.getElem?_set_ne q2] at h6
        exact absurd h6 (new n u g2 h4)
    · rcases set_get h2 with ⟨q2, e2, hi⟩ | ⟨q2, g2⟩
      · subst q2
        rw [List.getElem?_set_self (by rw [k.len]; exact hi)] at h6
        cases h6
        rw [List.getElem?_set_ne q1] at h5
        exact absurd h5 (new j t g1 h3)
      · rw [List.getElem?_set_ne q1] at h5
        rw [List.getElem?_set_ne q2] at h6
        exact k.sep j n a t u g1 g2 h3 h4 h5 h6
/-- an own object changes -/
theorem Ok.turn {H0 A H : Hp} {σ : L2.St} {γ : Gam} {i : Nat} {l : Addr} {ho : HO} {s s' : Slot} (k : Ok H0 A H σ γ) (h : γ[i]? = some s) (m : s.mine = true) (e : σ[i]? = some (some (V.ref l)))
    (hD : ∀ x, s' ≠ .d x) (hO : ∀ xs, s' = .o xs → ∃ vs, ho = .lst vs ∧ Reps A vs xs) (hE : ∀ es, s' = .od es → ∃ kvs, ho = .dT kvs ∧ RepsK A kvs es) (hS : ∀ K m, s' ≠ .scr K m) (hB : ∀ c xs, s' = .b c xs → c = l ∧ ∃ vs, ho = .lst vs ∧ Reps A vs xs) : Ok H0 A (upd H l ho) σ (γ.set i s') := by
  obtain ⟨l', o, e', h0, hA, hH⟩ := k.addr h m
  rw [e] at e'
  cases e'
  have apart : ∀ (j : Nat) (t : Slot) (a : Addr), i ≠ j → γ[j]? = some t → t.mine = true → σ[j]? = some (some (V.ref a)) → a ≠ l := fun j t a q g n e1 z => by
    subst z
    exact q (k.sep i j a s t h g m n e e1)
  refine ⟨k.sub.mut hA, by rw [List.length_set, k.len], fun j y hj => ?_, fun j zs hj => ?_, fun j zs hj => ?_, fun j c zs hj => ?_, fun j K m hj => ?_, fun j n a t u h1 h2 h3 h4 h5 h6 => ?_⟩
  · rcases set_get hj with ⟨rfl, z, _⟩ | ⟨q, hj⟩
    · exact absurd z.symm (hD y)
    · exact k.get j y hj
  · rcases set_get hj with ⟨rfl, z, _⟩ | ⟨q, hj⟩
    · obtain ⟨vs, rfl, r⟩ := hO zs z.symm
      exact ⟨l, vs, e, h0, hA, upd_same, r⟩
    · obtain ⟨a, vs', e1, e2, e3, e4, e5⟩ := k.own j zs hj
      exact ⟨a, vs', e1, e2, e3, by rw [upd_ne (apart j _ a q hj rfl e1)]; exact e4, e5⟩
  · rcases set_get hj with ⟨rfl, z, _⟩ | ⟨q, hj⟩
    · obtain ⟨vs, rfl, r⟩ := hE zs z.symm
      exact ⟨l, vs, e, h0, hA, upd_same, r⟩
    · obtain ⟨a, vs', e1, e2, e3, e4, e5⟩ := k.ownD j zs hj
      exact ⟨a, vs', e1, e2, e3, by rw [upd_ne (apart j _ a q hj rfl e1)]; exact e4, e5⟩
  · rcases set_get hj with ⟨rfl, z, _⟩ | ⟨q, hj⟩
    · obtain ⟨rfl, vs, rfl, r⟩ := hB c zs z.symm
      exact ⟨vs, e, h0, hA, upd_same, r⟩
    · obtain ⟨vs', e1, e2, e3, e4, e5⟩ := k.bor j c zs hj
      exact ⟨vs', e1, e2, e3, by rw [upd_ne (apart j _ c q hj rfl e1)]; exact e4, e5⟩
  · rcases set_get hj with ⟨rfl, z, _⟩ | ⟨q, hj⟩
    · exact absurd z.symm (hS K m)
    · exact k.scr j K m hj
  · have back : ∀ (n : Nat) (t : Slot), (γ.set i s')[n]? = some t → t.mine = true → ∃ t', γ[n]? = some t' ∧ t'.mine = true := fun n t hn mt => by
      rcases set_get hn with ⟨rfl, z, _⟩ | ⟨q, hn⟩
      · exact ⟨s, h, m⟩
      · exact ⟨t, hn, mt⟩
    obtain ⟨z1, q1, m1⟩ := back j t h1 h3
    obtain ⟨z2, q2, m2⟩ := back n u h2 h4
    exact k.sep j n a z1 z2 q1 q2 m1 m2 h5 h6
/-- an own object is shown: what stood becomes data -/
theorem Ok.bare {A0 H0 A H : Hp} {σ : L2.St} {γ : Gam} {i : Nat} {l : Addr} {ho : HO} {s : Slot} {x : Dat} (k : Ok H0 A H σ γ) (g : Gr A0 H0 A H) (h : γ[i]? = some s) (m : s.mine = true) (e : σ[i]? = some (some (V.ref l))) (hH : H l = some ho)
    (r : Rep (upd A l ho) (.ref l) x) : Gr A0 H0 (upd A l ho) H ∧ Ex A (upd A l ho) ∧ Ok H0 (upd A l ho) H σ (γ.set i (.d x)) := by
  obtain ⟨l', o, e', h0, hA, hH'⟩ := k.addr h m
  rw [e] at e'
  cases e'
  have v : Ex A (upd A l ho) := Ex.new hA
  have gs := g.show hH h0 hA
  have apart : ∀ (j : Nat) (t : Slot) (a : Addr), i ≠ j → γ[j]? = some t → t.mine = true → σ[j]? = some (some (V.ref a)) → a ≠ l := fun j t a q g n e1 z => by
    subst z
    exact q (k.sep i j a s t h g m n e e1)
  refine ⟨gs, v, gs.sub, by rw [List.length_set, k.len], fun j y hj => ?_, fun j zs hj => ?_, fun j zs hj => ?_, fun j c zs hj => ?_, fun j K m hj => ?_, fun j n a t u h1 h2 h3 h4 h5 h6 => ?_⟩
  · rcases set_get hj with ⟨rfl, z, _⟩ | ⟨q, hj⟩
    · cases z
      exact ⟨_, e, r⟩
    · obtain ⟨u, a, b⟩ := k.get j y hj
      exact ⟨u, a, b.mono v⟩
  · rcases set_get hj with ⟨rfl, z, _⟩ | ⟨q, hj⟩
    · cases z
    · obtain ⟨a, vs', e1, e2, e3, e4, e5⟩ := k.own j zs hj
      exact ⟨a, vs', e1, e2, by rw [upd_ne (apart j _ a q hj rfl e1)]; exact e3, e4, e5.mono v⟩
  · rcases set_get hj with ⟨rfl, z, _⟩ | ⟨q, hj⟩
    · cases z
    · obtain ⟨a, vs', e1, e2, e3, e4, e5⟩ := k.ownD j zs hj
      exact ⟨a, vs', e1, e2, by rw [upd_ne (apart j _ a q hj rfl e1)]; exact e3, e4, e5.mono v⟩
  · rcases set_get hj with ⟨rfl, z, _⟩ | ⟨q, hj⟩
    · cases z
    · obtain ⟨vs', e1, e2, e3, e4, e5⟩ := k.bor j c zs hj
      exact ⟨vs', e1, e2, by rw [upd_ne (apart j _ c q hj rfl e1)]; exact e3, e4, e5.mono v⟩
  · rcases set_get hj with ⟨rfl, z, _⟩ | ⟨q, hj⟩
    · cases z
    · obtain ⟨a, h1, h2⟩ := k.scr j K m hj
      exact ⟨a, h1, Evl.ex_l v h2⟩
  · have back : ∀ (n : Nat) (t : Slot), (γ.set i (Slot.d x))[n]? = some t → t.mine = true → γ[n]? = some t := fun n t hn mt => by
      rcases set_get hn with ⟨rfl, z, _⟩ | ⟨q, hn⟩
      · subst z
        cases mt
      · exact hn
    exact k.sep j n a t u (back j t h1 h3) (back n u h2 h4) h3 h4 h5 h6
theorem Ok.unlock {H0 A H C H' : Hp} {σ : L2.St} {γ : Gam} {i : Nat} {l : Addr} {es : List (List L2.Key × Dat)} {kvs : List (List L2.Key × V)} {v : HO} (k : Ok H0 A H σ γ) (h : γ[i]? = some (Slot.od es)) (e : σ[i]? = some (some (V.ref l))) (hH : H l = some (.dT kvs)) (hA : A l = none) (rk : RepsK A kvs es) (nt : NT v)
    (gC : Gr A (upd H l v) C H') : Ok H0 C (upd H' l (.dT kvs)) σ γ := by
  have cl : C l = none := gC.hid l v upd_same nt hA
  refine ⟨fun a o q => ?_, k.len, fun j x q => ?_, fun j xs q => ?_, fun j xs q => ?_, fun j c xs q => ?_, fun j K m q => ?_, k.sep⟩
  · rw [upd_ne (ne_of_none q cl)]
    exact gC.sub a o q
  · obtain ⟨u, a, b⟩ := k.get j x q
    exact ⟨u, a, b.mono gC.view⟩
  · obtain ⟨a, vs, x1, x2, x3, x4, x5⟩ := k.own j xs q
    have na : a ≠ l := fun z => by
      subst z
      rw [x4] at hH
      cases hH
    have y : upd H l v a = some (.lst vs) := by rw [upd_ne na]; exact x4
    exact ⟨a, vs, x1, x2, gC.hid a _ y True.intro x3, by rw [upd_ne na]; exact gC.up a _ y, x5.mono gC.view⟩
  · obtain ⟨a, vs, x1, x2, x3, x4, x5⟩ := k.ownD j xs q
    by_cases na : a = l
    · subst na
      have ej := k.sep i j a _ _ h q rfl rfl e x1
      subst ej
      rw [h] at q
      cases q
      rw [hH] at x4
      cases x4
      exact ⟨a, kvs, x1, x2, cl, upd_same, rk.mono gC.view⟩
    · have y : upd H l v a = some (.dT vs) := by rw [upd_ne na]; exact x4
      exact ⟨a, vs, x1, x2, gC.hid a _ y True.intro x3, by rw [upd_ne na]; exact gC.up a _ y, x5.mono gC.view⟩
  · obtain ⟨vs, x1, x2, x3, x4, x5⟩ := k.bor j c xs q
    have na : c ≠ l := fun z => by
      subst z
      rw [x4] at hH
      cases hH
    have y : upd H l v c = some (.lst vs) := by rw [upd_ne na]; exact x4
    exact ⟨vs, x1, x2, gC.hid c _ y True.intro x3, by rw [upd_ne na]; exact gC.up c _ y, x5.mono gC.view⟩
  · obtain ⟨a, h1, h2⟩ := k.scr j K m q
    exact ⟨a, h1, Evl.ex_l gC.view h2⟩
end Fr

set_option Elab.async false
set_option linter.all false
set_option maxRecDepth 100000
set_option maxHeartbeats 4000000
namespace Fr
open PySem L2
open Evl (Ex)
/-! # what an expression gives -/
def EvD (te : TE) (γ : Gam) (x : Dat) : Prop := ∀ H0 A H σ, Ok H0 A H σ γ → ∀ Q : VK, (∀ v B H', Gr A H B H' → Rep B v x → Q v H') → te σ H Q
/-- a new list of its own -/
def EvN (te : TE) (γ : Gam) (xs : List Dat) : Prop := ∀ H0 A H σ, Ok H0 A H σ γ → ∀ Q : VK, (∀ l vs B H', Gr A H B H' → H l = none → B l = none → H' l = some (.lst vs) → Reps B vs xs → Q (.ref l) H') → te σ H Q
/-- a list that may be read -/
def EvR (te : TE) (γ : Gam) (xs : List Dat) : Prop := ∀ H0 A H σ, Ok H0 A H σ γ → ∀ Q : VK, (∀ l vs B H', Gr A H B H' → H' l = some (.lst vs) → Reps B vs xs → Q (.ref l) H') → te σ H Q
def EvT (t : TT) (γ : Gam) (b : Bool) : Prop := ∀ H0 A H σ, Ok H0 A H σ γ → ∀ Q : Bool → Hp → Prop, (∀ B H', Gr A H B H' → Q b H') → t σ H Q
def EvA (ta : TA) (γ : Gam) (xs : List Dat) : Prop := ∀ H0 A H σ, Ok H0 A H σ γ → ∀ Q : List V → Hp → Prop, (∀ vs B H', Gr A H B H' → Reps B vs xs → Q vs H') → ta σ H Q
def EvO (to : TO) (γ : Gam) (o : Option Int) : Prop := ∀ H0 A H σ, Ok H0 A H σ γ → ∀ Q : Option Int → Hp → Prop, (∀ B H', Gr A H B H' → Q o H') → to σ H Q
def R2D (r : R2) (x y z : Dat) : Prop := ∀ A H vx vy, Ex A H → Rep A vx x → Rep A vy y → ∀ Q : VK, (∀ v B H', Gr A H B H' → Rep B v z → Q v H') → r vx vy H Q
def RCD (r : List V → Hp → VK → Prop) (xs : List Dat) (z : Dat) : Prop := ∀ A H vs, Ex A H → Reps A vs xs → ∀ Q : VK, (∀ v B H', Gr A H B H' → Rep B v z → Q v H') → r vs H Q
/-- what a def promises: from which data it gives which -/
def Pr (R : List Dat → Dat → Prop) : Sp := fun vs H Q _ => ∃ A xs x, Ex A H ∧ Reps A vs xs ∧ R xs x ∧ ∀ v B H', Gr A H B H' → Rep B v x → Q v H'
section
variable {K : PySem.W.Frag} {γ : Gam} {ta tb te : TE} {t u : TT} {x y z : Dat} {r : R2} {xs ys : List Dat}
theorem ev_var {i : Nat} (h : γ[i]? = some (Slot.d x)) : EvD (tVar i) γ x := fun H0 A H σ k Q q => by
  obtain ⟨v, a, b⟩ := k.get i x h
  exact ⟨v, a, q v A H (Gr.refl k.sub) b⟩
theorem ev_c {v : V} (h : ∀ H, Rep H v x) : EvD (tC v) γ x := fun H0 A H σ k Q q => q v A H (Gr.refl k.sub) (h A)
theorem ev_int {i : Int} : EvD (tC (.int i)) γ (.int i) := ev_c fun _ => .int i
theorem ev_bl {b : Bool} : EvD (tC (.bl b)) γ (.bl b) := ev_c fun _ => .bl b
theorem ev_non : EvD (tC .non) γ .non := ev_c fun _ => .non
theorem ev_str {s : Str} : EvD (tC (.str s)) γ (.str s) := ev_c fun _ => .str s
theorem ev_op (ha : EvD ta γ x) (hb : EvD tb γ y) (hr : R2D r x y z) : EvD (tOp r ta tb) γ z := fun H0 A H σ k Q q =>
  ha H0 A H σ k _ fun v B H1 g1 r1 => hb H0 B H1 σ (k.mono g1) _ fun w C H2 g2 r2 => hr C H2 v w g2.sub (r1.mono g2.view) r2 Q fun p D H3 g3 r3 => q p D H3 ((g1.trans g2).trans g3) r3
theorem ev_is (h : EvD te γ x) (e : x = y) : EvD te γ y := e ▸ h
theorem et_is {a b : Bool} (h : EvT t γ a) (e : a = b) : EvT t γ b := e ▸ h
theorem ev_if {b : Bool} (h : EvT t γ b) (h1 : b = true → EvD ta γ x) (h2 : b = false → EvD tb γ y) : EvD (tIf t ta tb) γ (if b = true then x else y) := fun H0 A H σ k Q q =>
  h H0 A H σ k _ fun B H1 g1 => by
    cases b with
    | true => exact h1 rfl H0 B H1 σ (k.mono g1) Q fun v C H2 g2 r2 => q v C H2 (g1.trans g2) r2
    | false => exact h2 rfl H0 B H1 σ (k.mono g1) Q fun v C H2 g2 r2 => q v C H2 (g1.trans g2) r2
theorem et_B {b : Bool} (h : EvD te γ (.bl b)) : EvT (tB te) γ b := fun H0 A H σ k Q q => h H0 A H σ k _ fun v B H1 g1 r1 => by
  cases r1
  exact ⟨b, rfl, q B H1 g1⟩
theorem et_test {b : Bool} (h : EvD te γ (.bl b)) : EvT (tTest te) γ b := et_B h
theorem et_and {a b : Bool} (h1 : EvT t γ a) (h2 : a = true → EvT u γ b) : EvT (tAnd t u) γ (a && b) := fun H0 A H σ k Q q => h1 H0 A H σ k _ fun B H1 g1 => by
  cases a with
  | true => exact h2 rfl H0 B H1 σ (k.mono g1) Q fun C H2 g2 => q C H2 (g1.trans g2)
  | false => exact q B H1 g1
theorem et_or {a b : Bool} (h1 : EvT t γ a) (h2 : a = false → EvT u γ b) : EvT (tOr t u) γ (a || b) := fun H0 A H σ k Q q => h1 H0 A H σ k _ fun B H1 g1 => by
  cases a with
  | true => exact q B H1 g1
  | false => exact h2 rfl H0 B H1 σ (k.mono g1) Q fun C H2 g2 => q C H2 (g1.trans g2)
theorem et_not {a : Bool} (h : EvT t γ a) : EvT (tNot t) γ (!a) := fun H0 A H σ k Q q => h H0 A H σ k _ fun B H1 g1 => q B H1 g1
theorem ev_and {a b : Bool} (h1 : EvD ta γ (.bl a)) (h2 : a = true → EvD tb γ (.bl b)) : EvD (tAndV ta tb) γ (.bl (a && b)) := fun H0 A H σ k Q q => h1 H0 A H σ k _ fun v B H1 g1 r1 => by
  cases r1
  refine ⟨a, rfl, ?_⟩
  cases a with
  | true => exact h2 rfl H0 B H1 σ (k.mono g1) Q fun v C H2 g2 r2 => q v C H2 (g1.trans g2) r2
  | false => exact q _ B H1 g1 (.bl false)
theorem ev_or {a b : Bool} (h1 : EvD ta γ (.bl a)) (h2 : a = false → EvD tb γ (.bl b)) : EvD (tOrV ta tb) γ (.bl (a || b)) := fun H0 A H σ k Q q => h1 H0 A H σ k _ fun v B H1 g1 r1 => by
  cases r1
  refine ⟨a, rfl, ?_⟩
  cases a with
  | true => exact q _ B H1 g1 (.bl true)
  | false => exact h2 rfl H0 B H1 σ (k.mono g1) Q fun v C H2 g2 r2 => q v C H2 (g1.trans g2) r2
theorem ev_not {a : Bool} (h1 : EvD ta γ (.bl a)) : EvD (tNotV ta) γ (.bl (!a)) := fun H0 A H σ k Q q => h1 H0 A H σ k _ fun v B H1 g1 r1 => by
  cases r1
  exact ⟨a, rfl, q _ B H1 g1 (.bl _)⟩
theorem ea_nil : EvA tNil γ [] := fun H0 A H σ k Q q => q [] A H (Gr.refl k.sub) .nil
theorem ea_cons {tr : TA} (h : EvD ta γ x) (hr : EvA tr γ xs) : EvA (tCons ta tr) γ (x :: xs) := fun H0 A H σ k Q q =>
  h H0 A H σ k _ fun v B H1 g1 r1 => hr H0 B H1 σ (k.mono g1) _ fun vs C H2 g2 r2 => q _ C H2 (g1.trans g2) (.cons (r1.mono g2.view) r2)
theorem ev_tup {tr : TA} (h : EvA tr γ xs) (hl : xs.length ≤ sizeLine) : EvD (tTup tr) γ (.tup xs) := fun H0 A H σ k Q q =>
  h H0 A H σ k _ fun vs B H1 g1 r1 => ⟨by rw [r1.len]; exact hl, fun p hp => by
    have g2 := Gr.new (o := .tup vs) g1.sub hp
    exact q _ _ _ (g1.trans g2) (.tup upd_same (r1.mono g2.view))⟩
theorem en_lst {tr : TA} (h : EvA tr γ xs) (hl : xs.length ≤ sizeLine) : EvN (tLst tr) γ xs := fun H0 A H σ k Q q =>
  h H0 A H σ k _ fun vs B H1 g1 r1 => ⟨by rw [r1.len]; exact hl, fun p hp =>
    q p vs B _ (g1.trans (Gr.newU g1.sub hp)) (Evl.fresh_back g1.up hp) (Evl.fresh_back g1.sub hp) upd_same r1⟩
/-- a new list is data -/
theorem ev_ofN (h : EvN te γ xs) : EvD te γ (.lst xs) := fun H0 A H σ k Q q => h H0 A H σ k _ fun l vs B H1 g hl hB h1 r => by
  have g2 := g.show h1 hl hB
  exact q _ _ H1 g2 (.lst upd_same (r.mono (Ex.new hB)))
theorem er_ofN (h : EvN te γ xs) : EvR te γ xs := fun H0 A H σ k Q q => h H0 A H σ k _ fun l vs B H1 g _ _ h1 r => q l vs B H1 g h1 r
theorem er_ofD (h : EvD te γ (.lst xs)) : EvR te γ xs := fun H0 A H σ k Q q => h H0 A H σ k _ fun v B H1 g r => by
  cases r with
  | lst ha hr => exact q _ _ B H1 g (g.sub _ _ ha) hr
theorem er_var {i : Nat} (h : γ[i]? = some (Slot.o xs)) : EvR (tVar i) γ xs := fun H0 A H σ k Q q => by
  obtain ⟨l, vs, a, _, _, b, c⟩ := k.own i xs h
  exact ⟨_, a, q l vs A H (Gr.refl k.sub) b c⟩
theorem eo_none : EvO tNoPart γ none := fun H0 A H σ k Q q => q A H (Gr.refl k.sub)
theorem eo_some {i : Int} (h : EvD te γ (.int i)) : EvO (tPart te) γ (some i) := fun H0 A H σ k Q q => h H0 A H σ k _ fun v B H1 g1 r1 => by
  cases r1
  exact ⟨i, rfl, q B H1 g1⟩
theorem ev_cb {rc : List V → Hp → VK → Prop} {tr : TA} (h : EvA tr γ xs) (hr : RCD rc xs z) : EvD (tCB rc tr) γ z := fun H0 A H σ k Q q =>
  h H0 A H σ k _ fun vs B H1 g1 r1 => hr B H1 vs g1.sub r1 Q fun v C H2 g2 r2 => q v C H2 (g1.trans g2) r2
/-- a call of a built-in upon one list that is read -/
theorem ev_cbR {rc : List V → Hp → VK → Prop} (h : EvR te γ xs) (hr : ∀ A H l vs, Ex A H → H l = some (.lst vs) → Reps A vs xs → ∀ Q : VK, (∀ v B H', Gr A H B H' → Rep B v z → Q v H') → rc [.ref l] H Q) : EvD (tCB rc (tCons te tNil)) γ z := fun H0 A H σ k Q q =>
  h H0 A H σ k _ fun l vs B H1 g1 h1 r1 => hr B H1 l vs g1.sub h1 r1 Q fun v C H2 g2 r2 => q v C H2 (g1.trans g2) r2
theorem ev_call {R : List Dat → Dat → Prop} {E : XK} {tr : TA} (h : EvA tr γ xs) (hR : R xs z) : EvD (tCall (Pr R) [] E tr) γ z := fun H0 A H σ k Q q =>
  h H0 A H σ k _ fun vs B H1 g1 r1 => ⟨B, xs, z, g1.sub, by rw [List.append_nil]; exact r1, hR, fun v C H2 g2 r2 => q v C H2 (g1.trans g2) r2⟩
/-! ### operators on data -/
theorem r2_I0 {g : Int → Int → V} {i j : Int} (h : ∀ H, Rep H (g i j) z) : R2D (rI0 g) (.int i) (.int j) z := fun A H vx vy s r1 r2 Q q => by
  cases r1
  cases r2
  exact ⟨i, j, rfl, rfl, q _ A H (Gr.refl s) (h A)⟩
theorem r2_I {C : Int → Int → Prop} {g : Int → Int → V} {i j : Int} (hc : C i j) (h : ∀ H, Rep H (g i j) z) : R2D (rI C g) (.int i) (.int j) z := fun A H vx vy s r1 r2 Q q => by
  cases r1
  cases r2
  exact ⟨i, j, rfl, rfl, hc, q _ A H (Gr.refl s) (h A)⟩
theorem r2_add {i j : Int} : R2D (rI0 fun i j => .int (i + j)) (.int i) (.int j) (.int (i + j)) := r2_I0 fun _ => .int _
theorem r2_sub {i j : Int} : R2D (rI0 fun i j => .int (i - j)) (.int i) (.int j) (.int (i - j)) := r2_I0 fun _ => .int _
theorem r2_lt {i j : Int} : R2D (rI0 fun i j => .bl (decide (i < j))) (.int i) (.int j) (.bl (decide (i < j))) := r2_I0 fun _ => .bl _
theorem r2_le {i j : Int} : R2D (rI0 fun i j => .bl (decide (i ≤ j))) (.int i) (.int j) (.bl (decide (i ≤ j))) := r2_I0 fun _ => .bl _
theorem r2_gt {i j : Int} : R2D (rI0 fun i j => .bl (decide (j < i))) (.int i) (.int j) (.bl (decide (j < i))) := r2_I0 fun _ => .bl _
theorem r2_ge {i j : Int} : R2D (rI0 fun i j => .bl (decide (j ≤ i))) (.int i) (.int j) (.bl (decide (j ≤ i))) := r2_I0 fun _ => .bl _
theorem r2_eqI {i j : Int} : R2D rEq (.int i) (.int j) (.bl (decide (i = j))) := fun A H vx vy s r1 r2 Q q => by
  cases r1
  cases r2
  refine ⟨rfl, q _ A H (Gr.refl s) ?_⟩
  have e : decide (V.int i = V.int j) = decide (i = j) := decide_eq_decide.mpr ⟨fun h => V.int.inj h, fun h => h ▸ rfl⟩
  rw [e]
  exact .bl _
theorem r2_neI {i j : Int} : R2D rNe (.int i) (.int j) (.bl (!decide (i = j))) := fun A H vx vy s r1 r2 Q q => by
  cases r1
  cases r2
  refine ⟨rfl, q _ A H (Gr.refl s) ?_⟩
  have e : decide (V.int i = V.int j) = decide (i = j) := decide_eq_decide.mpr ⟨fun h => V.int.inj h, fun h => h ▸ rfl⟩
  rw [e]
  exact .bl _
theorem r2_cat (h : xs.length + ys.length ≤ sizeLine) : R2D (rCatA K) (.tup xs) (.tup ys) (.tup (xs ++ ys)) := fun A H vx vy s r1 r2 Q q => by
  cases r1 with
  | @tup a us _ h1 R1 =>
    cases r2 with
    | @tup b ws _ h2 R2 =>
      refine ⟨a, b, us, ws, rfl, rfl, SqT.of (s _ _ h1), SqT.of (s _ _ h2), by rw [R1.len, R2.len]; exact h, fun e => ?_, fun _ e => ?_, fun _ _ p hp => ?_⟩
      · subst e
        cases R1
        exact q _ A H (Gr.refl s) (.tup h2 R2)
      · subst e
        cases R2
        rw [List.append_nil] at q
        exact q _ A H (Gr.refl s) (.tup h1 R1)
      · have g := Gr.new (o := .tup (us ++ ws)) s hp
        exact q _ _ _ g (.tup upd_same ((R1.app R2).mono g.view))
theorem atI_rep {A : Hp} {us : List V} {i : Int} (R : Reps A us xs) (h : atI xs i = some z) : ∃ v, atI us i = some v ∧ Rep A v z := by
  unfold atI at h ⊢
  rw [R.len]
  cases e : ixN xs.length i with
  | none =>
    rw [e] at h
    cases h
  | some j =>
    rw [e] at h
    exact R.get h
theorem r2_ixT {i : Int} (h : atI xs i = some z) : R2D (rIxT K) (.tup xs) (.int i) z := fun A H vx vy s r1 r2 Q q => by
  cases r2
  cases r1 with
  | @tup a us _ h1 R1 =>
    obtain ⟨v, e, rv⟩ := atI_rep R1 h
    exact ⟨a, us, i, v, rfl, rfl, SqT.of (s _ _ h1), e, q v A H (Gr.refl s) rv⟩
theorem ev_ixL {i : Int} (ha : EvR ta γ xs) (hb : EvD tb γ (.int i)) (h : atI xs i = some z) : EvD (tOp (rIxL K) ta tb) γ z := fun H0 A H σ k Q q =>
  ha H0 A H σ k _ fun l vs B H1 g1 h1 R1 => hb H0 B H1 σ (k.mono g1) _ fun w C H2 g2 r2 => by
    cases r2
    obtain ⟨v, e, rv⟩ := atI_rep (R1.mono g2.view) h
    exact ⟨l, vs, i, v, rfl, rfl, SqL.of (g2.up _ _ h1), e, q v C H2 (g1.trans g2) rv⟩
def cutA {α : Type} (xs : List α) (lo hi : Option Int) : List α := (xs.drop (HT.sIx xs.length 0 lo)).take (HT.sIx xs.length xs.length hi - HT.sIx xs.length 0 lo)
theorem Reps.cut {A : Hp} {us : List V} {lo hi : Option Int} (R : Reps A us xs) : Reps A (cutV us lo hi) (cutA xs lo hi) := by
  unfold cutV cutA
  rw [R.len]
  exact (R.drop _).take _
theorem ev_slT {tl th : TO} {lo hi : Option Int} (h : EvD te γ (.tup xs)) (h1 : EvO tl γ lo) (h2 : EvO th γ hi) : EvD (tSl (rSlA K) te tl th) γ (.tup (cutA xs lo hi)) := fun H0 A H σ k Q q =>
  h H0 A H σ k _ fun v B H1 g1 r1 => h1 H0 B H1 σ (k.mono g1) _ fun C H2 g2 => h2 H0 C H2 σ (k.mono (g1.trans g2)) _ fun D H3 g3 => by
    cases r1 with
    | @tup a us _ ha R =>
      have g := (g1.trans g2).trans g3
      refine ⟨a, us, rfl, SqT.of (g3.up _ _ (g2.up _ _ (g1.sub _ _ ha))), fun e => ?_, fun _ p hp => ?_⟩
      · have ew : cutA xs lo hi = xs := by
          unfold cutA
          rw [← R.len, e.1, e.2, List.drop_zero, R.len]
          exact List.take_length
        rw [ew] at q
        exact q _ D H3 g (.tup (g3.view _ _ (g2.view _ _ ha)) (R.mono (g2.view.trans g3.view)))
      · have g4 := Gr.new (o := .tup (cutV us lo hi)) g.sub hp
        exact q _ _ _ (g.trans g4) (.tup upd_same ((R.mono (g2.view.trans g3.view)).cut.mono g4.view))
theorem r2_ltT {ns ms : List Int} : R2D (rLtT K) (.tup (ns.map .int)) (.tup (ms.map .int)) (.bl (HT.lexLt ns ms)) := fun A H vx vy s r1 r2 Q q => by
  cases r1 with
  | @tup a us _ h1 R1 =>
    cases r2 with
    | @tup b ws _ h2 R2 =>
      have e1 := R1.ints
      have e2 := R2.ints
      subst e1 e2
      exact ⟨a, b, ns, ms, rfl, rfl, SqT.of (s _ _ h1), SqT.of (s _ _ h2), q _ A H (Gr.refl s) (.bl _)⟩
/-! ### == at any depth -/
mutual
def py : Dat → PyData
  | .non => .none
  | .bl b => .bool b
  | .int i => .int i
  | .str s => .str s
  | .tup ds => .tuple (pys ds)
  | .lst ds => .list (pys ds)
  | .dic _ => .none
  | .obj _ _ => .none
  | .hnd _ => .none
def pys : List Dat → List PyData
  | [] => []
  | d :: ds => py d :: pys ds
end
mutual
def noDic : Dat → Bool
  | .tup ds => noDics ds
  | .lst ds => noDics ds
  | .dic _ => false
  | .obj _ _ => false
  | .hnd _ => false
  | _ => true
def noDics : List Dat → Bool
  | [] => true
  | d :: ds => noDic d && noDics ds
end
mutual
theorem Rep.dp {A H : Hp} (s : Ex A H) : ∀ {v : V} {d : Dat}, Rep A v d → noDic d = true → Dp K H v (py d)
  | _, _, .non, _ => .non
  | _, _, .bl b, _ => .bl b
  | _, _, .int i, _ => .int i
  | _, _, .str x, _ => .str x
  | _, _, .tup h r, n => .tup (SqT.of (s _ _ h)) (Reps.dp s r n)
  | _, _, .lst h r, n => .lst (SqL.of (s _ _ h)) (Reps.dp s r n)
  | _, _, .dic _ _, n => Bool.noConfusion (show false = true from n)
  | _, _, .obj _ _, n => Bool.noConfusion (show false = true from n)
  | _, _, .hnd _, n => Bool.noConfusion (show false = true from n)
theorem Reps.dp {A H : Hp} (s : Ex A H) : ∀ {v : List V} {d : List Dat}, Reps A v d → noDics d = true → DpAll K H v (pys d)
  | _, _, .nil, _ => .nil
  | _, _, .cons h r, n => by
    have n' := Bool.and_eq_true_iff.mp n
    exact .cons (Rep.dp s h n'.1) (Reps.dp s r n'.2)
end
theorem r2_eqD (n1 : noDic x = true) (n2 : noDic y = true) (s1 : SeqAt.shaped (py x) = true) (s2 : SeqAt.shaped (py y) = true) : R2D (rEqD K) x y (.bl (PyData.eqv (py x) (py y))) := fun A H vx vy s r1 r2 Q q =>
  ⟨py x, py y, r1.dp s n1, r2.dp s n2, s1, s2, q _ A H (Gr.refl s) (.bl _)⟩
theorem r2_neD (n1 : noDic x = true) (n2 : noDic y = true) (s1 : SeqAt.shaped (py x) = true) (s2 : SeqAt.shaped (py y) = true) : R2D (rNeD K) x y (.bl (!PyData.eqv (py x) (py y))) := fun A H vx vy s r1 r2 Q q =>
  ⟨py x, py y, r1.dp s n1, r2.dp s n2, s1, s2, q _ A H (Gr.refl s) (.bl _)⟩
end
/-! # words -/
def w (ns : List Int) : Dat := .tup (ns.map .int)
theorem pys_ints : ∀ ns : List Int, pys (ns.map .int) = ns.map .int
  | [] => rfl
  | n :: ns => by
    show py (.int n) :: pys (ns.map .int) = _
    rw [pys_ints ns]
    rfl
theorem noDic_w (ns : List Int) : noDic (w ns) = true := by
  show noDics (ns.map .int) = true
  induction ns with
  | nil => rfl
  | cons n ns ih => exact Bool.and_eq_true_iff.mpr ⟨rfl, ih⟩
theorem lay_ints : ∀ ns : List Int, PyData.canLayAll0 (ns.map PyData.int) = true
  | [] => by simp [PyData.canLayAll0]
  | n :: ns => by
    have := lay_ints ns
    simp only [List.map_cons, PyData.canLayAll0, this, Bool.and_true]
    simp [PyData.canLay0]
theorem depth_ints : ∀ ns : List Int, PyData.depthAll (ns.map PyData.int) ≤ 1
  | [] => by simp [PyData.depthAll]
  | n :: ns => by
    have := depth_ints ns
    simp only [List.map_cons, PyData.depthAll, PyData.depth]
    omega
theorem shaped_w (ns : List Int) : SeqAt.shaped (py (w ns)) = true := by
  show SeqAt.shaped (.tuple (pys (ns.map .int))) = true
  rw [pys_ints]
  unfold SeqAt.shaped
  have h := depth_ints ns
  have e : PyData.depth (.tuple (ns.map PyData.int)) ≤ 64 := by
    simp only [PyData.depth]
    omega
  rw [decide_eq_true e, Bool.and_true]
  simp only [PyData.canLay0]
  exact lay_ints ns
theorem eqv_ints : ∀ ns ms : List Int, PyData.eqvAll (ns.map PyData.int) (ms.map PyData.int) = decide (ns = ms)
  | [], [] => by simp [PyData.eqvAll]
  | [], m :: ms => by simp [PyData.eqvAll]
  | n :: ns, [] => by simp [PyData.eqvAll]
  | n :: ns, m :: ms => by
    simp only [List.map_cons, PyData.eqvAll, eqv_ints ns ms]
    by_cases h : n = m
    · subst h
      simp [PyData.eqv]
    · simp [PyData.eqv, h]
theorem eqv_w (ns ms : List Int) : PyData.eqv (py (w ns)) (py (w ms)) = decide (ns = ms) := by
  show PyData.eqv (.tuple (pys (ns.map .int))) (.tuple (pys (ms.map .int))) = _
  rw [pys_ints, pys_ints]
  simp only [PyData.eqv]
  exact eqv_ints ns ms
theorem r2_eqW {K : PySem.W.Frag} {ns ms : List Int} : R2D (rEqD K) (w ns) (w ms) (.bl (decide (ns = ms))) := by
  have h := r2_eqD (K := K) (noDic_w ns) (noDic_w ms) (shaped_w ns) (shaped_w ms)
  rw [eqv_w] at h
  exact h
theorem r2_neW {K : PySem.W.Frag} {ns ms : List Int} : R2D (rNeD K) (w ns) (w ms) (.bl (!decide (ns = ms))) := by
  have h := r2_neD (K := K) (noDic_w ns) (noDic_w ms) (shaped_w ns) (shaped_w ms)
  rw [eqv_w] at h
  exact h
end Fr

set_option Elab.async false
set_option linter.all false
set_option maxRecDepth 100000
set_option maxHeartbeats 4000000
namespace Fr
open PySem PySem.Spec PyProof.Rows L2
open Evl (Ex)
/-! # statements -/
def Run (ts : TS) (γ : Gam) (N : Gam → Prop) (R : Dat → Gam → Prop) : Prop := ∀ A0 H0 A H σ, Gr A0 H0 A H → Ok H0 A H σ γ → ∀ D : Ends,
  (∀ δ B H' σ', N δ → Gr A0 H0 B H' → Ex A B → Ok H0 B H' σ' δ → D.nx σ' H') → (∀ v B H' x σ' δ, R x δ → Gr A0 H0 B H' → Ok H0 B H' σ' δ → Rep B v x → D.rt v H') → ts D σ H
/-- a target takes data: the slots js are stored -/
def Tg (g : TG) (js : List Nat) (γ : Gam) (x : Dat) (δ : Gam) : Prop := ∀ H0 A H σ v, Ok H0 A H σ γ → Rep A v x → ∀ Q : L2.St → Hp → Prop,
  (∀ σ', Ok H0 A H σ' δ → σ'.length = σ.length → (∀ i : Nat, i ∉ js → σ'[i]? = σ[i]?) → Q σ' H) → g v σ H Q
def Tgs (g : TGs) (js : List Nat) (γ : Gam) (xs : List Dat) (δ : Gam) : Prop := ∀ H0 A H σ vs, Ok H0 A H σ γ → Reps A vs xs → ∀ Q : L2.St → Hp → Prop,
  (∀ σ', Ok H0 A H σ' δ → σ'.length = σ.length → (∀ i : Nat, i ∉ js → σ'[i]? = σ[i]?) → Q σ' H) → g vs σ H Q
theorem grOf {A0 H0 A H B H' : Hp} (g : Gr A0 H0 A H) (h : Gr A H B H') : Gr A0 H0 B H' := g.trans h
section
variable {K : PySem.W.Frag} {γ δ : Gam} {ta tb te : TE} {t : TT} {x y z : Dat} {xs ys : List Dat} {N M : Gam → Prop} {R : Dat → Gam → Prop} {tu tw : TS} {g : TG} {gs : TGs} {js : List Nat}
theorem tg_name (i : Nat) : Tg (gName i) [i] γ x (γ.set i (.d x)) := fun H0 A H σ v k r Q q =>
  q _ (k.setD r i) (by rw [List.length_set]) fun j hj => by rw [List.getElem?_set_ne (fun e => hj (by rw [e]; exact List.mem_singleton.mpr rfl))]
theorem tgs_nil : Tgs gNil [] γ [] γ := fun H0 A H σ vs k r Q q => by
  cases r
  exact ⟨rfl, q σ k rfl fun _ _ => rfl⟩
theorem tgs_cons {j1 : List Nat} {γ2 : Gam} (h : Tg g js γ x γ2) (hr : Tgs gs j1 γ2 xs δ) : Tgs (gCons g gs) (js ++ j1) γ (x :: xs) δ := fun H0 A H σ vs k r Q q => by
  cases r with
  | @cons v _ us _ r1 r2 =>
    refine ⟨v, us, rfl, h H0 A H σ v k r1 _ fun σ1 k1 l1 e1 => hr H0 A H σ1 us k1 r2 _ fun σ2 k2 l2 e2 => q σ2 k2 (l2.trans l1) fun i hi => ?_⟩
    rw [List.mem_append, not_or] at hi
    rw [e2 i hi.2, e1 i hi.1]
theorem tg_tup {n : Nat} (h : Tgs gs js γ xs δ) (hn : xs.length = n) : Tg (gTup K n gs) js γ (.tup xs) δ := fun H0 A H σ v k r Q q => by
  cases r with
  | @tup a us _ h1 r1 => exact ⟨a, us, rfl, SqT.of (k.sub _ _ h1), by rw [r1.len]; exact hn, h H0 A H σ us k r1 Q q⟩
theorem Run.weak {N' : Gam → Prop} {R' : Dat → Gam → Prop} (h : Run tu γ N R) (hn : ∀ δ, N δ → N' δ) (hr : ∀ x δ, R x δ → R' x δ) : Run tu γ N' R' := fun A0 H0 A H σ g k D dn dr =>
  h A0 H0 A H σ g k D (fun δ B H' σ' n => dn δ B H' σ' (hn δ n)) fun v B H' x σ' δ r => dr v B H' x σ' δ (hr x δ r)
theorem run_seq (h : Run tu γ M R) (hk : ∀ δ, M δ → Run tw δ N R) : Run (tSeq tu tw) γ N R := fun A0 H0 A H σ g k D dn dr =>
  h A0 H0 A H σ g k { D with nx := tw D } (fun δ B H' σ' m g' v k' => hk δ m A0 H0 B H' σ' g' k' D (fun δ2 B2 H2 σ2 n g2 v2 k2 => dn δ2 B2 H2 σ2 n g2 (v.trans v2) k2) dr) dr
/-- the usual: one way on -/
theorem run_seq1 (h : Run tu γ (fun ε => ε = δ) R) (hk : Run tw δ N R) : Run (tSeq tu tw) γ N R := run_seq h fun _ e => e ▸ hk
theorem run_next (h : N γ) : Run tNext γ N R := fun A0 H0 A H σ g k D dn dr => dn γ A H σ h g (Ex.refl A) k
theorem run_asgT (h : EvD te γ x) (ht : Tg g js γ x δ) (hn : N δ) : Run (tAsg te g) γ N R := fun A0 H0 A H σ g0 k D dn dr =>
  h H0 A H σ k _ fun v B H1 g1 r1 => ht H0 B H1 σ v (k.mono g1) r1 _ fun σ' k' _ _ => dn δ B H1 σ' hn (g0.trans g1) g1.view k'
theorem run_asg {i : Nat} (h : EvD te γ x) (hn : N (γ.set i (.d x))) : Run (tAsg te (gName i)) γ N R := run_asgT h (tg_name i) hn
theorem run_asgN {i : Nat} (h : EvN te γ xs) (hn : N (γ.set i (.o xs))) : Run (tAsg te (gName i)) γ N R := fun A0 H0 A H σ g0 k D dn dr =>
  h H0 A H σ k _ fun l vs B H1 g1 hl hB h1 r1 => by
    have k1 := k.mono g1
    refine dn _ B H1 _ hn (g0.trans g1) g1.view (k1.setM i (fun j t hj mt e => ?_) (fun _ z => nomatch z) (fun _ _ z => nomatch z) (fun _ _ z => nomatch z) (fun _ z => by cases z; exact ⟨vs, Evl.fresh_back g0.up hl, hB, h1, r1⟩) fun _ z => nomatch z)
    obtain ⟨a, o, e2, _, _, e3⟩ := k.addr hj mt
    rw [e2] at e
    cases e
    rw [hl] at e3
    cases e3
theorem run_ret (h : EvD te γ x) (hr : R x γ) : Run (tRet te) γ N R := fun A0 H0 A H σ g0 k D dn dr =>
  h H0 A H σ k _ fun v B H1 g1 r1 => dr v B H1 x σ γ hr (g0.trans g1) (k.mono g1) r1
theorem run_retN (hr : R .non γ) : Run tRetN γ N R := fun A0 H0 A H σ g0 k D dn dr => dr _ A H .non σ γ hr g0 k .non
theorem run_never : False → Run tNever γ N R := fun h => h.elim
theorem run_if {b : Bool} (h : EvT t γ b) (h1 : b = true → Run tu γ N R) (h2 : b = false → Run tw γ N R) : Run (tIfS t tu tw) γ N R := fun A0 H0 A H σ g0 k D dn dr =>
  h H0 A H σ k _ fun B H1 g1 => by
    have dn' : ∀ δ C H' σ', N δ → Gr A0 H0 C H' → Ex B C → Ok H0 C H' σ' δ → D.nx σ' H' := fun δ C H' σ' n g2 v2 k2 => dn δ C H' σ' n g2 (g1.view.trans v2) k2
    cases b with
    | true => exact h1 rfl A0 H0 B H1 σ (g0.trans g1) (k.mono g1) D dn' dr
    | false => exact h2 rfl A0 H0 B H1 σ (g0.trans g1) (k.mono g1) D dn' dr
theorem run_drop (h : EvD te γ x) (hn : N γ) : Run (tDrop te) γ N R := fun A0 H0 A H σ g0 k D dn dr =>
  h H0 A H σ k _ fun v B H1 g1 r1 => dn γ B H1 σ hn (g0.trans g1) g1.view (k.mono g1)
/-- an own list in slot i changes -/
theorem Ok.change {H0 A H : Hp} {σ : L2.St} {i : Nat} {l : Addr} {us : List V} (k : Ok H0 A H σ γ) (h : γ[i]? = some (Slot.o xs)) (e : σ[i]? = some (some (V.ref l))) (r : Reps A us ys) : Ok H0 A (upd H l (.lst us)) σ (γ.set i (.o ys)) :=
  k.turn h rfl e (fun _ z => nomatch z) (fun zs z => by cases z; exact ⟨us, rfl, r⟩) (fun _ z => nomatch z) (fun _ _ z => nomatch z) fun _ _ z => nomatch z
theorem run_app {i : Nat} (h : γ[i]? = some (Slot.o xs)) (he : EvD te γ x) (hz : xs.length < sizeLine) (hn : N (γ.set i (.o (xs ++ [x])))) : Run (tDrop (tBM K "list" rAppend (tVar i) (tCons te tNil))) γ N R := fun A0 H0 A H σ g0 k D dn dr => by
  obtain ⟨l, vs, e, h0, hA, hH, r⟩ := k.own i xs h
  refine ⟨.ref l, e, .inl ⟨rfl, vs, SqL.of hH⟩, he H0 A H σ k _ fun v B H1 g1 r1 => ?_⟩
  have k1 := k.mono g1
  have hB := g1.hid l _ hH True.intro hA
  refine ⟨l, vs, v, rfl, rfl, g1.up _ _ hH, by rw [r.len]; exact hz, ?_⟩
  exact dn _ B _ σ hn ((g0.trans g1).mut h0 hB) g1.view (k1.change h e ((r.mono g1.view).app (Reps.one r1)))
/-- an own list becomes data that stands still -/
theorem Ok.freeze {A0 H0 A H : Hp} {σ : L2.St} {i : Nat} (k : Ok H0 A H σ γ) (g : Gr A0 H0 A H) (h : γ[i]? = some (Slot.o xs)) : ∃ B, Gr A0 H0 B H ∧ Ex A B ∧ Ok H0 B H σ (γ.set i (.d (.lst xs))) := by
  obtain ⟨l, vs, e, h0, hA, hH, r⟩ := k.own i xs h
  obtain ⟨a, b, c⟩ := k.bare (x := .lst xs) g h rfl e hH (.lst upd_same (r.mono (Ex.new hA)))
  exact ⟨_, a, b, c⟩
/-- an own dict becomes data that stands still -/
theorem Ok.freezeD {A0 H0 A H : Hp} {σ : L2.St} {i : Nat} {es : List (List L2.Key × Dat)} (k : Ok H0 A H σ γ) (g : Gr A0 H0 A H) (h : γ[i]? = some (Slot.od es)) : ∃ B, Gr A0 H0 B H ∧ Ex A B ∧ Ok H0 B H σ (γ.set i (.d (.dic es))) := by
  obtain ⟨l, vs, e, h0, hA, hH, r⟩ := k.ownD i es h
  obtain ⟨a, b, c⟩ := k.bare (x := .dic es) g h rfl e hH (.dic upd_same (r.mono (Ex.new hA)))
  exact ⟨_, a, b, c⟩
theorem run_freezeD {i : Nat} {es : List (List L2.Key × Dat)} (h : γ[i]? = some (Slot.od es)) (hr : Run tu (γ.set i (.d (.dic es))) N R) : Run tu γ N R := fun A0 H0 A H σ g k D dn dr => by
  obtain ⟨B, g1, v1, k1⟩ := k.freezeD g h
  exact hr A0 H0 B H σ g1 k1 D (fun δ C H' σ' n g2 v2 k2 => dn δ C H' σ' n g2 (v1.trans v2) k2) dr
theorem run_freeze {i : Nat} (h : γ[i]? = some (Slot.o xs)) (hr : Run tu (γ.set i (.d (.lst xs))) N R) : Run tu γ N R := fun A0 H0 A H σ g k D dn dr => by
  obtain ⟨B, g1, v1, k1⟩ := k.freeze g h
  exact hr A0 H0 B H σ g1 k1 D (fun δ C H' σ' n g2 v2 k2 => dn δ C H' σ' n g2 (v1.trans v2) k2) dr
theorem run_less (h : Less γ δ) (hr : Run tu δ N R) : Run tu γ N R := fun A0 H0 A H σ g k D dn dr => hr A0 H0 A H σ g (k.less h) D dn dr
/-! ### loops -/
theorem run_forT {tl : TE} (h : EvD tl γ (.tup xs)) (I : Nat → Gam → Prop) (h0 : I 0 γ)
    (hs : ∀ i x δ, xs[i]? = some x → I i δ → ∃ js ε, Tg g js δ x ε ∧ Run tu ε (I (i + 1)) R) (hd : ∀ δ, I xs.length δ → N δ) : Run (tFor (iTup K tl) g tu) γ N R := fun A0 H0 A H σ g0 k D dn dr =>
  h H0 A H σ k _ fun v B H1 g1 r1 => by
    cases r1 with
    | @tup a us _ ha ru =>
      refine ⟨a, rfl, ⟨us, SqT.of (g1.sub _ _ ha)⟩, for_tup (K := K) (xs := us) (fun i σ' H' => ∃ δ C, I i δ ∧ Gr A0 H0 C H' ∧ Ex B C ∧ Ok H0 C H' σ' δ) ⟨γ, B, h0, g0.trans g1, Ex.refl B, k.mono g1⟩ ?_ ?_ ?_⟩
      · rintro i σ' H' _ ⟨δ, C, _, g2, v2, _⟩
        exact SqT.of (g2.sub _ _ (v2 _ _ ha))
      · rintro i u σ' H' hi ⟨δ, C, hI, g2, v2, k2⟩
        obtain ⟨x, hx, rx⟩ := ru.getV hi
        obtain ⟨js, ε, ht, hr⟩ := hs i x δ hx hI
        refine ht H0 C H' σ' u k2 (rx.mono v2) _ fun σ3 k3 _ _ => ?_
        exact hr A0 H0 C H' σ3 g2 k3 { D with nx := _, ct := _, bk := D.nx } (fun δ' C' H3 σ4 hN g4 v4 k4 => ⟨δ', C', hN, g4, v2.trans v4, k4⟩) dr
      · rintro σ' H' ⟨δ, C, hI, g2, v2, k2⟩
        rw [ru.len] at hI
        exact dn δ C H' σ' (hd δ hI) g2 (g1.view.trans v2) k2
theorem run_forL {tl : TE} (h : EvD tl γ (.lst xs)) (I : Nat → Gam → Prop) (h0 : I 0 γ)
    (hs : ∀ i x δ, xs[i]? = some x → I i δ → ∃ js ε, Tg g js δ x ε ∧ Run tu ε (I (i + 1)) R) (hd : ∀ δ, I xs.length δ → N δ) : Run (tFor (iList K tl) g tu) γ N R := fun A0 H0 A H σ g0 k D dn dr =>
  h H0 A H σ k _ fun v B H1 g1 r1 => by
    cases r1 with
    | @lst a us _ ha ru =>
      refine ⟨a, rfl, ⟨us, SqL.of (g1.sub _ _ ha)⟩, for_list (K := K) (xs := us) (fun i σ' H' => ∃ δ C, I i δ ∧ Gr A0 H0 C H' ∧ Ex B C ∧ Ok H0 C H' σ' δ) ⟨γ, B, h0, g0.trans g1, Ex.refl B, k.mono g1⟩ ?_ ?_ ?_⟩
      · rintro i σ' H' _ ⟨δ, C, _, g2, v2, _⟩
        exact SqL.of (g2.sub _ _ (v2 _ _ ha))
      · rintro i u σ' H' hi ⟨δ, C, hI, g2, v2, k2⟩
        obtain ⟨x, hx, rx⟩ := ru.getV hi
        obtain ⟨js, ε, ht, hr⟩ := hs i x δ hx hI
        refine ht H0 C H' σ' u k2 (rx.mono v2) _ fun σ3 k3 _ _ => ?_
        exact hr A0 H0 C H' σ3 g2 k3 { D with nx := _, ct := _, bk := D.nx } (fun δ' C' H3 σ4 hN g4 v4 k4 => ⟨δ', C', hN, g4, v2.trans v4, k4⟩) dr
      · rintro σ' H' ⟨δ, C, hI, g2, v2, k2⟩
        rw [ru.len] at hI
        exact dn δ C H' σ' (hd δ hI) g2 (g1.view.trans v2) k2
theorem run_forR {tr : TA} {n : Int} {j : Nat} (h : EvA tr γ [.int n]) (hn : -(2 ^ 62) ≤ n ∧ n < 2 ^ 62) (I : Nat → Gam → Prop) (h0 : I 0 γ)
    (hs : ∀ (i : Nat) δ, (i : Int) < n → I i δ → Run tu (δ.set j (.d (.int (i : Int)))) (I (i + 1)) R) (hd : ∀ δ, I n.toNat δ → N δ) : Run (tFor (iRng1 tr) (gName j) tu) γ N R := fun A0 H0 A H σ g0 k D dn dr =>
  h H0 A H σ k _ fun vs B H1 g1 r1 => by
    cases r1 with
    | cons r1 r2 =>
      cases r1
      cases r2
      refine ⟨n, rfl, hn.1, hn.2, for_range (lo := 0) (n := n.toNat) (fun i σ' H' => ∃ δ C, I i δ ∧ Gr A0 H0 C H' ∧ Ex B C ∧ Ok H0 C H' σ' δ) ⟨γ, B, h0, g0.trans g1, Ex.refl B, k.mono g1⟩ ?_ ?_⟩
      · rintro i σ' H' hi ⟨δ, C, hI, g2, v2, k2⟩
        have e0 : (0 : Int) + (i : Int) = (i : Int) := Int.zero_add _
        rw [e0]
        have k3 := k2.setD (v := .int (i : Int)) (.int _) j
        exact hs i δ (by omega) hI A0 H0 C H' _ g2 k3 { D with nx := _, ct := _, bk := D.nx } (fun δ' C' H3 σ4 hN g4 v4 k4 => ⟨δ', C', hN, g4, v2.trans v4, k4⟩) dr
      · rintro σ' H' ⟨δ, C, hI, g2, v2, k2⟩
        exact dn δ C H' σ' (hd δ hI) g2 (g1.view.trans v2) k2
theorem run_while (I : Nat → Gam → Prop) (m0 : Nat) (h0 : I m0 γ) (hs : ∀ m δ, I m δ → ∃ b, EvT t δ b ∧ (b = true → Run tu δ (fun ε => ∃ m', m' < m ∧ I m' ε) R) ∧ (b = false → N δ)) : Run (tWhile t tu) γ N R := fun A0 H0 A H σ g0 k D dn dr => by
  refine ⟨fun m σ' H' => ∃ δ C, I m δ ∧ Gr A0 H0 C H' ∧ Ex A C ∧ Ok H0 C H' σ' δ, ⟨m0, γ, A, h0, g0, Ex.refl A, k⟩, ?_⟩
  rintro m σ' H' ⟨δ, C, hI, g2, v2, k2⟩
  obtain ⟨b, hb, h1, h2⟩ := hs m δ hI
  refine hb H0 C H' σ' k2 _ fun B H1 g1 => ?_
  cases b with
  | true =>
    refine ⟨fun σ3 H3 => ∃ ε E, (∃ m', m' < m ∧ I m' ε) ∧ Gr A0 H0 E H3 ∧ Ex A E ∧ Ok H0 E H3 σ3 ε, fun σ3 H3 ⟨ε, E, ⟨m', hm, hI'⟩, a, b, c⟩ => ⟨m', hm, ε, E, hI', a, b, c⟩, ?_⟩
    exact h1 rfl A0 H0 B H1 σ' (g2.trans g1) (k2.mono g1) { D with nx := _, ct := _, bk := D.nx } (fun ε E H3 σ3 hN g3 v3 k3 => ⟨ε, E, hN, g3, (v2.trans g1.view).trans v3, k3⟩) dr
  | false => exact dn δ B H1 σ' (h2 rfl) (g2.trans g1) (v2.trans g1.view) (k2.mono g1)
end
/-! # a def -/
def entry (N : List Str) (xs : List Dat) : Gam := xs.map Slot.d ++ List.replicate (N.length - xs.length) Slot.no
theorem ok_entry {A H : Hp} (s : Ex A H) (N : List Str) {vs : List V} {xs : List Dat} (r : Reps A vs xs) : Ok H A H (L2.start N vs) (entry N xs) := by
  have no : ∀ (i : Nat) (t : Slot), (entry N xs)[i]? = some t → t.mine = false ∧ ∀ K m, t ≠ .scr K m := fun i t h => by
    unfold entry at h
    by_cases hi : i < xs.length
    · rw [List.getElem?_append_left (by simpa using hi), List.getElem?_map] at h
      cases e : xs[i]? with
      | none => rw [e] at h; cases h
      | some a => rw [e] at h; cases h; exact ⟨rfl, fun _ _ z => nomatch z⟩
    · rw [List.getElem?_append_right (by simpa using hi), List.getElem?_replicate] at h
      split at h <;> cases h
      exact ⟨rfl, fun _ _ z => nomatch z⟩
  refine ⟨s, ?_, fun i x h => ?_, fun i ys h => absurd (no i _ h).1 (by intro z; cases z), fun i ys h => absurd (no i _ h).1 (by intro z; cases z), fun i c ys h => absurd (no i _ h).1 (by intro z; cases z), fun i K m h => absurd rfl ((no i _ h).2 K m), fun i j l t u h1 h2 h3 => by rw [(no i t h1).1] at h3; cases h3⟩
  · unfold L2.start entry
    simp [r.len]
  · unfold entry at h
    by_cases hi : i < xs.length
    · rw [List.getElem?_append_left (by simpa using hi), List.getElem?_map] at h
      cases e : xs[i]? with
      | none => rw [e] at h; cases h
      | some a =>
        rw [e] at h
        cases h
        obtain ⟨v, h1, h2⟩ := r.get e
        refine ⟨v, ?_, h2⟩
        unfold L2.start
        rw [List.getElem?_append_left (by simpa [r.len] using hi), List.getElem?_map, h1]
        rfl
    · rw [List.getElem?_append_right (by simpa using hi), List.getElem?_replicate] at h
      split at h <;> cases h
section
variable {P : Program} {w0 : World} {K : PySem.W.Frag} {mg : Str → Option Value} {base : Heap}
theorem fn_pr {x qual : Str} {st : Stmt} {f : Addr} {fd : FuncData} {N ps : List Str} {k : Nat} {R : List Dat → Dat → Prop} (F : Fun K x qual st f fd) (S : FnScope N ps (defScope st)) (hlen : ∀ xs y, R xs y → xs.length = ps.length)
    (hbody : ∀ (cdv : Value) (A : Around) (outer : List PySem.Env) (s : Shared) (H : Hp) (E : XK), Room k (A.deeper (envOfC qual (defScope st) s.heap.objs.size f cdv)) →
      ∃ t, PSs (cxOf CX0 P w0 K mg base N qual (defScope st) f cdv A outer s H E).nox (defBody st) t ∧ ∀ xs y, R xs y → Run t (entry N xs) (fun _ => y = .non) (fun z _ => z = y)) : FnOk P w0 K mg base CX0 (k + 1) f fd ps (Pr R) := by
  refine F.ok S (fun vs H Q E h => ?_) fun cdv A outer s H vs Q E hr h => ?_
  · obtain ⟨A, xs, y, s, r, hR, _⟩ := h
    rw [r.len]
    exact hlen xs y hR
  · obtain ⟨B, xs, y, sub, r, hR, q⟩ := h
    obtain ⟨t, h1, h2⟩ := hbody cdv A outer s H E hr
    refine ⟨t, h1, h2 xs y hR B H B H _ (Gr.refl sub) (ok_entry sub N r) _ (fun δ C H' σ' hn g _ k' => ?_) fun v C H' z σ' δ hz g _ rz => ?_⟩
    · subst hn
      exact q _ C H' g .non
    · subst hz
      exact q v C H' g rz
end
end Fr

set_option Elab.async false
set_option linter.all false
set_option maxRecDepth 100000
set_option maxHeartbeats 4000000
namespace Fr
open PySem PySem.Spec PyProof.Rows L2
open Evl (Ex)
/-! # comprehensions -/
def wipeG (γ : Gam) : List Nat → Gam
  | [] => γ
  | v :: vs => (wipeG γ vs).set v .no
theorem Ok.wipe {H0 A H : Hp} {σ : L2.St} {γ : Gam} (k : Ok H0 A H σ γ) : ∀ vs : List Nat, Ok H0 A H (L2.wipe σ vs) (wipeG γ vs)
  | [] => k
  | v :: vs => (Ok.wipe k vs).forget v none
theorem wipe_get (σ : L2.St) (vs : List Nat) (i : Nat) : (L2.wipe σ vs)[i]? = if i ∈ vs ∧ i < σ.length then some none else σ[i]? := by
  induction vs with
  | nil => simp [L2.wipe]
  | cons v vs ih =>
    unfold L2.wipe
    by_cases q : v = i
    · subst q
      by_cases hv : v < σ.length
      · rw [List.getElem?_set_self (by rw [wipe_length]; exact hv), if_pos ⟨List.mem_cons_self, hv⟩]
      · rw [if_neg (fun z => hv z.2), List.getElem?_eq_none (by rw [List.length_set, wipe_length]; omega), List.getElem?_eq_none (by omega)]
    · rw [List.getElem?_set_ne q, ih]
      have e : (i ∈ vs ∧ i < σ.length) ↔ (i ∈ v :: vs ∧ i < σ.length) := by
        constructor
        · exact fun h => ⟨List.mem_cons_of_mem _ h.1, h.2⟩
        · intro h
          rcases List.mem_cons.mp h.1 with z | z
          · exact absurd z.symm q
          · exact ⟨z, h.2⟩
      by_cases hc : i ∈ vs ∧ i < σ.length
      · rw [if_pos hc, if_pos (e.mp hc)]
      · rw [if_neg hc, if_neg (fun z => hc (e.mpr z))]
theorem wipe_back {σ σ2 : L2.St} {vs js : List Nat} (hl : σ2.length = (L2.wipe σ vs).length) (h : ∀ i : Nat, i ∉ js → σ2[i]? = (L2.wipe σ vs)[i]?) (hj : ∀ j ∈ js, j ∈ vs) : L2.wipe σ2 vs = L2.wipe σ vs := by
  rw [wipe_length] at hl
  refine List.ext_getElem? fun i => ?_
  rw [wipe_get, wipe_get, hl]
  by_cases hc : i ∈ vs ∧ i < σ.length
  · rw [if_pos hc, if_pos hc]
  · rw [if_neg hc, if_neg hc]
    by_cases hi : i ∈ js
    · have hn : ¬ i < σ.length := fun z => hc ⟨hj i hi, z⟩
      rw [List.getElem?_eq_none (by omega), List.getElem?_eq_none (by omega)]
    · rw [h i hi, wipe_get, if_neg hc]
section
variable {K : PySem.W.Frag} {γ δ : Gam} {ta tb te tl : TE} {tt : TT} {x y z : Dat} {xs ys : List Dat} {g : TG} {js vs : List Nat} {α : Type}
def CP (l : List α) (f : α → Bool) (v : α → Dat) (B H1 : Hp) (D : Addr) (i : Nat) (H' : Hp) : Prop := ∃ C acc, Gr B H1 C H' ∧ C D = none ∧ H' D = some (.lst acc) ∧ Reps C acc (((l.take i).filter f).map v)
theorem cp_zero {l : List α} {f : α → Bool} {v : α → Dat} {B H1 : Hp} {D : Addr} (s : Ex B H1) (hD : H1 D = none) : CP l f v B H1 D 0 (upd H1 D (.lst [])) :=
  ⟨B, [], Gr.newU s hD, Evl.fresh_back s hD, upd_same, .nil⟩
theorem cp_step {l : List α} {f : α → Bool} {v : α → Dat} {H0 B H1 C : Hp} {σ : L2.St} {D : Addr} {i : Nat} {H' : Hp} {a : α} {xv : V} {acc : List V} (k : Ok H0 B H1 σ γ) (hD : H1 D = none) (hz : l.length < sizeLine) (hi : l[i]? = some a)
    (gC : Gr B H1 C H') (cD : C D = none) (hAcc : H' D = some (.lst acc)) (rAcc : Reps C acc (((l.take i).filter f).map v)) (rx : Rep C xv x) (hj : ∀ j ∈ js, j ∈ vs) (ht : Tg g js (wipeG γ vs) x δ) (hf : EvT tt δ (f a)) (he : f a = true → EvD te δ (v a)) :
    g xv (L2.wipe σ vs) H' fun σ2 H2 => L2.wipe σ2 vs = L2.wipe σ vs ∧ tt σ2 H2 fun b H3 => if b = true then te σ2 H3 fun y H4 => ∃ acc, H4 D = some (.lst acc) ∧ acc.length < sizeLine ∧ CP l f v B H1 D (i + 1) (upd H4 D (.lst (acc ++ [y]))) else CP l f v B H1 D (i + 1) H3 := by
  have tk : l.take (i + 1) = l.take i ++ [a] := by rw [List.take_add_one, hi]; rfl
  refine ht H0 C H' _ xv ((k.mono gC).wipe vs) rx _ fun σ2 k2 hl hoff => ⟨wipe_back hl hoff hj, ?_⟩
  refine hf H0 C H' σ2 k2 _ fun C2 H3 g2 => ?_
  have cD2 : C2 D = none := g2.hid D _ hAcc True.intro cD
  cases hfa : f a with
  | true =>
    refine he hfa H0 C2 H3 σ2 (k2.mono g2) _ fun yv C3 H4 g3 r3 => ?_
    have hD4 : H4 D = some (.lst acc) := g3.up _ _ (g2.up _ _ hAcc)
    have cD3 : C3 D = none := g3.hid D _ (g2.up _ _ hAcc) True.intro cD2
    have lz : acc.length ≤ i := by
      rw [rAcc.len, List.length_map]
      exact Nat.le_trans (List.length_filter_le _ _) (by rw [List.length_take]; exact Nat.min_le_left _ _)
    have il : i < l.length := (List.getElem?_eq_some_iff.mp hi).1
    refine ⟨acc, hD4, by omega, C3, acc ++ [yv], ((gC.trans g2).trans g3).mut hD cD3, cD3, upd_same, ?_⟩
    rw [tk, List.filter_append, List.map_append, List.filter_cons_of_pos hfa]
    exact ((rAcc.mono (g2.view.trans g3.view)).app (Reps.one r3))
  | false =>
    refine ⟨C2, acc, gC.trans g2, cD2, g2.up _ _ hAcc, ?_⟩
    rw [tk, List.filter_append, List.map_append, List.filter_cons_of_neg (by rw [hfa]; decide)]
    have := rAcc.mono g2.view
    rw [List.filter_nil, List.map_nil, List.append_nil]
    exact this
theorem cp_turn {l : List α} {f : α → Bool} {v : α → Dat} {H0 B H1 : Hp} {σ : L2.St} {D : Addr} {i : Nat} {H' : Hp} {a : α} {xv : V} (k : Ok H0 B H1 σ γ) (hD : H1 D = none) (hz : l.length < sizeLine) (hi : l[i]? = some a) (p : CP l f v B H1 D i H')
    (hx : ∀ C, Ex B C → Rep C xv x) (hj : ∀ j ∈ js, j ∈ vs) (ht : Tg g js (wipeG γ vs) x δ) (hf : EvT tt δ (f a)) (he : f a = true → EvD te δ (v a)) :
    g xv (L2.wipe σ vs) H' fun σ2 H2 => L2.wipe σ2 vs = L2.wipe σ vs ∧ tt σ2 H2 fun b H3 => if b = true then te σ2 H3 fun y H4 => ∃ acc, H4 D = some (.lst acc) ∧ acc.length < sizeLine ∧ CP l f v B H1 D (i + 1) (upd H4 D (.lst (acc ++ [y]))) else CP l f v B H1 D (i + 1) H3 := by
  obtain ⟨C, acc, gC, cD, hAcc, rAcc⟩ := p
  exact cp_step k hD hz hi gC cD hAcc rAcc (hx C gC.view) hj ht hf he
theorem en_lcT {l : List α} {enc : α → Dat} {f : α → Bool} {v : α → Dat} (h : EvD tl γ (.tup (l.map enc))) (hj : ∀ j ∈ js, j ∈ vs) (hz : l.length < sizeLine)
    (hs : ∀ a ∈ l, ∃ δ, Tg g js (wipeG γ vs) (enc a) δ ∧ EvT tt δ (f a) ∧ (f a = true → EvD te δ (v a))) : EvN (tLc (iTup K tl) g tt te vs) γ ((l.filter f).map v) := fun H0 A H σ k Q q =>
  h H0 A H σ k _ fun sv B H1 g1 r1 => by
    cases r1 with
    | @tup a us _ ha ru =>
      have hlen : us.length = l.length := by rw [ru.len, List.length_map]
      refine ⟨a, rfl, ⟨us, SqT.of (g1.sub _ _ ha)⟩, fun D hD => lc_tup (K := K) (xs := us) (CP l f v B H1 D) (cp_zero g1.sub hD) (fun i H' _ p => ?_) (fun i xv H' hi p => ?_) (fun H' p => ?_)⟩
      · obtain ⟨C, acc, gC, _⟩ := p
        exact SqT.of (gC.up _ _ (g1.sub _ _ ha))
      · obtain ⟨d, hd, rd⟩ := ru.getV hi
        rw [List.getElem?_map] at hd
        cases e : l[i]? with
        | none =>
          rw [e] at hd
          cases hd
        | some b =>
          rw [e] at hd
          cases hd
          obtain ⟨δ, t1, t2, t3⟩ := hs b (List.mem_of_getElem? e)
          exact cp_turn (k.mono g1) hD hz e p (fun C e2 => rd.mono e2) hj t1 t2 t3
      · obtain ⟨C, acc, gC, cD, hAcc, rAcc⟩ := p
        rw [hlen, List.take_length] at rAcc
        exact q D acc C H' (g1.trans gC) (Evl.fresh_back g1.up hD) cD hAcc rAcc
theorem en_lcL {l : List α} {enc : α → Dat} {f : α → Bool} {v : α → Dat} (h : EvR tl γ (l.map enc)) (hj : ∀ j ∈ js, j ∈ vs) (hz : l.length < sizeLine)
    (hs : ∀ a ∈ l, ∃ δ, Tg g js (wipeG γ vs) (enc a) δ ∧ EvT tt δ (f a) ∧ (f a = true → EvD te δ (v a))) : EvN (tLc (iList K tl) g tt te vs) γ ((l.filter f).map v) := fun H0 A H σ k Q q =>
  h H0 A H σ k _ fun a us B H1 g1 ha ru => by
    have hlen : us.length = l.length := by rw [ru.len, List.length_map]
    refine ⟨a, rfl, ⟨us, SqL.of ha⟩, fun D hD => lc_list (K := K) (xs := us) (CP l f v B H1 D) (cp_zero g1.sub hD) (fun i H' _ p => ?_) (fun i xv H' hi p => ?_) (fun H' p => ?_)⟩
    · obtain ⟨C, acc, gC, _⟩ := p
      exact SqL.of (gC.up _ _ ha)
    · obtain ⟨d, hd, rd⟩ := ru.getV hi
      rw [List.getElem?_map] at hd
      cases e : l[i]? with
      | none =>
        rw [e] at hd
        cases hd
      | some b =>
        rw [e] at hd
        cases hd
        obtain ⟨δ, t1, t2, t3⟩ := hs b (List.mem_of_getElem? e)
        exact cp_turn (k.mono g1) hD hz e p (fun C e2 => rd.mono e2) hj t1 t2 t3
    · obtain ⟨C, acc, gC, cD, hAcc, rAcc⟩ := p
      rw [hlen, List.take_length] at rAcc
      exact q D acc C H' (g1.trans gC) (Evl.fresh_back g1.up hD) cD hAcc rAcc
theorem en_lcR {tr : TA} {n : Int} {f : Nat → Bool} {v : Nat → Dat} (h : EvA tr γ [.int n]) (hj : ∀ j ∈ js, j ∈ vs) (hn : -(2 ^ 62) ≤ n ∧ n < sizeLine)
    (hs : ∀ a : Nat, (a : Int) < n → ∃ δ, Tg g js (wipeG γ vs) (.int (a : Int)) δ ∧ EvT tt δ (f a) ∧ (f a = true → EvD te δ (v a))) : EvN (tLc (iRng1 tr) g tt te vs) γ (((List.range n.toNat).filter f).map v) := fun H0 A H σ k Q q =>
  h H0 A H σ k _ fun us B H1 g1 ru => by
    have hsz : (sizeLine : Int) < 2 ^ 62 := by rw [sizeLine_eq]; decide
    cases ru with
    | cons r1 r2 =>
      cases r1
      cases r2
      refine ⟨n, rfl, hn.1, by omega, fun D hD => lc_range (lo := 0) (n := n.toNat) (CP (List.range n.toNat) f v B H1 D) (cp_zero g1.sub hD) (fun i H' hi p => ?_) (fun H' p => ?_)⟩
      · have e0 : (0 : Int) + (i : Int) = (i : Int) := Int.zero_add _
        rw [e0]
        obtain ⟨δ, t1, t2, t3⟩ := hs i (by omega)
        exact cp_turn (l := List.range n.toNat) (k.mono g1) hD (by rw [List.length_range]; omega) (by rw [List.getElem?_range hi]) p (fun C _ => .int _) hj t1 t2 t3
      · obtain ⟨C, acc, gC, cD, hAcc, rAcc⟩ := p
        have ht : (List.range n.toNat).take n.toNat = List.range n.toNat := List.take_of_length_le (by rw [List.length_range]; exact Nat.le_refl _)
        rw [ht] at rAcc
        exact q D acc C H' (g1.trans gC) (Evl.fresh_back g1.up hD) cD hAcc rAcc
theorem et_yes : EvT tYes γ true := fun H0 A H σ k Q q => q A H (Gr.refl k.sub)
/-- without an if -/
theorem filter_yes (l : List α) : l.filter (fun _ => true) = l := List.filter_eq_self.mpr fun _ _ => rfl
theorem en_is (h : EvN te γ xs) (e : xs = ys) : EvN te γ ys := e ▸ h
theorem er_is (h : EvR te γ xs) (e : xs = ys) : EvR te γ ys := e ▸ h
/-! # built-ins -/
theorem ev_lenT (h : EvD te γ (.tup xs)) : EvD (tCB (Evl.rLenS K) (tCons te tNil)) γ (.int (xs.length : Int)) := fun H0 A H σ k Q q =>
  h H0 A H σ k _ fun v B H1 g r => by
    cases r with
    | @tup a us _ ha ru =>
      refine ⟨a, us, rfl, .inr (SqT.of (g.sub _ _ ha)), ?_⟩
      rw [ru.len]
      exact q _ B H1 g (.int _)
theorem ev_lenL (h : EvR te γ xs) : EvD (tCB (Evl.rLenS K) (tCons te tNil)) γ (.int (xs.length : Int)) := fun H0 A H σ k Q q =>
  h H0 A H σ k _ fun a us B H1 g ha ru => by
    refine ⟨a, us, rfl, .inl (SqL.of ha), ?_⟩
    rw [ru.len]
    exact q _ B H1 g (.int _)
def rTupOf (K : PySem.W.Frag) : List V → Hp → VK → Prop := fun xs H Q => ∃ p ys, xs = [V.ref p] ∧ ((SqL K H p ys ∧ ∀ l, H l = none → Q (.ref l) (upd H l (.tup ys))) ∨ SqT K H p ys ∧ Q (.ref p) H)
theorem call_tupOf {X : Cx} : CallR X (.type "tuple") (rTupOf X.K) := call_tuple_of
theorem ev_tupL (h : EvR te γ xs) : EvD (tCB (rTupOf K) (tCons te tNil)) γ (.tup xs) := fun H0 A H σ k Q q =>
  h H0 A H σ k _ fun a us B H1 g ha ru => ⟨a, us, rfl, .inl ⟨SqL.of ha, fun p hp => by
    have g2 := Gr.new (o := .tup us) g.sub hp
    exact q _ _ _ (g.trans g2) (.tup upd_same (ru.mono g2.view))⟩⟩
theorem bls_of : ∀ {us : List V} {bs : List Bool} {A : Hp}, Reps A us (bs.map .bl) → us = bs.map V.bl
  | _, [], _, h => by cases h; rfl
  | _, b :: bs, _, h => by
    cases h with
    | cons h r =>
      cases h
      rw [bls_of r]
      rfl
theorem ev_all {bs : List Bool} (h : EvR te γ (bs.map .bl)) : EvD (tCB (rAll K) (tCons te tNil)) γ (.bl (bs.all id)) := fun H0 A H σ k Q q =>
  h H0 A H σ k _ fun a us B H1 g ha ru => by
    have e := bls_of ru
    subst e
    exact ⟨a, bs, rfl, SqL.of ha, q _ B H1 g (.bl _)⟩
/-- isinstance(x, one built-in class) -/
def tyN : Dat → String
  | .non => "NoneType" | .bl _ => "bool" | .int _ => "int" | .str _ => "str" | .tup _ => "tuple" | .lst _ => "list" | .dic _ => "dict" | .obj _ _ => "object" | .hnd _ => "object"
/-- a value's type -/
def tyV : Dat → Value
  | .obj C _ => .ref C
  | d => .type (tyN d)
/-- what a class of the program's own is known by -/
structure ObF (K : PySem.W.Frag) (C : Addr) : Prop where
  cl : Cls K C
  ha : PySem.W.findIn K (.ref C) "__class__" = some (some (.builtin "object.__class__"))
  hn : PySem.W.specialIn K (.builtin "object.__class__") "__get__" = some (some (.builtin "getset_descriptor.__get__"))
  htk : PySem.W.takesIn K (.builtin "object.__class__") = some true
  hm : PySem.W.mroIn K C (.type "object") = some true
  kInt : PySem.W.kitOne K (.ref C) (.type "int") = some false
  kBool : PySem.W.kitOne K (.ref C) (.type "bool") = some false
  kTup : PySem.W.kitOne K (.ref C) (.type "tuple") = some false
  kLst : PySem.W.kitOne K (.ref C) (.type "list") = some false
  kStr : PySem.W.kitOne K (.ref C) (.type "str") = some false
/-- of what it can be asked which type it has -/
def Fine (K : PySem.W.Frag) : Dat → Prop
  | .obj C _ => ObF K C
  | .hnd _ => False
  | _ => True
theorem Rep.ty {A H : Hp} (s : Ex A H) {v : V} (h : Rep A v x) (hf : Fine K x) : TyX K H v (tyV x) := by
  cases h with
  | non => exact .base .non
  | bl b => exact .base (.bl b)
  | int i => exact .base (.int i)
  | str x => exact .base (.str x)
  | tup h _ => exact .base (.tup (s _ _ h))
  | lst h _ => exact .base (.lst (s _ _ h))
  | dic h _ => exact .base (.dT (s _ _ h))
  | obj h _ =>
    have F : ObF K _ := hf
    exact .base (.ins (s _ _ h) F.cl F.ha F.hn F.htk F.hm)
  | hnd p => exact hf.elim
theorem ev_isi {n : String} {b : Bool} (h : EvD te γ x) (hf : Fine K x) (hb : PySem.W.kitOne K (tyV x) (.type n) = some b) : EvD (tCB (rIsi K) (tCons te (tCons (tC (.ty n)) tNil))) γ (.bl b) := fun H0 A H σ k Q q =>
  h H0 A H σ k _ fun v B H1 g r => ⟨v, .ty n, _, .type n, b, rfl, .ty n, r.ty g.sub hf, hb, q _ B H1 g (.bl b)⟩
theorem et_dictIn {c : Bool} : EvD te γ (.bl c) → EvT (tB te) γ c := et_B
end
end Fr

set_option Elab.async false
set_option linter.all false
set_option maxRecDepth 100000
set_option maxHeartbeats 4000000
namespace Fr
open PySem PySem.Spec PyProof.Rows L2
open Evl (Ex)
/-! # the names of the built-ins are what they were -/
structure Bs (mg : Str → Option Value) : Prop where
  isinstance : mg "isinstance" = none
  int : mg "int" = none
  bool : mg "bool" = none
  tuple : mg "tuple" = none
  list : mg "list" = none
  str : mg "str" = none
  all : mg "all" = none
  len : mg "len" = none
  range : mg "range" = none
  reversed : mg "reversed" = none
  zip : mg "zip" = none
  sum : mg "sum" = none
  max : mg "max" = none
  min : mg "min" = none
  abs : mg "abs" = none
  sorted : mg "sorted" = none
/-- a def that is called -/
structure Cal (P : Program) (w0 : World) (K : PySem.W.Frag) (mg : Str → Option Value) (base : Heap) (x : Str) (ps : List Str) (k : Nat) (R : List Dat → Dat → Prop) (f : Addr) (fd : FuncData) : Prop where
  ok : FnOk P w0 K mg base CX0 k f fd ps (Pr R)
  bd : Binds K fd ps []
  at_ : mg x = some (.ref f)
  kp : PySem.W.keepIn K (.ref f) = true
section
variable {K : PySem.W.Frag} {γ : Gam} {ta tb te : TE} {x y z : Dat} {xs ys : List Dat}
/-! # more of operators -/
theorem r2_inI {i : Int} {ns : List Int} : R2D (rIn K false) (.int i) (.tup (ns.map .int)) (.bl (ns.any fun n => n == i)) := fun A H vx vy s r1 r2 Q q => by
  cases r1
  cases r2 with
  | @tup a us _ h1 R1 =>
    have e := R1.ints
    subst e
    refine ⟨a, ns.map V.int, rfl, .inr (SqT.of (s _ _ h1)), rfl, ?_, ?_⟩
    · rw [List.all_map]
      exact List.all_eq_true.mpr fun _ _ => rfl
    · have e : inV (.int i) (ns.map V.int) = ns.any fun n => n == i := by
        unfold inV
        rw [List.any_map]
        rfl
      show Q (.bl (if false = true then _ else inV (.int i) (ns.map V.int))) H
      rw [if_neg Bool.false_ne_true, e]
      exact q _ A H (Gr.refl s) (.bl _)
theorem r2_is0 : R2D (fun x y H Q => y = .non ∧ Q (.bl (decide (x = .non))) H) .non .non (.bl true) := fun A H vx vy s r1 r2 Q q => by
  cases r1
  cases r2
  exact ⟨rfl, q _ A H (Gr.refl s) (.bl true)⟩
theorem r2_is1 (h : x ≠ .non) : R2D (fun x y H Q => y = .non ∧ Q (.bl (decide (x = .non))) H) x .non (.bl false) := fun A H vx vy s r1 r2 Q q => by
  cases r2
  refine ⟨rfl, ?_⟩
  have e : decide (vx = V.non) = false := decide_eq_false fun z => by
    subst z
    cases r1
    exact h rfl
  rw [e]
  exact q _ A H (Gr.refl s) (.bl false)
end
theorem pg_tupK {X : Cx} {es : List Expr} {k : Nat} {t : TGs} {pos : Pos} {K : PySem.W.Frag} (n : Nat) (hK : X.K = K) (hc : X.calm = true) (h : PGs X es t) (hn : (assignEach es X.env).length = n := by rfl) (hst : (assignEach es X.env).findIdx? (·.1) = none := by rfl) : PG X (.Tuple es k pos) (gTup K n t) := by
  subst hK
  exact pg_tup hc h hn hst
/-! # the library's rules, the written part named K -/
section
variable {X : Cx} {K : PySem.W.Frag}
theorem ix_listK (e : X.K = K) : IxR X (rIxL K) := e ▸ ix_list
theorem ix_tupK (e : X.K = K) : IxR X (rIxT K) := e ▸ ix_tup
theorem sl_tupK (e : X.K = K) : SlR X (rSlA K) := e ▸ sl_tupA
theorem sl_listK (e : X.K = K) : SlR X (rSlL K) := e ▸ sl_list
theorem op_catK (e : X.K = K) : OpR X (binaryOp .Add) (rCatA K) := e ▸ op_catA
theorem op_eqK (e : X.K = K) (hu : X.A.units + 64 < cLine) : OpR X (compareOp .Eq) (rEqD K) := e ▸ op_eqD hu
theorem op_neK (e : X.K = K) (hu : X.A.units + 64 < cLine) : OpR X (compareOp .NotEq) (rNeD K) := e ▸ op_neD hu
theorem op_ltK (e : X.K = K) (hu : X.A.units < cLine) : OpR X (compareOp .Lt) (rLtT K) := e ▸ op_ltT hu
theorem op_inK (e : X.K = K) : OpR X (compareOp .In) (rIn K false) := e ▸ op_in_seq
theorem op_ninK (e : X.K = K) : OpR X (compareOp .NotIn) (rIn K true) := e ▸ op_notIn_seq
theorem op_inDK (e : X.K = K) (hu : X.A.units + 65 < cLine) : OpR X (compareOp .In) (rInD K) := e ▸ op_inD hu
theorem op_ninDK (e : X.K = K) (hu : X.A.units + 65 < cLine) : OpR X (compareOp .NotIn) (rNotInD K) := e ▸ op_notInD hu
theorem call_isiK' (e : X.K = K) : CallR X (.builtin "isinstance") (rIsi K) := e ▸ call_isi
theorem call_isiTK (e : X.K = K) : CallR X (.builtin "isinstance") (rIsiT K) := e ▸ call_isiT
theorem call_lenK (e : X.K = K) : CallR X (.builtin "len") (Evl.rLenS K) := e ▸ call_len_seq
theorem call_tupK (e : X.K = K) : CallR X (.type "tuple") (rTupOf K) := e ▸ call_tupOf
theorem call_listK (e : X.K = K) : CallR X (.type "list") (Evl.rListS K) := e ▸ (call_list_of : CallR X (.type "list") (Evl.rListS X.K))
theorem cr_allK (e : X.K = K) (hc : X.calm = true) : CallR X (.builtin "all") (rAll K) := e ▸ cr_all hc
theorem cr_sumK (e : X.K = K) (hc : X.calm = true) : CallR X (.builtin "sum") (rSum K) := e ▸ cr_sum hc
theorem pi_tupK {tg l : Expr} {tl : TE} (e : X.K = K) (hl : PE X l tl) : PI X tg l (iTup K tl) := e ▸ pi_tup hl
theorem pi_listK {tg l : Expr} {tl : TE} (e : X.K = K) (hl : PE X l tl) : PI X tg l (iList K tl) := e ▸ pi_list hl
end
/-! # isinstance -/
def isaInt : Dat → Bool
  | .int _ => true
  | .bl _ => true
  | _ => false
def isaBool : Dat → Bool
  | .bl _ => true
  | _ => false
def isaTup : Dat → Bool
  | .tup _ => true
  | _ => false
def isaLst : Dat → Bool
  | .lst _ => true
  | _ => false
def isaStr : Dat → Bool
  | .str _ => true
  | _ => false
theorem kit_int {K : PySem.W.Frag} (x : Dat) (hf : Fine K x) : PySem.W.kitOne K (tyV x) (.type "int") = some (isaInt x) := by
  cases x with
  | non => exact kit_ty (by decide +kernel : kitB "NoneType" "int" = some false)
  | bl => exact kit_ty (by decide +kernel : kitB "bool" "int" = some true)
  | int => exact kit_ty (by decide +kernel : kitB "int" "int" = some true)
  | str => exact kit_ty (by decide +kernel : kitB "str" "int" = some false)
  | tup => exact kit_ty (by decide +kernel : kitB "tuple" "int" = some false)
  | lst => exact kit_ty (by decide +kernel : kitB "list" "int" = some false)
  | dic => exact kit_ty (by decide +kernel : kitB "dict" "int" = some false)
  | obj C fs => exact (show ObF K C from hf).kInt
  | hnd p => exact hf.elim
theorem kit_bool {K : PySem.W.Frag} (x : Dat) (hf : Fine K x) : PySem.W.kitOne K (tyV x) (.type "bool") = some (isaBool x) := by
  cases x with
  | non => exact kit_ty (by decide +kernel : kitB "NoneType" "bool" = some false)
  | bl => exact kit_ty (by decide +kernel : kitB "bool" "bool" = some true)
  | int => exact kit_ty (by decide +kernel : kitB "int" "bool" = some false)
  | str => exact kit_ty (by decide +kernel : kitB "str" "bool" = some false)
  | tup => exact kit_ty (by decide +kernel : kitB "tuple" "bool" = some false)
  | lst => exact kit_ty (by decide +kernel : kitB "list" "bool" = some false)
  | dic => exact kit_ty (by decide +kernel : kitB "dict" "bool" = some false)
  | obj C fs => exact (show ObF K C from hf).kBool
  | hnd p => exact hf.elim
theorem kit_tup {K : PySem.W.Frag} (x : Dat) (hf : Fine K x) : PySem.W.kitOne K (tyV x) (.type "tuple") = some (isaTup x) := by
  cases x with
  | non => exact kit_ty (by decide +kernel : kitB "NoneType" "tuple" = some false)
  | bl => exact kit_ty (by decide +kernel : kitB "bool" "tuple" = some false)
  | int => exact kit_ty (by decide +kernel : kitB "int" "tuple" = some false)
  | str => exact kit_ty (by decide +kernel : kitB "str" "tuple" = some false)
  | tup => exact kit_ty (by decide +kernel : kitB "tuple" "tuple" = some true)
  | lst => exact kit_ty (by decide +kernel : kitB "list" "tuple" = some false)
  | dic => exact kit_ty (by decide +kernel : kitB "dict" "tuple" = some false)
  | obj C fs => exact (show ObF K C from hf).kTup
  | hnd p => exact hf.elim
theorem kit_lst {K : PySem.W.Frag} (x : Dat) (hf : Fine K x) : PySem.W.kitOne K (tyV x) (.type "list") = some (isaLst x) := by
  cases x with
  | non => exact kit_ty (by decide +kernel : kitB "NoneType" "list" = some false)
  | bl => exact kit_ty (by decide +kernel : kitB "bool" "list" = some false)
  | int => exact kit_ty (by decide +kernel : kitB "int" "list" = some false)
  | str => exact kit_ty (by decide +kernel : kitB "str" "list" = some false)
  | tup => exact kit_ty (by decide +kernel : kitB "tuple" "list" = some false)
  | lst => exact kit_ty (by decide +kernel : kitB "list" "list" = some true)
  | dic => exact kit_ty (by decide +kernel : kitB "dict" "list" = some false)
  | obj C fs => exact (show ObF K C from hf).kLst
  | hnd p => exact hf.elim
theorem kit_str {K : PySem.W.Frag} (x : Dat) (hf : Fine K x) : PySem.W.kitOne K (tyV x) (.type "str") = some (isaStr x) := by
  cases x with
  | non => exact kit_ty (by decide +kernel : kitB "NoneType" "str" = some false)
  | bl => exact kit_ty (by decide +kernel : kitB "bool" "str" = some false)
  | int => exact kit_ty (by decide +kernel : kitB "int" "str" = some false)
  | str => exact kit_ty (by decide +kernel : kitB "str" "str" = some true)
  | tup => exact kit_ty (by decide +kernel : kitB "tuple" "str" = some false)
  | lst => exact kit_ty (by decide +kernel : kitB "list" "str" = some false)
  | dic => exact kit_ty (by decide +kernel : kitB "dict" "str" = some false)
  | obj C fs => exact (show ObF K C from hf).kStr
  | hnd p => exact hf.elim
section
variable {K : PySem.W.Frag} {γ : Gam} {te : TE} {x : Dat}
theorem ev_isInt (h : EvD te γ x) (hf : Fine K x := by first | exact True.intro | assumption) : EvD (tCB (rIsi K) (tCons te (tCons (tC (.ty "int")) tNil))) γ (.bl (isaInt x)) := ev_isi h hf (kit_int x hf)
theorem ev_isBool (h : EvD te γ x) (hf : Fine K x := by first | exact True.intro | assumption) : EvD (tCB (rIsi K) (tCons te (tCons (tC (.ty "bool")) tNil))) γ (.bl (isaBool x)) := ev_isi h hf (kit_bool x hf)
theorem ev_isTup (h : EvD te γ x) (hf : Fine K x := by first | exact True.intro | assumption) : EvD (tCB (rIsi K) (tCons te (tCons (tC (.ty "tuple")) tNil))) γ (.bl (isaTup x)) := ev_isi h hf (kit_tup x hf)
theorem ev_isLst (h : EvD te γ x) (hf : Fine K x := by first | exact True.intro | assumption) : EvD (tCB (rIsi K) (tCons te (tCons (tC (.ty "list")) tNil))) γ (.bl (isaLst x)) := ev_isi h hf (kit_lst x hf)
theorem ev_isStr (h : EvD te γ x) (hf : Fine K x := by first | exact True.intro | assumption) : EvD (tCB (rIsi K) (tCons te (tCons (tC (.ty "str")) tNil))) γ (.bl (isaStr x)) := ev_isi h hf (kit_str x hf)
end
end Fr

set_option Elab.async false
set_option linter.all false
set_option maxRecDepth 100000
set_option maxHeartbeats 4000000
namespace Fr
open PySem PySem.Spec PyProof.Rows L2
open Evl (Ex)
section
variable {K : PySem.W.Frag} {γ δ : Gam} {ta tb te td ty : TE} {tt : TT} {x y z : Dat} {xs ys : List Dat} {es : List (List L2.Key × Dat)} {N M : Gam → Prop} {R : Dat → Gam → Prop} {g : TG} {js vs : List Nat} {α : Type}
/-! # None -/
def isNon : Dat → Bool
  | .non => true
  | _ => false
theorem non_dec {A : Hp} {v : V} (h : Rep A v x) : decide (v = V.non) = isNon x := by
  cases h <;> first | rfl | exact decide_eq_false fun z => nomatch z
theorem r2_isN : R2D (fun x y H Q => y = .non ∧ Q (.bl (decide (x = .non))) H) x .non (.bl (isNon x)) := fun A H vx vy s r1 r2 Q q => by
  cases r2
  refine ⟨rfl, ?_⟩
  rw [non_dec r1]
  exact q _ A H (Gr.refl s) (.bl _)
theorem r2_notN : R2D (fun x y H Q => y = .non ∧ Q (.bl (!decide (x = .non))) H) x .non (.bl (!isNon x)) := fun A H vx vy s r1 r2 Q q => by
  cases r2
  refine ⟨rfl, ?_⟩
  rw [non_dec r1]
  exact q _ A H (Gr.refl s) (.bl _)
/-! # dicts whose keys are tuples of ints -/
def kw (ns : List Int) : List L2.Key := ns.map Sum.inl
theorem kw_inj : ∀ {ns ms : List Int}, kw ns = kw ms → ns = ms
  | [], [], _ => rfl
  | [], m :: ms, h => nomatch h
  | n :: ns, [], h => nomatch h
  | n :: ns, m :: ms, h => by
    have h' : (Sum.inl n : L2.Key) :: kw ns = Sum.inl m :: kw ms := h
    injection h' with h1 h2
    rw [kw_inj h2, Sum.inl.inj h1]
def lk (es : List (List L2.Key × Dat)) (k : List L2.Key) : Option Dat := (es.find? fun p => decide (p.1 = k)).map (·.2)
theorem RepsK.val {H : Hp} (k : List L2.Key) : ∀ {kvs : List (List L2.Key × V)} {es : List (List L2.Key × Dat)}, RepsK H kvs es → (lk es k = none ∧ valV kvs k = none) ∨ ∃ x v, lk es k = some x ∧ valV kvs k = some v ∧ Rep H v x
  | _, _, .nil => .inl ⟨rfl, rfl⟩
  | _, _, @RepsK.cons _ k' v d kvs es h r => by
    unfold lk valV
    by_cases e : k' = k
    · rw [List.find?_cons_of_pos (by simpa using e), List.find?_cons_of_pos (by simpa using e)]
      exact .inr ⟨d, v, rfl, rfl, h⟩
    · rw [List.find?_cons_of_neg (by simpa using e), List.find?_cons_of_neg (by simpa using e)]
      exact RepsK.val k r
theorem RepsK.len {H : Hp} : ∀ {kvs : List (List L2.Key × V)} {es : List (List L2.Key × Dat)}, RepsK H kvs es → kvs.length = es.length
  | _, _, .nil => rfl
  | _, _, .cons _ r => by simp [RepsK.len r]
/-- a dict that may be read -/
def EvK (te : TE) (γ : Gam) (es : List (List L2.Key × Dat)) : Prop := ∀ H0 A H σ, Ok H0 A H σ γ → ∀ Q : VK, (∀ l kvs B H', Gr A H B H' → H' l = some (.dT kvs) → RepsK B kvs es → Q (.ref l) H') → te σ H Q
theorem ek_ofD (h : EvD te γ (.dic es)) : EvK te γ es := fun H0 A H σ k Q q => h H0 A H σ k _ fun v B H1 g r => by
  cases r with
  | dic ha hr => exact q _ _ B H1 g (g.sub _ _ ha) hr
theorem ek_var {i : Nat} (h : γ[i]? = some (Slot.od es)) : EvK (tVar i) γ es := fun H0 A H σ k Q q => by
  obtain ⟨l, vs, a, _, _, b, c⟩ := k.ownD i es h
  exact ⟨_, a, q l vs A H (Gr.refl k.sub) b c⟩
theorem dget_of {B H : Hp} {l b : Addr} {kvs : List (List L2.Key × V)} {ws : List V} {ns : List Int} (hl : H l = some (.dT kvs)) (hb : H b = some (.tup ws)) (e : ws = ns.map V.int) : DGet H l (.ref b) (valV kvs (kw ns)) := by
  have e2 : (kw ns).map kV = ns.map V.int := by
    unfold kw
    rw [List.map_map]
    rfl
  exact .inr ⟨kvs, kw ns, b, .inl hl, rfl, by rw [hb, e, e2], rfl⟩
theorem ev_dget {ns : List Int} (hd : EvK td γ es) (hy : EvD ty γ (w ns)) (h : lk es (kw ns) = some x) : EvD (tDGet td ty) γ x := fun H0 A H σ k Q q =>
  hd H0 A H σ k _ fun l kvs B H1 g1 h1 R1 => hy H0 B H1 σ (k.mono g1) _ fun v C H2 g2 r2 => by
    cases r2 with
    | @tup b ws _ hb rw_ =>
      have dg := dget_of (B := C) (g2.up _ _ h1) (g2.sub _ _ hb) rw_.ints
      rcases (R1.mono g2.view).val (kw ns) with ⟨e, _⟩ | ⟨x', v', e, e2, rv⟩
      · rw [e] at h
        cases h
      · rw [e] at h
        cases h
        rw [e2] at dg
        exact ⟨l, v', rfl, dg, q v' C H2 (g1.trans g2) rv⟩
theorem ev_din {ns : List Int} (hd : EvK td γ es) (hy : EvD ty γ (w ns)) : EvD (tDIn ty td) γ (.bl (lk es (kw ns)).isSome) := fun H0 A H σ k Q q =>
  hy H0 A H σ k _ fun v B H1 g1 r1 => hd H0 B H1 σ (k.mono g1) _ fun l kvs C H2 g2 h2 R2 => by
    cases r1 with
    | @tup b ws _ hb rw_ =>
      have dg := dget_of (B := C) h2 (g2.up _ _ (g1.sub _ _ hb)) rw_.ints
      rcases R2.val (kw ns) with ⟨e, e2⟩ | ⟨x', v', e, e2, _⟩
      · exact ⟨l, _, rfl, dg, by rw [e2]; rw [e] at q; exact q _ C H2 (g1.trans g2) (.bl _)⟩
      · exact ⟨l, _, rfl, dg, by rw [e2]; rw [e] at q; exact q _ C H2 (g1.trans g2) (.bl _)⟩
theorem ev_dnotin {ns : List Int} (hd : EvK td γ es) (hy : EvD ty γ (w ns)) : EvD (tDNotIn ty td) γ (.bl (!(lk es (kw ns)).isSome)) := fun H0 A H σ k Q q =>
  hy H0 A H σ k _ fun v B H1 g1 r1 => hd H0 B H1 σ (k.mono g1) _ fun l kvs C H2 g2 h2 R2 => by
    cases r1 with
    | @tup b ws _ hb rw_ =>
      have dg := dget_of (B := C) h2 (g2.up _ _ (g1.sub _ _ hb)) rw_.ints
      rcases R2.val (kw ns) with ⟨e, e2⟩ | ⟨x', v', e, e2, _⟩
      · exact ⟨l, _, rfl, dg, by rw [e2]; rw [e] at q; exact q _ C H2 (g1.trans g2) (.bl _)⟩
      · exact ⟨l, _, rfl, dg, by rw [e2]; rw [e] at q; exact q _ C H2 (g1.trans g2) (.bl _)⟩
/-! # numbers -/
theorem ev_neg {i : Int} (h : EvD te γ (.int i)) : EvD (tUn (rU fun i => .int (-i)) te) γ (.int (-i)) := fun H0 A H σ k Q q => h H0 A H σ k _ fun v B H1 g r => by
  cases r
  exact ⟨i, rfl, q _ B H1 g (.int _)⟩
theorem ev_bits {i : Int} (h : EvD te γ (.int i)) : EvD (tBits te) γ (.int (Builtin.Int.intBits i : Nat)) := fun H0 A H σ k Q q => h H0 A H σ k _ fun v B H1 g r => by
  cases r
  exact ⟨i, rfl, q _ B H1 g (.int _)⟩
theorem r2_modN {i j : Int} (h : j ≠ 0) : R2D (rI (fun _ j => j ≠ 0) fun i j => .int (i.fmod j)) (.int i) (.int j) (.int (i.fmod j)) := r2_I h fun _ => .int _
theorem r2_fdivN {i j : Int} (h : CDivN i j) : R2D (rI CDivN fun i j => .int (i.fdiv j)) (.int i) (.int j) (.int (i.fdiv j)) := r2_I h fun _ => .int _
theorem r2_shr {i j : Int} (h : 0 ≤ j) : R2D (rI (fun _ j => 0 ≤ j) fun i j => .int (i / 2 ^ j.toNat)) (.int i) (.int j) (.int (i / 2 ^ j.toNat)) := r2_I h fun _ => .int _
theorem r2_and {i j : Int} : R2D (rI0 fun i j => .int (Builtin.bitAnd i j)) (.int i) (.int j) (.int (Builtin.bitAnd i j)) := r2_I0 fun _ => .int _
theorem r2_mul {i j : Int} (h : CMul i j) : R2D (rI CMul fun i j => .int (i * j)) (.int i) (.int j) (.int (i * j)) := r2_I h fun _ => .int _
/-! # a list's truth -/
theorem et_truL (h : EvR te γ xs) : EvT (fun σ H Q => te σ H fun x H' => ∃ k, TruV K x H' k ∧ Q k H') γ (!xs.isEmpty) := fun H0 A H σ k Q q => h H0 A H σ k _ fun l us B H1 g h1 r => by
  refine ⟨!xs.isEmpty, .inl ⟨us, SqL.of h1, ?_⟩, q B H1 g⟩
  cases r <;> rfl
/-! # xs.extend(a tuple) -/
def rExtT (K : PySem.W.Frag) : V → List V → Hp → VK → Prop := fun x vs H Q => ∃ l b xs zs, x = .ref l ∧ vs = [.ref b] ∧ H l = some (.lst xs) ∧ SqT K H b zs ∧ xs.length + zs.length ≤ sizeLine ∧ Q .non (upd H l (.lst (xs ++ zs)))
end
theorem ext_meets (l b : Addr) (items items2 : Array Value) (n n2 : Nat) (dd : Option Addr) (sl : Array (Option Value)) (hs0 : ¬(!items.isEmpty && Builtin.List.listTooLong (items.size + items2.size)) = true) (hs1 : items.size ≤ sizeLine) (hs2 : items.size + items2.size ≤ sizeLine + 1) :
    Meets (Builtin.«list.extend» ⟨[.ref l, .ref b], []⟩) (fun _ R s => s.heap.get? l = some { cls := .type "list", dict := none, data := .seq items n, slots := #[] } ∧ s.heap.get? b = some { cls := .type "tuple", dict := dd, data := .seq items2 n2, slots := sl } ∧
      R (.ok (.ret Value.none)) { s with heap := s.heap.update l (Obj.mapSeq fun x => x ++ items2), toks := s.toks }) :=
  .of_wp fun prog w A R s h => by
    obtain ⟨hp, g, d, tk, os⟩ := s
    obtain ⟨hl, hb, h⟩ := h
    have f1 := AutoSeq1.idx_int
    have f2 := AutoSeq1.sub_tuple_tuple
    have f3 := AutoSeq1.sub_list_list
    have f4 := AutoSeq1.sub_tuple_list
    have f5 := AutoSeq1.sub_list_tuple
    have hz' : (items ++ items2).size ≤ sizeLine + 1 := by rw [Array.size_append]; exact hs2
    wp_walk using (PySem.wpAny_updateSeq hl rfl (hz := hs1) (_hz' := hz')), AutoSeq1.wpAny_loadPart' hl, AutoSeq1.wpAny_loadPart' hb
    exact ⟨_, rfl, h⟩
theorem mt_extT {X : Cx} : MtM X "list.extend" (rExtT X.K) := by
  intro pins s σ H x vs v us Q I rx rv h
  obtain ⟨l, b, xs, zs, rfl, rfl, hH, hB, hz, q⟩ := h
  cases rx
  obtain ⟨u, rfl, ru⟩ := rv.one
  cases ru
  obtain ⟨z, its, n, r, hl, e⟩ := I.lstM hH
  obtain ⟨its2, r2, ⟨⟨cls, dd, data, sl⟩, ho, hc, n2, hd⟩, hl2⟩ := I.tuple hB
  simp only at hc hd
  subst hc hd
  have len2 : its2.length = zs.length := r2.length.symm
  have both : its.toArray.size + its2.toArray.size ≤ sizeLine := by rw [List.size_toArray, List.size_toArray]; omega
  have short : ¬ (!its.toArray.isEmpty && Builtin.List.listTooLong (its.toArray.size + its2.toArray.size)) = true := by
    rw [notLongL both, Bool.and_false]
    exact Bool.false_ne_true
  refine call_meets F.slot_list_extend ⟨_, e, rfl⟩ F.entry_list_extend (F.args_list_extend_2 _ _) (ext_meets l b its.toArray its2.toArray n n2 dd sl short (by omega) (by omega)) ⟨e, ho, ?_⟩
  refine ⟨.non, _, I.lset (its' := its ++ its2) hH e (by simp) (r.append r2) (by rw [List.length_append]; omega), rfl, q⟩
section
variable {K : PySem.W.Frag} {γ : Gam} {te : TE} {xs ys : List Dat} {N : Gam → Prop} {R : Dat → Gam → Prop}
theorem run_ext {i : Nat} (h : γ[i]? = some (Slot.o xs)) (he : EvD te γ (.tup ys)) (hz : xs.length + ys.length ≤ sizeLine) (hn : N (γ.set i (.o (xs ++ ys)))) : Run (tDrop (tBM K "list" (rExtT K) (tVar i) (tCons te tNil))) γ N R := fun A0 H0 A H σ g0 k D dn dr => by
  obtain ⟨l, vs, e, h0, hA, hH, r⟩ := k.own i xs h
  refine ⟨.ref l, e, .inl ⟨rfl, vs, SqL.of hH⟩, he H0 A H σ k _ fun v B H1 g1 r1 => ?_⟩
  have k1 := k.mono g1
  have hB := g1.hid l _ hH True.intro hA
  cases r1 with
  | @tup b us _ hb ru =>
    refine ⟨l, b, vs, us, rfl, rfl, g1.up _ _ hH, SqT.of (g1.sub _ _ hb), by rw [r.len, ru.len]; exact hz, ?_⟩
    exact dn _ B _ σ hn ((g0.trans g1).mut h0 hB) g1.view (k1.change h e ((r.mono g1.view).app ru))
end
end Fr

set_option Elab.async false
set_option linter.all false
set_option maxRecDepth 100000
set_option maxHeartbeats 4000000
namespace Fr
open PySem PySem.Spec PyProof.Rows L2
open Evl (Ex)
theorem tkr {prog : Program} {w0 : World} {κ : Type} [DecidableEq κ] {knd : PySem.KeyKind prog w0 κ} {A : Around} (hu : A.units + 1 < cLine) : (tupleKind knd).room A := by
  show A.units < cLine
  omega
/-- a new dict gets an entry under a tuple -/
theorem dict_set_t {X : Cx} {pins : List (Addr × Obj)} {σ : L2.St} {H : Hp} {s : Shared} {E : Value → Shared → Prop} {D c : Addr} {kvs : List (List L2.Key × V)} {k : List L2.Key} {v : V} {u r : Value} {Q : Unit → Shared → Prop} (hu : X.A.units + 1 < cLine) (I : Inv X pins σ H s) (hD : H D = some (.dT kvs))
    (hz : kvs.length < sizeLine) (hc : H c = some (.tup (k.map kV))) (ry : L2.RelV (.ref c) u) (rv : L2.RelV v r) (h : ∀ s', Inv X pins σ (upd H D (.dT (putK kvs k v))) s' → Q () s') : wpAny (model X.prog X.w) X.A (dictSet D u r) Q E s := by
  cases (show u = Value.ref c from ry)
  obtain ⟨z, hd, ws, rel, dd⟩ := dt_of I.hok hD
  have room : ws.length ≤ sizeLine := by rw [← Paired.length rel]; exact z
  have more : (putK kvs k v).length ≤ sizeLine := by have := length_putK kvs k v; omega
  refine wpAny_dictSet_heap (hsz := room) (tkr hu) (key_of I.hok hc) dd fun h' dd' hs => h _ ?_
  obtain ⟨q, es, ep, hq, h2, h3, h4, _, h5⟩ := dd'
  refine d_write I (by rw [hD]; exact True.intro) hs ⟨q, hq⟩ ⟨more, hd, _, (rel.put k hc rv).keeps fun b ys eb => ?_, q, es, ep, hq, h2, h3, h4, h5⟩
  rw [upd_ne (ne_of eb hD (fun z => nomatch z))]
  exact eb
section
variable {X : Cx}
/-- one turn of {k: v for target in iter if ..}, keys tuples: from x to what Nx says -/
def tTurnT (g : TG) (tt : TT) (tk tv : TE) (vs : List Nat) (σ : L2.St) (D : Addr) (Nx : Hp → Prop) (x : V) (H : Hp) : Prop :=
  g x (wipe σ vs) H fun σ2 H2 => wipe σ2 vs = wipe σ vs ∧ tt σ2 H2 fun b H3 =>
    if b = true then tk σ2 H3 fun y H4 => tv σ2 H4 fun z H5 => ∃ kvs k c, y = .ref c ∧ H5 c = some (.tup (k.map kV)) ∧ H5 D = some (.dT kvs) ∧ kvs.length < sizeLine ∧ Nx (upd H5 D (.dT (putK kvs k z))) else Nx H3
/-- the whole: D the new dict, W a word that falls -/
def tDcT (wi : TI) (g : TG) (tt : TT) (tk tv : TE) (vs : List Nat) : TE := fun σ H Q => wi σ H fun J H1 => ∀ D, H1 D = none → ∃ W : Nat → Nat → Hp → Prop, (∃ m, W 0 m (upd H1 D (.dT []))) ∧
  ∀ i m H, W i m H → (J.stop i H ∧ Q (.ref D) H) ∨ (J.go i H ∧ ∃ Nx : Hp → Prop, (∀ H', Nx H' → ∃ m', m' < m ∧ W (i + 1) m' H') ∧ ∀ x H', J.yld i H x H' → tTurnT g tt tk tv vs σ D Nx x H')
/-- the block's context -/
abbrev Bk (X : Cx) (scope : Scope) (s : Shared) (H : Hp) (C : Addr) (cl : List (Str × Addr)) (fp : List Addr) : Cx := X.blk s H scope (compEnvC scope cl C X.env) fp
theorem dcT_run {pins : List (Addr × Obj)} {s : Shared} {σ : L2.St} {H : Hp} {Q : VK} {kx vx tg iter : Expr} {ifs : List Expr} {scope : Scope} {own : List (Str × Nat)} {pos pos' : Pos} {wi : TI} {g : TG} {tt : TT} {tk tv : TE} {use : Option (Value → Sem Unit)} {Qf : Value → Shared → Prop} (hu : X.A.units + 1 < cLine)
    (calm : X.calm = true) (nd : X.N.Nodup) (I : Inv X pins σ H s) (walk : PI X tg iter wi) (blk : BlkOk X.N X.env.scope scope own) (pg : ∀ s H C cl fp, PG (Bk X scope s H C cl fp) tg g) (pt : ∀ s H C cl fp, PTs (Bk X scope s H C cl fp) ifs tt) (pk : ∀ s H C cl fp, PE (Bk X scope s H C cl fp) kx tk) (pv : ∀ s H C cl fp, PE (Bk X scope s H C cl fp) vx tv)
    (plain : ∀ x, foldedSetIterable iter X.env x = pure x) (h : tDcT wi g tt tk tv (own.map (·.2)) σ H Q)
    (back : ∀ D C s' m H', Inv X pins σ H' s' → Q (.ref D) H' → s'.heap.Ns C m → FpOk X pins H' C → compPost (model X.prog X.w) X.A X.xe use Qf (.ref D) C (.ok .next) s') :
    wpAny (model X.prog X.w) X.A (comprehension (.DictComp kx vx [⟨tg, iter, ifs, 0⟩] scope pos) scope X.env pos' newDict false (eval iter X.env) use) Qf X.xe s := by
  have free : ∀ y ∈ scope.names, y.2 = .free → ∃ c, X.env.cells.lookup y.1 = some c := fun y hy e => (blk.free y hy e).elim (fun k => I.ok.has _ (.inl k)) fun k => I.ok.has _ (.inr k)
  refine wpAny_comprehension_free (use := use) rfl plain (closure_ok free) blk.kind (fun y hy e => by rw [blk.uniq y hy, e]) (thn (walk.run pins s σ H _ I h) fun xv sA hx => thn hx fun itv sB hB => ?_)
  obtain ⟨it, fp, tn, J, HB, rfl, IB, T, stB, fB, q⟩ := hB
  refine wpAny_newObj_type (newEnv_comp ?_)
  generalize eD : sB.heap.objs.size = D
  have freeD : HB D = none := IB.hok.fresh (Nat.le_of_eq eD)
  obtain ⟨W, ⟨m0, w0⟩, turn⟩ := q D freeD
  generalize eC : ({ sB with heap := sB.heap.push { cls := .type "dict", data := .dict #[] } } : Shared) = sC
  have IC : Inv X pins σ (upd HB D (.dT [])) sC := by
    subst eC
    refine IB.laid (t' := sB.toks) (fun b o e => Heap.get?_push_of_some _ e) (Nat.le_of_eq eD) ?_
    subst eD
    exact dt_empty sB.heap IB.big
  have hpC : sC.heap = sB.heap.push { cls := .type "dict", data := .dict #[] } := by rw [← eC]
  have low : ∀ b ∈ fp, b < sB.heap.objs.size := fun b hb => let ⟨_, e, _⟩ := T.obj _ _ stB b hb; Heap.lt_size e
  have fC : ∀ b ∈ fp, FpOk X pins (upd HB D (.dT [])) b ∧ b < sC.heap.objs.size := fun b hb => by
    refine ⟨⟨?_, (fB b hb).2⟩, by rw [hpC, Heap.size_push]; exact Nat.lt_succ_of_lt (low b hb)⟩
    rw [upd_ne (by rw [← eD]; exact Nat.ne_of_lt (low b hb))]
    exact (fB b hb).1
  have stC : tn 0 sC.heap := T.keep _ _ _ stB fun b _ o e => by rw [hpC]; exact Heap.get?_push_of_some _ e
  have IE := block_start IC blk nd fC
  have noFp : ∀ b ∈ fp, (upd HB D (.dT [])) b = none := fun b hb => (fC b hb).1.1
  have pg' := pg sC (upd HB D (.dT [])) sC.heap.objs.size (cellsFrom (sC.heap.objs.size + 1) scope.names (cloFrom X.env.cells scope.names [])) fp
  have pt' := pt sC (upd HB D (.dT [])) sC.heap.objs.size (cellsFrom (sC.heap.objs.size + 1) scope.names (cloFrom X.env.cells scope.names [])) fp
  have pk' := pk sC (upd HB D (.dT [])) sC.heap.objs.size (cellsFrom (sC.heap.objs.size + 1) scope.names (cloFrom X.env.cells scope.names [])) fp
  have pv' := pv sC (upd HB D (.dT [])) sC.heap.objs.size (cellsFrom (sC.heap.objs.size + 1) scope.names (cloFrom X.env.cells scope.names [])) fp
  show codeAny _ _ (.compStart (.DictComp kx vx [⟨tg, iter, ifs, 0⟩] scope pos) 0 (.ref it) (.ref D) (compEnvC scope (cellsFrom (sC.heap.objs.size + 1) scope.names (cloFrom X.env.cells scope.names [])) sC.heap.objs.size X.env)) (compPost _ X.A X.xe use Qf (.ref D) sC.heap.objs.size) { sC with heap := pushCells (sC.heap.push { cls := .type "dict", data := .dict #[] }) scope.names }
  unfold Bk at pg' pt' pk' pv'
  generalize eEnv : compEnvC scope (cellsFrom (sC.heap.objs.size + 1) scope.names (cloFrom X.env.cells scope.names [])) sC.heap.objs.size X.env = env2 at IE pg' pt' pk' pv' ⊢
  have locE : env2.locals = sC.heap.objs.size := by subst eEnv; rfl
  generalize eHC : upd HB D (.dT []) = HC at IC IE pg' pt' pk' pv' w0 noFp fC
  generalize eS : ({ sC with heap := pushCells (sC.heap.push { cls := .type "dict", data := .dict #[] }) scope.names } : Shared) = sE at IE ⊢
  have stE : tn 0 sE.heap := T.keep _ _ _ stC fun b _ o e => by rw [← eS]; exact pushCells_keeps _ _ _ _ (Heap.get?_push_of_some _ e)
  have standing : ∀ {σ' : L2.St} {H' : Hp} {s' : Shared}, Inv (X.blk sC HC scope env2 fp) [] σ' H' s' → (∀ b ∈ fp, H' b = none) → ∀ b ∈ fp, FpOk (X.blk sC HC scope env2 fp) [] H' b := fun {σ' H' s'} I' hn b hb =>
    ⟨hn b hb, (I'.ok.exf b hb).1, I'.ok.exfs b hb, .inl hb, fun x c e => (I'.ok.exf b hb).2 x c e, fun p hp => absurd (show p ∈ ([] : List (Addr × Obj)) ++ [] from hp) (by simp)⟩
  have loop : codeAny (model X.prog X.w) X.A (.compLoop (.DictComp kx vx [⟨tg, iter, ifs, 0⟩] scope pos) 0 (.ref it) (.ref D) env2) (compPost (model X.prog X.w) X.A X.xe use Qf (.ref D) sC.heap.objs.size) sE := by
    refine compLoop_anyD (fun n s' => ∃ i H', Inv (X.blk sC HC scope env2 fp) [] (wipe σ (own.map (·.2))) H' s' ∧ tn i s'.heap ∧ (∀ b ∈ fp, H' b = none) ∧ W i n H') ?_ m0 ⟨0, HC, IE, stE, noFp, w0⟩
    rintro n sF ⟨i, HF, IF, stF, nF, wF⟩
    rcases turn i n HF wF with ⟨ends, done⟩ | ⟨goes, Nx, falls, step⟩
    · refine thnF (T.done (X.blk sC HC scope env2 fp) rfl rfl rfl calm i [] sF _ HF (fun _ _ => False) IF (standing IF nF) stF ends) fun r sG ⟨hr, IG⟩ => ?_
      subst hr
      have home : Inv X pins σ HF sG := IC.call' (ch := fp) IG.os IG.base IG.hok IG.bare fun b hb => ⟨(fC b hb).1.2.2.2.1, (fC b hb).1.2.1, (fC b hb).1.2.2.2.2.1, (fC b hb).1.2.2.2.2.2⟩
      have none2 : HF sC.heap.objs.size = none := locE ▸ (show HF env2.locals = none from IG.free)
      obtain ⟨m, ns, _⟩ := IG.loc
      have ns : sG.heap.Ns env2.locals m := ns
      rw [locE] at ns
      exact back D sC.heap.objs.size sG m HF home done ns (IC.fpOk (Nat.le_refl _) none2)
    · refine thnF (T.item (X.blk sC HC scope env2 fp) rfl rfl rfl calm i [] sF _ HF (fun _ _ => False) IF (standing IF nF) stF goes) fun r sG ⟨u, hr, hG⟩ => ?_
      subst hr
      refine thnF hG fun _ sK ⟨x, HK, IK, rK, yK, stK, nK⟩ => ?_
      have pinned := IK.pinned (standing IK nK) (T.obj _ _ stK)
      refine thnF (pg'.run _ sK _ HK x u _ pinned rK (step x HK yK)) fun _ sL ⟨σL, HL, IL, eL, qL⟩ => ?_
      refine thnF (pt'.run _ sL σL HL _ IL qL) fun b sM ⟨HM, IM, qM⟩ => ?_
      have onward : ∀ {s' : Shared} {H' : Hp}, Inv (X.blk sC HC scope env2 fp) ([] ++ pinsAt fp sK.heap) σL H' s' → Nx H' → ∃ m, m < n ∧ ∃ i H', Inv (X.blk sC HC scope env2 fp) [] (wipe σ (own.map (·.2))) H' s' ∧ tn i s'.heap ∧ (∀ b ∈ fp, H' b = none) ∧ W i m H' := fun {s' H'} I' nx => by
        obtain ⟨m', hm, w'⟩ := falls H' nx
        have kept : ∀ b ∈ fp, ∀ o, sK.heap.get? b = some o → s'.heap.get? b = some o ∧ H' b = none := fun b hb o e =>
          let z := I'.pin (b, o) (List.mem_append_right _ (List.mem_append_right _ (mem_pinsAt hb e)))
          ⟨z.1, z.2.1⟩
        have same : (wipe σ (own.map (·.2))).length = σL.length := by rw [← eL, wipe_length]
        refine ⟨m', hm, i + 1, H', (I'.unpinned (pins := [])).weak same (fun j v e => ?_), T.keep _ _ _ stK fun b hb o e => (kept b hb o e).1, fun b hb => ?_, w'⟩
        · rw [← eL] at e
          exact (wipe_some e).1
        · obtain ⟨o, e, _⟩ := T.obj _ _ stK b hb
          exact (kept b hb o e).2
      cases b with
      | false =>
        simp only [Bool.false_eq_true, if_false] at qM ⊢
        exact onward IM qM
      | true =>
        simp only [if_true] at qM ⊢
        refine thnF (pk'.run _ sM σL HM _ IM qM) fun z sO ⟨yk, HO', IO, rO, qO⟩ => ?_
        refine thnF (pv'.run _ sO σL HO' _ IO qO) fun z2 sP ⟨yv, HP, IP, rP, kvs, k, kc, ek, hkc, hDP, hzP, nx⟩ => ?_
        subst ek
        exact dict_set_t (X := X.blk sC HC scope env2 fp) hu IP hDP hzP hkc rO rP fun sQ IQ => onward IQ nx
  exact codeAny_compStart_dict loop (T.self X.A 0 _ _ _ stE loop)
theorem pe_dcT {kx vx tg iter : Expr} {ifs : List Expr} {scope : Scope} {own : List (Str × Nat)} {pos : Pos} {wi : TI} {g : TG} {tt : TT} {tk tv : TE} (hu : X.A.units + 1 < cLine) (calm : X.calm = true) (nd : X.N.Nodup) (walk : PI X tg iter wi) (blk : BlkOk X.N X.env.scope scope own) (pg : ∀ s H C cl fp, PG (Bk X scope s H C cl fp) tg g)
    (pt : ∀ s H C cl fp, PTs (Bk X scope s H C cl fp) ifs tt) (pk : ∀ s H C cl fp, PE (Bk X scope s H C cl fp) kx tk) (pv : ∀ s H C cl fp, PE (Bk X scope s H C cl fp) vx tv) (plain : ∀ x, foldedSetIterable iter X.env x = pure x := by intro _; rfl) :
    PE X (.DictComp kx vx [⟨tg, iter, ifs, 0⟩] scope pos) (tDcT wi g tt tk tv (own.map (·.2))) := by
  refine ⟨fun pins s σ H Q I h => ?_⟩
  rw [arm_eval_DictComp]
  refine dcT_run hu calm nd I walk blk pg pt pk pv plain h fun D C s' m H' I' q hn f => ⟨m, hn, fun h'' sb => ?_⟩
  obtain ⟨f0, f1, f2, f3, f4, f5⟩ := f
  exact ⟨.ref D, H', I'.turned (t' := s'.toks) (fun b o hb e => (sb.2 b hb).trans e) f0 f1 f3 f4 f5, rfl, q⟩
end
end Fr

set_option Elab.async false
set_option linter.all false
set_option maxRecDepth 100000
set_option maxHeartbeats 4000000
namespace Fr
open PySem PySem.Spec PyProof.Rows L2
open Evl (Ex)
/-! # a dict comprehension gives -/
def putE (es : List (List L2.Key × Dat)) (k : List L2.Key) (x : Dat) : List (List L2.Key × Dat) :=
  if (es.any fun e => decide (e.1 = k)) = true then es.map (fun e => if e.1 = k then (e.1, x) else e) else es ++ [(k, x)]
section
variable {H : Hp}
theorem RepsK.any (k : List L2.Key) : ∀ {kvs : List (List L2.Key × V)} {es : List (List L2.Key × Dat)}, RepsK H kvs es → (kvs.any fun e => decide (e.1 = k)) = (es.any fun e => decide (e.1 = k))
  | _, _, .nil => rfl
  | _, _, .cons h r => by
    rw [List.any_cons, List.any_cons, RepsK.any k r]
theorem RepsK.app : ∀ {vs us : List (List L2.Key × V)} {ds es : List (List L2.Key × Dat)}, RepsK H vs ds → RepsK H us es → RepsK H (vs ++ us) (ds ++ es)
  | _, _, _, _, .nil, s => s
  | _, _, _, _, .cons h r, s => .cons h (RepsK.app r s)
theorem RepsK.repl {k : List L2.Key} {v : V} {x : Dat} (hv : Rep H v x) : ∀ {kvs : List (List L2.Key × V)} {es : List (List L2.Key × Dat)}, RepsK H kvs es → RepsK H (kvs.map fun e => if e.1 = k then (e.1, v) else e) (es.map fun e => if e.1 = k then (e.1, x) else e)
  | _, _, .nil => .nil
  | _, _, @RepsK.cons _ k' v' d' kvs es h r => by
    rw [List.map_cons, List.map_cons]
    by_cases e : k' = k
    · rw [if_pos e, if_pos e]
      exact .cons hv (RepsK.repl hv r)
    · rw [if_neg e, if_neg e]
      exact .cons h (RepsK.repl hv r)
theorem RepsK.put {k : List L2.Key} {v : V} {x : Dat} {kvs : List (List L2.Key × V)} {es : List (List L2.Key × Dat)} (r : RepsK H kvs es) (hv : Rep H v x) : RepsK H (putK kvs k v) (putE es k x) := by
  unfold putK putE
  rw [r.any k]
  split
  · exact r.repl hv
  · exact r.app (.cons hv .nil)
theorem putE_len (es : List (List L2.Key × Dat)) (k : List L2.Key) (x : Dat) : (putE es k x).length ≤ es.length + 1 := by
  unfold putE
  split <;> simp
end
def putAll {α : Type} (l : List α) (kf : α → List Int) (vf : α → Dat) : List (List L2.Key × Dat) := l.foldl (fun es a => putE es (kw (kf a)) (vf a)) []
theorem putAll_more {α : Type} {l : List α} {kf : α → List Int} {vf : α → Dat} {i : Nat} {a : α} (h : l[i]? = some a) : putAll (l.take (i + 1)) kf vf = putE (putAll (l.take i) kf vf) (kw (kf a)) (vf a) := by
  unfold putAll
  rw [List.take_add_one, h, List.foldl_append]
  rfl
theorem putAll_len {α : Type} (kf : α → List Int) (vf : α → Dat) : ∀ l : List α, (putAll l kf vf).length ≤ l.length := by
  intro l
  have gen : ∀ (l : List α) (es : List (List L2.Key × Dat)), (l.foldl (fun es a => putE es (kw (kf a)) (vf a)) es).length ≤ es.length + l.length := by
    intro l
    induction l with
    | nil => intro es; simp
    | cons a l ih =>
      intro es
      have h1 := ih (putE es (kw (kf a)) (vf a))
      have h2 := putE_len es (kw (kf a)) (vf a)
      rw [List.foldl_cons, List.length_cons]
      omega
  have := gen l []
  simpa [putAll] using this
/-- a new dict of its own -/
def EvM (te : TE) (γ : Gam) (es : List (List L2.Key × Dat)) : Prop := ∀ H0 A H σ, Ok H0 A H σ γ → ∀ Q : VK, (∀ l kvs B H', Gr A H B H' → H l = none → B l = none → H' l = some (.dT kvs) → RepsK B kvs es → Q (.ref l) H') → te σ H Q
section
variable {K : PySem.W.Frag} {γ δ : Gam} {ta tb te tl tk tv : TE} {tt : TT} {x y z : Dat} {xs ys : List Dat} {es : List (List L2.Key × Dat)} {N M : Gam → Prop} {R : Dat → Gam → Prop} {g : TG} {js vs : List Nat} {α : Type} {tu : TS}
theorem em_is {es' : List (List L2.Key × Dat)} (h : EvM te γ es) (e : es = es') : EvM te γ es' := e ▸ h
theorem ev_ofM (h : EvM te γ es) : EvD te γ (.dic es) := fun H0 A H σ k Q q => h H0 A H σ k _ fun l vs B H1 g hl hB h1 r => by
  have g2 := g.show h1 hl hB
  exact q _ _ H1 g2 (.dic upd_same (r.mono (Ex.new hB)))
theorem run_asgM {i : Nat} (h : EvM te γ es) (hn : N (γ.set i (.od es))) : Run (tAsg te (gName i)) γ N R := fun A0 H0 A H σ g0 k D dn dr =>
  h H0 A H σ k _ fun l vs B H1 g1 hl hB h1 r1 => by
    have k1 := k.mono g1
    refine dn _ B H1 _ hn (g0.trans g1) g1.view (k1.setM i (fun j t hj mt e => ?_) (fun _ z => nomatch z) (fun _ _ z => nomatch z) (fun _ _ z => nomatch z) (fun _ z => nomatch z) fun _ z => by cases z; exact ⟨vs, Evl.fresh_back g0.up hl, hB, h1, r1⟩)
    obtain ⟨a, o, e2, _, _, e3⟩ := k.addr hj mt
    rw [e2] at e
    cases e
    rw [hl] at e3
    cases e3
def CPd (l : List α) (kf : α → List Int) (vf : α → Dat) (B H1 : Hp) (D : Addr) (i : Nat) (H' : Hp) : Prop := ∃ C kvs, Gr B H1 C H' ∧ C D = none ∧ H' D = some (.dT kvs) ∧ RepsK C kvs (putAll (l.take i) kf vf)
theorem cpd_zero {l : List α} {kf : α → List Int} {vf : α → Dat} {B H1 : Hp} {D : Addr} (s : Ex B H1) (hD : H1 D = none) : CPd l kf vf B H1 D 0 (upd H1 D (.dT [])) :=
  ⟨B, [], Gr.newU s hD, Evl.fresh_back s hD, upd_same, .nil⟩
theorem cpd_turn {l : List α} {kf : α → List Int} {vf : α → Dat} {H0 B H1 : Hp} {σ : L2.St} {D : Addr} {i : Nat} {H' H'' : Hp} {a : α} {xv : V} (k : Ok H0 B H1 σ γ) (hD : H1 D = none) (hz : l.length < sizeLine) (hi : l[i]? = some a) (p : CPd l kf vf B H1 D i H')
    (e2 : H'' = H') (hx : ∀ C, Ex B C → Rep C xv x) (hj : ∀ j ∈ js, j ∈ vs) (ht : Tg g js (wipeG γ vs) x δ) (hf : EvT tt δ true) (hk : EvD tk δ (w (kf a))) (he : EvD tv δ (vf a)) :
    tTurnT g tt tk tv vs σ D (CPd l kf vf B H1 D (i + 1)) xv H'' := by
  subst e2
  obtain ⟨C, kvs, gC, cD, hAcc, rAcc⟩ := p
  refine ht H0 C H'' _ xv ((k.mono gC).wipe vs) (hx C gC.view) _ fun σ2 k2 hl hoff => ⟨wipe_back hl hoff hj, ?_⟩
  refine hf H0 C H'' σ2 k2 _ fun C2 H3 g2 => ?_
  have cD2 : C2 D = none := g2.hid D _ hAcc True.intro cD
  refine hk H0 C2 H3 σ2 (k2.mono g2) _ fun kv C3 H4 g3 r3 => ?_
  have cD3 : C3 D = none := g3.hid D _ (g2.up _ _ hAcc) True.intro cD2
  refine he H0 C3 H4 σ2 (k2.mono (g2.trans g3)) _ fun yv C4 H5 g4 r4 => ?_
  have hD5 : H5 D = some (.dT kvs) := g4.up _ _ (g3.up _ _ (g2.up _ _ hAcc))
  have cD4 : C4 D = none := g4.hid D _ (g3.up _ _ (g2.up _ _ hAcc)) True.intro cD3
  have lz : kvs.length ≤ i := by
    rw [rAcc.len]
    exact Nat.le_trans (putAll_len _ _ _) (by rw [List.length_take]; exact Nat.min_le_left _ _)
  have il : i < l.length := (List.getElem?_eq_some_iff.mp hi).1
  cases r3 with
  | @tup c ws _ hc rw_ =>
    have ew : ws = (kw (kf a)).map kV := by
      rw [rw_.ints]
      unfold kw
      rw [List.map_map]
      rfl
    refine ⟨kvs, kw (kf a), c, rfl, by rw [g4.up _ _ (g3.sub _ _ hc), ew], hD5, by omega, C4, _, (((gC.trans g2).trans g3).trans g4).mut hD cD4, cD4, upd_same, ?_⟩
    rw [putAll_more hi]
    exact (rAcc.mono ((g2.view.trans g3.view).trans g4.view)).put r4
/-- over anything that walks -/
theorem dcT_it {J : It} {n : Nat} {G : Hp → Prop} {Y : Nat → Hp → V → Hp → Prop} (wk : Walk J n G Y) {σ : L2.St} {H1 : Hp} {D : Addr} {Qd : Hp → Prop} (Pv : Nat → Hp → Prop) (h0 : Pv 0 (upd H1 D (.dT []))) (hG : ∀ i H, i ≤ n → Pv i H → G H)
    (hs : ∀ i x H H', i < n → Pv i H → Y i H x H' → tTurnT g tt tk tv vs σ D (Pv (i + 1)) x H') (hd : ∀ H, Pv n H → Qd H) :
    ∃ W : Nat → Nat → Hp → Prop, (∃ m, W 0 m (upd H1 D (.dT []))) ∧ ∀ i m H, W i m H → (J.stop i H ∧ Qd H) ∨ (J.go i H ∧ ∃ Nx : Hp → Prop, (∀ H', Nx H' → ∃ m', m' < m ∧ W (i + 1) m' H') ∧ ∀ x H', J.yld i H x H' → tTurnT g tt tk tv vs σ D Nx x H') := by
  refine ⟨fun i m H => m + i = n ∧ Pv i H, ⟨n, rfl, h0⟩, ?_⟩
  rintro i m H ⟨e, p⟩
  have q := hG i H (by omega) p
  cases m with
  | zero =>
    have e : i = n := by omega
    subst e
    exact .inl ⟨wk.stops H q, hd H p⟩
  | succ m => exact .inr ⟨wk.goes i H (by omega) q, Pv (i + 1), fun H' p' => ⟨m, by omega, by omega, p'⟩, fun x H' y => hs i x H H' (by omega) p (wk.yields i H x H' (by omega) q y)⟩
theorem em_dcT {l : List α} {enc : α → Dat} {kf : α → List Int} {vf : α → Dat} (h : EvD tl γ (.tup (l.map enc))) (hj : ∀ j ∈ js, j ∈ vs) (hz : l.length < sizeLine)
    (hs : ∀ a ∈ l, ∃ δ, Tg g js (wipeG γ vs) (enc a) δ ∧ EvT tt δ true ∧ EvD tk δ (w (kf a)) ∧ EvD tv δ (vf a)) : EvM (tDcT (iTup K tl) g tt tk tv vs) γ (putAll l kf vf) := fun H0 A H σ k Q q =>
  h H0 A H σ k _ fun sv B H1 g1 r1 => by
    cases r1 with
    | @tup a us _ ha ru =>
      have hlen : us.length = l.length := by rw [ru.len, List.length_map]
      refine ⟨a, rfl, ⟨us, SqT.of (g1.sub _ _ ha)⟩, fun D hD => dcT_it (walk_tup (K := K) (a := a) (xs := us)) (CPd l kf vf B H1 D) (cpd_zero g1.sub hD) (fun i H' _ p => ?_) (fun i xv H' H'' hi p y => ?_) (fun H' p => ?_)⟩
      · obtain ⟨C, acc, gC, _⟩ := p
        exact SqT.of (gC.up _ _ (g1.sub _ _ ha))
      · obtain ⟨e2, hi⟩ := y
        obtain ⟨d, hd, rd⟩ := ru.getV hi
        rw [List.getElem?_map] at hd
        cases e : l[i]? with
        | none =>
          rw [e] at hd
          cases hd
        | some b =>
          rw [e] at hd
          cases hd
          obtain ⟨δ, t1, t2, t3, t4⟩ := hs b (List.mem_of_getElem? e)
          exact cpd_turn (k.mono g1) hD hz e p e2 (fun C ex => rd.mono ex) hj t1 t2 t3 t4
      · obtain ⟨C, acc, gC, cD, hAcc, rAcc⟩ := p
        rw [hlen, List.take_length] at rAcc
        exact q D acc C H' (g1.trans gC) (Evl.fresh_back g1.up hD) cD hAcc rAcc
theorem em_dcL {l : List α} {enc : α → Dat} {kf : α → List Int} {vf : α → Dat} (h : EvR tl γ (l.map enc)) (hj : ∀ j ∈ js, j ∈ vs) (hz : l.length < sizeLine)
    (hs : ∀ a ∈ l, ∃ δ, Tg g js (wipeG γ vs) (enc a) δ ∧ EvT tt δ true ∧ EvD tk δ (w (kf a)) ∧ EvD tv δ (vf a)) : EvM (tDcT (iList K tl) g tt tk tv vs) γ (putAll l kf vf) := fun H0 A H σ k Q q =>
  h H0 A H σ k _ fun a us B H1 g1 ha ru => by
    have hlen : us.length = l.length := by rw [ru.len, List.length_map]
    refine ⟨a, rfl, ⟨us, SqL.of ha⟩, fun D hD => dcT_it (walk_list (K := K) (a := a) (xs := us)) (CPd l kf vf B H1 D) (cpd_zero g1.sub hD) (fun i H' _ p => ?_) (fun i xv H' H'' hi p y => ?_) (fun H' p => ?_)⟩
    · obtain ⟨C, acc, gC, _⟩ := p
      exact SqL.of (gC.up _ _ ha)
    · obtain ⟨e2, hi⟩ := y
      obtain ⟨d, hd, rd⟩ := ru.getV hi
      rw [List.getElem?_map] at hd
      cases e : l[i]? with
      | none =>
        rw [e] at hd
        cases hd
      | some b =>
        rw [e] at hd
        cases hd
        obtain ⟨δ, t1, t2, t3, t4⟩ := hs b (List.mem_of_getElem? e)
        exact cpd_turn (k.mono g1) hD hz e p e2 (fun C ex => rd.mono ex) hj t1 t2 t3 t4
    · obtain ⟨C, acc, gC, cD, hAcc, rAcc⟩ := p
      rw [hlen, List.take_length] at rAcc
      exact q D acc C H' (g1.trans gC) (Evl.fresh_back g1.up hD) cD hAcc rAcc
/-! # reversed(range(n)), zip -/
theorem en_lcRev {te0 : TE} {n : Int} {v : Nat → Dat} (h : EvD te0 γ (.int n)) (hj : ∀ j ∈ js, j ∈ vs) (hn : 0 ≤ n ∧ n < sizeLine)
    (hs : ∀ a : Nat, (a : Int) < n → ∃ δ, Tg g js (wipeG γ vs) (.int (n - 1 - (a : Int))) δ ∧ EvT tt δ true ∧ EvD te δ (v a)) : EvN (tLc (iRevR (tRg1 te0)) g tt te vs) γ ((List.range n.toNat).map v) := fun H0 A H σ k Q q =>
  h H0 A H σ k _ fun us B H1 g1 ru => by
    have hsz : (sizeLine : Int) < 2 ^ 62 := by rw [sizeLine_eq]; decide
    cases ru
    have en : (n - 0).toNat = n.toNat := by rw [Int.sub_zero]
    refine ⟨n, rfl, by decide, by decide, by omega, by omega, fun D hD => lc_it (walk_rangeC (lo := 0 + (((n - 0).toNat : Nat) : Int) - 1) (c := -1) (n := (n - 0).toNat)) (CP (List.range n.toNat) (fun _ => true) v B H1 D) (cp_zero g1.sub hD) (fun _ _ _ _ => trivial) (fun i x H' H'' hi p y => ?_) (fun H' p => ?_)⟩
    · obtain ⟨e2, ex⟩ := y
      subst e2
      rw [en] at hi
      obtain ⟨δ, t1, t2, t3⟩ := hs i (by omega)
      have e0 : (0 : Int) + (((n - 0).toNat : Nat) : Int) - 1 + (i : Int) * (-1) = n - 1 - (i : Int) := by omega
      rw [show x = V.int (n - 1 - (i : Int)) from ex.trans (congrArg V.int e0)]
      exact cp_turn (l := List.range n.toNat) (f := fun _ => true) (k.mono g1) hD (by rw [List.length_range]; omega) (by rw [List.getElem?_range hi]) p (fun C _ => .int _) hj t1 t2 fun _ => t3
    · obtain ⟨C, acc, gC, cD, hAcc, rAcc⟩ := p
      rw [en] at rAcc
      have ht : (List.range n.toNat).take n.toNat = List.range n.toNat := List.take_of_length_le (by rw [List.length_range]; exact Nat.le_refl _)
      rw [ht, filter_yes] at rAcc
      exact q D acc C H' (g1.trans gC) (Evl.fresh_back g1.up hD) cD hAcc rAcc
theorem en_lcZip {l : List α} {β : Type} {m : List β} {enc : α → Dat} {enc2 : β → Dat} {f : α × β → Bool} {v : α × β → Dat} (h : EvR ta γ (l.map enc)) (h2 : EvR tb γ (m.map enc2)) (hj : ∀ j ∈ js, j ∈ vs) (hz : l.length < sizeLine)
    (hs : ∀ a ∈ l.zip m, ∃ δ, Tg g js (wipeG γ vs) (.tup [enc a.1, enc2 a.2]) δ ∧ EvT tt δ (f a) ∧ (f a = true → EvD te δ (v a))) : EvN (tLc (iZip K (tCons ta (tCons tb tNil))) g tt te vs) γ (((l.zip m).filter f).map v) := fun H0 A H σ k Q q =>
  h H0 A H σ k _ fun a us B H1 g1 ha ru => h2 H0 B H1 σ (k.mono g1) _ fun b ws C0 H2 g2 hb rw_ => by
    have hlen : us.length = l.length := by rw [ru.len, List.length_map]
    have hlen2 : ws.length = m.length := by rw [rw_.len, List.length_map]
    have g12 := g1.trans g2
    refine ⟨a, b, us, ws, rfl, SqL.of (g2.up _ _ ha), SqL.of hb, fun D hD => lc_it (walk_zip (K := K) (a := a) (b := b) (xs := us) (ys := ws) rfl) (CP (l.zip m) f v C0 H2 D) (cp_zero g12.sub hD) (fun i H' _ p => ?_) (fun i x H' H'' hi p y => ?_) (fun H' p => ?_)⟩
    · obtain ⟨C, acc, gC, _⟩ := p
      exact ⟨SqL.of (gC.up _ _ (g2.up _ _ ha)), SqL.of (gC.up _ _ hb)⟩
    · obtain ⟨T, x1, x2, rfl, hT, rfl, e1, e2⟩ := y
      obtain ⟨d1, hd1, r1⟩ := ru.getV e1
      obtain ⟨d2, hd2, r2⟩ := rw_.getV e2
      rw [List.getElem?_map] at hd1 hd2
      cases q1 : l[i]? with
      | none =>
        rw [q1] at hd1
        cases hd1
      | some u1 =>
        cases q2 : m[i]? with
        | none =>
          rw [q2] at hd2
          cases hd2
        | some u2 =>
          rw [q1] at hd1
          rw [q2] at hd2
          cases hd1
          cases hd2
          have hz2 : (l.zip m)[i]? = some (u1, u2) := by
            rw [List.getElem?_zip_eq_some]
            exact ⟨q1, q2⟩
          obtain ⟨δ, t1, t2, t3⟩ := hs (u1, u2) (List.mem_of_getElem? hz2)
          obtain ⟨C, acc, gC, cD, hAcc, rAcc⟩ := p
          have gT := Gr.new (o := .tup [x1, x2]) gC.sub hT
          have nD : D ≠ T := ne_of_none hAcc hT
          exact cp_step (l := l.zip m) (k.mono g12) hD (by rw [List.length_zip]; omega) hz2 (gC.trans gT) (by rw [upd_ne nD]; exact cD) (by rw [upd_ne nD]; exact hAcc) (rAcc.mono gT.view)
            (.tup upd_same (.cons ((r1.mono (g2.view.trans gC.view)).mono gT.view) (.cons ((r2.mono gC.view).mono gT.view) .nil))) hj t1 t2 t3
    · obtain ⟨C, acc, gC, cD, hAcc, rAcc⟩ := p
      have ht : (l.zip m).take (min us.length ws.length) = l.zip m := List.take_of_length_le (by rw [List.length_zip, hlen, hlen2]; exact Nat.le_refl _)
      rw [ht] at rAcc
      exact q D acc C H' (g12.trans gC) (Evl.fresh_back g12.up hD) cD hAcc rAcc
end
end Fr

set_option Elab.async false
set_option linter.all false
set_option maxRecDepth 100000
set_option maxHeartbeats 4000000
namespace Fr
open PySem PySem.Spec PyProof.Rows L2
open Evl (Ex)
/-! # sum of a tuple of ints -/
section
variable {prog : Program} {w0 : World} {A : Around} {E : Value → Shared → Prop} {s : Shared} {t : Addr} {its : List Value} {ns : List Int} {Q : Value → Shared → Prop}
theorem sum_tup_raw (hh : A.handled = none) (ht : s.heap.IsTuple t its.toArray) (hi : IntsAre its ns)
    (h : ∀ h' tk t', (∀ b o, s.heap.get? b = some o → h'.get? b = some o) → Q (.int ns.sum t') { s with heap := h', toks := tk }) : wpAny (model prog w0) A (call (.builtin "sum") [.ref t]) Q E s := by
  obtain ⟨xs, e⟩ := hi.allInts.items
  have hn : numsOf (intItems xs).toList = ns := by rw [← e]; exact hi.numsOf
  rw [nums_intItems] at hn
  rw [e] at ht
  have low : t < s.heap.objs.size := by
    obtain ⟨o, ho, _⟩ := ht
    exact Heap.lt_size ho
  refine call_sum_walkG (wpAny_pyIter_tuple ht ?_)
  refine ⟨_, _, _, _, _, _, numAt xs, rfl, Walks.tuple (A := A.in1) hh s.heap.objs.size t (Nat.ne_of_lt low) (intItems xs), ⟨⟨_, Heap.get?_push_size _ rfl, rfl, rfl⟩, ?_⟩, fun b hb => ?_, fun _ _ => intItems_at, fun h' tk t' hk => ?_⟩
  · obtain ⟨o, ho, r⟩ := ht
    exact ⟨o, Heap.get?_push_of_some _ ho, r⟩
  · show b < (s.heap.push _).objs.size
    rw [Heap.size_push]
    rcases List.mem_cons.mp hb with e1 | hb
    · rw [e1]
      exact Nat.lt_succ_self _
    · rw [List.mem_singleton.mp hb]
      exact Nat.lt_succ_of_lt low
  · have q := h h' tk t' fun b o e => hk b o (fun z => by
      rw [List.mem_singleton.mp z] at e
      exact absurd (Heap.lt_size e) (Nat.lt_irrefl _)) (Heap.get?_push_of_some _ e)
    have e2 : preSum (numAt xs) (intItems xs).size = ns.sum := by
      have sz : (intItems xs).size = xs.size := by simp [intItems]
      rw [sz, preSum_eq, List.take_of_length_le (by simp), hn]
    rw [e2]
    exact q
end
def rSumT (K : PySem.W.Frag) : List V → Hp → VK → Prop := fun vs H Q => ∃ (a : Addr) (ns : List Int), vs = [V.ref a] ∧ SqT K H a (ns.map V.int) ∧ Q (.int ns.sum) H
theorem cr_sumT {X : Cx} {K : PySem.W.Frag} (e : X.K = K) (hc : X.calm = true) : CallR X (.builtin "sum") (rSumT K) := by
  subst e
  intro pins s σ H vs us Q I r h
  obtain ⟨a, ns, rfl, hs, q⟩ := h
  obtain ⟨its, rv, ht, _⟩ := I.tuple hs
  rw [Vals.ref1 r]
  exact sum_tup_raw (I.ok.hd hc) ht rv.ints fun h' tk t' hk => ⟨.int _, H, I.kept hk, ⟨_, rfl⟩, q⟩
section
variable {K : PySem.W.Frag} {γ : Gam} {te : TE}
theorem ev_sumW {ns : List Int} (h : EvD te γ (w ns)) : EvD (tCB (rSumT K) (tCons te tNil)) γ (.int ns.sum) := fun H0 A H σ k Q q =>
  h H0 A H σ k _ fun v B H1 g r => by
    cases r with
    | @tup a us _ ha ru =>
      have e := ru.ints
      subst e
      exact ⟨a, ns, rfl, SqT.of (g.sub _ _ ha), q _ B H1 g (.int _)⟩
/-! # slices of words -/
def cutI (ns : List Int) (lo hi : Option Int) : List Int := cutA ns lo hi
theorem cutA_map (ns : List Int) (lo hi : Option Int) : cutA (ns.map Dat.int) lo hi = (cutI ns lo hi).map .int := by
  unfold cutI cutA
  rw [List.length_map, List.map_take, List.map_drop]
theorem ev_cut {tl th : TO} {ns : List Int} {lo hi : Option Int} (h : EvD te γ (w ns)) (h1 : EvO tl γ lo) (h2 : EvO th γ hi) : EvD (tSl (rSlA K) te tl th) γ (w (cutI ns lo hi)) := by
  have := ev_slT (K := K) h h1 h2
  rw [cutA_map] at this
  exact this
theorem ev_lenW {ns : List Int} (h : EvD te γ (w ns)) : EvD (tCB (Evl.rLenS K) (tCons te tNil)) γ (.int (ns.length : Int)) := by
  have := ev_lenT (K := K) h
  rw [List.length_map] at this
  exact this
theorem r2_catW {ns ms : List Int} (h : ns.length + ms.length ≤ sizeLine) : R2D (rCatA K) (w ns) (w ms) (w (ns ++ ms)) := by
  have := r2_cat (K := K) (xs := ns.map Dat.int) (ys := ms.map Dat.int) (by rw [List.length_map, List.length_map]; exact h)
  rw [← List.map_append] at this
  exact this
theorem ev_w1 {ta : TE} {n : Int} (h : EvD ta γ (.int n)) : EvD (tTup (tCons ta tNil)) γ (w [n]) := ev_tup (ea_cons h ea_nil) (by show 1 ≤ sizeLine; decide)
theorem ev_w0 : EvD (tTup tNil) γ (w []) := ev_tup ea_nil (by decide)
theorem cutI_all (ns : List Int) : cutI ns none none = ns := by
  unfold cutI cutA
  rw [HT.sIx_none, HT.sIx_none, List.drop_zero]
  exact List.take_length
theorem cutI_from (ns : List Int) (k : Nat) : cutI ns (some (k : Int)) none = ns.drop k := by
  unfold cutI cutA
  rw [HT.sIx_none, HT.sIx_nat]
  by_cases h : k ≤ ns.length
  · rw [Nat.min_eq_left h]
    exact List.take_of_length_le (by rw [List.length_drop]; exact Nat.le_refl _)
  · rw [Nat.min_eq_right (by omega), List.drop_of_length_le (Nat.le_refl _), List.drop_of_length_le (by omega), List.take_nil]
theorem cutI_to (ns : List Int) (k : Nat) : cutI ns none (some (k : Int)) = ns.take k := by
  unfold cutI cutA
  rw [HT.sIx_none, HT.sIx_nat, List.drop_zero, Nat.sub_zero]
  by_cases h : k ≤ ns.length
  · rw [Nat.min_eq_left h]
  · rw [Nat.min_eq_right (by omega), List.take_of_length_le (Nat.le_refl _), List.take_of_length_le (by omega)]
theorem cutI_both (ns : List Int) (j k : Nat) : cutI ns (some (j : Int)) (some (k : Int)) = (ns.take k).drop j := by
  unfold cutI cutA
  rw [HT.sIx_nat, HT.sIx_nat, List.drop_take]
  by_cases h : j ≤ ns.length
  · rw [Nat.min_eq_left h]
    by_cases h2 : k ≤ ns.length
    · rw [Nat.min_eq_left h2]
    · rw [Nat.min_eq_right (by omega : ns.length ≤ k), List.take_of_length_le (by rw [List.length_drop]; exact Nat.le_refl _), List.take_of_length_le (by rw [List.length_drop]; omega)]
  · rw [Nat.min_eq_right (by omega : ns.length ≤ j), List.drop_of_length_le (Nat.le_refl _), List.drop_of_length_le (by omega), List.take_nil, List.take_nil]
end
end Fr

set_option Elab.async false
set_option linter.all false
set_option maxRecDepth 100000
set_option maxHeartbeats 4000000
namespace Fr
open PySem PySem.Spec PyProof.Rows L2
open Evl (Ex)
/-! # [e for k in d for a in range(n)], d a dict of the frame's own that is locked meanwhile -/
theorem RepsK.keyAt {H : Hp} : ∀ {kvs : List (List L2.Key × V)} {es : List (List L2.Key × Dat)} {i : Nat} {k : List L2.Key} {v : V}, RepsK H kvs es → kvs[i]? = some (k, v) → (es.map (·.1))[i]? = some k
  | _, _, _, _, _, .nil, h => by simp at h
  | _, _, 0, _, _, .cons _ _, h => by
    simp at h
    simp [h.1]
  | _, _, i + 1, _, _, .cons _ r, h => by
    simp only [List.getElem?_cons_succ] at h
    simp only [List.map_cons, List.getElem?_cons_succ]
    exact RepsK.keyAt r h
/-- what is made of the keys -/
def flat2 (ks : List (List Int)) (n : List Int → Nat) (v : List Int → Nat → Dat) : List Dat := (ks.map fun ns => (List.range (n ns)).map (v ns)).flatten
theorem flat2_more {ks : List (List Int)} {n : List Int → Nat} {v : List Int → Nat → Dat} {i : Nat} {ns : List Int} (h : ks[i]? = some ns) : flat2 (ks.take (i + 1)) n v = flat2 (ks.take i) n v ++ (List.range (n ns)).map (v ns) := by
  unfold flat2
  rw [List.take_add_one, h]
  simp
section
variable {K : PySem.W.Frag} {γ : Gam} {te : TE} {tr : TA} {N : Gam → Prop} {R : Dat → Gam → Prop}
theorem flat2_len (ks : List (List Int)) (n : List Int → Nat) (v : List Int → Nat → Dat) (m : Nat) (h : ∀ ns ∈ ks, n ns ≤ m) : (flat2 ks n v).length ≤ ks.length * m := by
  induction ks with
  | nil => simp [flat2]
  | cons k ks ih =>
    have h1 := ih fun ns hn => h ns (List.mem_cons_of_mem _ hn)
    have h2 := h k List.mem_cons_self
    have e : flat2 (k :: ks) n v = (List.range (n k)).map (v k) ++ flat2 ks n v := by simp [flat2]
    rw [e, List.length_append, List.length_map, List.length_range, List.length_cons, Nat.succ_mul]
    omega
theorem take_len_le {α : Type} (l : List α) (i : Nat) : (l.take i).length ≤ l.length := by
  rw [List.length_take]
  exact Nat.min_le_right _ _
theorem run_lc2 {es : List (List L2.Key × Dat)} {ks : List (List Int)} {i j a0 a1 m : Nat} {n : List Int → Nat} {v : List Int → Nat → Dat} (h : γ[i]? = some (Slot.od es)) (hk : es.map (·.1) = ks.map kw) (hz : ks.length * m + m < sizeLine) (hm : ∀ ns ∈ ks, n ns ≤ m)
    (ne : a0 ≠ a1) (hs : ∀ ns ∈ ks, EvA tr ((wipeG (γ.set i .no) [a0, a1]).set a0 (.d (w ns))) [.int (n ns : Nat)] ∧ ∀ a, a < n ns → EvD te (((wipeG (γ.set i .no) [a0, a1]).set a0 (.d (w ns))).set a1 (.d (.int (a : Nat)))) (v ns a))
    (hn : N (γ.set j (.o (flat2 ks n v)))) : Run (tLock (tAsg (tLc2 (iKeys (tVar i)) (gName a0) tYes (iRng1 tr) (gName a1) tYes te [a0, a1] [a1]) (gName j))) γ N R := fun A0 H0 A H σ g0 k D dn dr => by
  obtain ⟨l, kvs, e, h0, hA, hH, rk⟩ := k.ownD i es h
  have hsz : (sizeLine : Int) < 2 ^ 62 := by rw [sizeLine_eq]; decide
  refine ⟨l, .dT kvs, hH, True.intro, fun od => ?_⟩
  have kLen : kvs.length = ks.length := by
    have := congrArg List.length hk
    rw [List.length_map, List.length_map] at this
    rw [rk.len, this]
  -- the locked heap
  obtain ⟨HL, eL⟩ : ∃ HL, HL = upd H l (.frz od (.dT kvs)) := ⟨_, rfl⟩
  rw [← eL]
  have sL : Ex A HL := by
    rw [eL]
    exact k.sub.mut hA
  have hL : HL l = some (.frz od (.dT kvs)) := by rw [eL, upd_same]
  have kL : Ok H0 A HL σ (γ.set i .no) := by
    have q := k.forget i (some (V.ref l))
    have e2 : σ.set i (some (V.ref l)) = σ := by
      refine List.ext_getElem? fun b => ?_
      by_cases z : i = b
      · subst z
        rw [List.getElem?_set_self (List.getElem?_eq_some_iff.mp e).1, e]
      · rw [List.getElem?_set_ne z]
    rw [e2] at q
    refine ⟨sL, q.len, q.get, fun b xs hb => ?_, fun b xs hb => ?_, fun b c xs hb => ?_, q.scr, q.sep⟩
    · obtain ⟨c, vs, x1, x2, x3, x4, x5⟩ := q.own b xs hb
      have nc : c ≠ l := fun z => by
        subst z
        rw [x4] at hH
        cases hH
      exact ⟨c, vs, x1, x2, x3, by rw [eL, upd_ne nc]; exact x4, x5⟩
    · obtain ⟨c, vs, x1, x2, x3, x4, x5⟩ := q.ownD b xs hb
      have hb' : γ[b]? = some (Slot.od xs) := by
        rcases set_get hb with ⟨_, z, _⟩ | ⟨_, hb⟩
        · cases z
        · exact hb
      have nc : c ≠ l := fun z => by
        subst z
        have := k.sep i b c _ _ h hb' rfl rfl e x1
        subst this
        rcases set_get hb with ⟨_, z, _⟩ | ⟨z, _⟩
        · cases z
        · exact z rfl
      exact ⟨c, vs, x1, x2, x3, by rw [eL, upd_ne nc]; exact x4, x5⟩
    · obtain ⟨vs, x1, x2, x3, x4, x5⟩ := q.bor b c xs hb
      have nc : c ≠ l := fun z => by
        subst z
        rw [x4] at hH
        cases hH
      exact ⟨vs, x1, x2, x3, by rw [eL, upd_ne nc]; exact x4, x5⟩
  refine ⟨.ref l, e, l, od, rfl, .inr ⟨kvs, hL, fun DL hDL => ?_⟩⟩
  -- what stands behind i keys, and behind a numbers of one more
  refine ⟨fun t mm H' => mm + t = ks.length ∧ ∃ C acc, Gr A HL C H' ∧ C DL = none ∧ H' DL = some (.lst acc) ∧ Reps C acc (flat2 (ks.take t) n v),
    ⟨ks.length, rfl, A, [], Gr.newU sL hDL, Evl.fresh_back sL hDL, upd_same, .nil⟩, fun t mm H' hW => ?_⟩
  obtain ⟨emm, C, acc, gC, cD, hAcc, rAcc⟩ := hW
  have hl' : H' l = some (.frz od (.dT kvs)) := gC.up _ _ hL
  cases mm with
  | zero =>
    have et : t = ks.length := by omega
    subst et
    rw [List.take_length] at rAcc
    refine .inl ⟨⟨hl', by omega⟩, hl', ?_⟩
    -- behind: unlocked, stored
    have hDL0 : H DL = none := by
      have z := hDL
      rw [eL] at z
      by_cases q : DL = l
      · subst q
        rw [upd_same] at z
        cases z
      · rwa [upd_ne q] at z
    have nDl : DL ≠ l := fun q => by
      subst q
      rw [hH] at hDL0
      cases hDL0
    rw [eL] at gC
    obtain ⟨gU, cl⟩ := g0.unlock (u := .dT kvs) h0 hA (by exact True.intro) gC
    have kU := k.unlock h e hH hA rk (by exact True.intro) gC
    refine dn _ C _ _ hn gU gC.view (kU.setM j (fun b t hb mt eb => ?_) (fun _ z => nomatch z) (fun _ _ z => nomatch z) (fun _ _ z => nomatch z) (fun _ z => by cases z; exact ⟨acc, Evl.fresh_back g0.up hDL0, cD, by rw [upd_ne nDl]; exact hAcc, rAcc⟩) fun _ z => nomatch z)
    obtain ⟨c, o, z1, _, _, z4⟩ := k.addr hb mt
    rw [z1] at eb
    cases eb
    rw [hDL0] at z4
    cases z4
  | succ mm =>
    obtain ⟨ns, hns⟩ : ∃ ns, ks[t]? = some ns := ⟨ks[t]'(by omega), List.getElem?_eq_getElem (by omega)⟩
    have mem := List.mem_of_getElem? hns
    obtain ⟨ha, hv⟩ := hs ns mem
    have hmn := hm ns mem
    refine .inr ⟨⟨hl', by omega⟩, fun H2 => ∃ C acc, Gr A HL C H2 ∧ C DL = none ∧ H2 DL = some (.lst acc) ∧ Reps C acc (flat2 (ks.take (t + 1)) n v), fun H2 hh => ⟨mm, Nat.lt_succ_self _, by omega, hh⟩, fun x H2 hy => ?_⟩
    obtain ⟨eH, key, val, q, hkv, ex, hq⟩ := hy
    subst eH ex
    have ekey : key = kw ns := by
      have z := rk.keyAt hkv
      rw [hk, List.getElem?_map, hns] at z
      exact (Option.some.inj z).symm
    have hq' : H2 q = some (.tup (ns.map V.int)) := by
      rw [hq, ekey]
      unfold kw
      rw [List.map_map]
      rfl
    have gq := Gr.tup gC.sub hq'
    have gC' := gC.trans gq
    have cD' : (upd C q (.tup (ns.map V.int))) DL = none := gq.hid DL _ hAcc True.intro cD
    have rq : Rep (upd C q (.tup (ns.map V.int))) (.ref q) (w ns) := .tup upd_same (Reps.ofInts ns)
    have kW := ((kL.mono gC').wipe [a0, a1]).setD rq a0
    have lenW : ((L2.wipe σ [a0, a1]).set a0 (some (V.ref q))).length = (L2.wipe σ [a0, a1]).length := List.length_set ..
    refine ⟨wipe_back (js := [a0]) lenW (fun b hb => by rw [List.getElem?_set_ne (fun z => hb (by rw [z]; exact List.mem_singleton.mpr rfl))]) (by intro b hb; rw [List.mem_singleton.mp hb]; exact List.mem_cons_self), ?_⟩
    refine ha H0 _ _ _ kW _ fun us C1 H3 g1 r1 => ?_
    cases r1 with
    | cons r1 r2 =>
      cases r1
      cases r2
      have hn1 : (n ns : Int) < 2 ^ 62 := by
        have : n ns < sizeLine := by omega
        omega
      have gC1 := gC'.trans g1
      refine ⟨_, rfl, by omega, hn1, fun b kk H4 => kk + b = n ns ∧ ∃ C acc, Gr A HL C H4 ∧ Ex C1 C ∧ C DL = none ∧ H4 DL = some (.lst acc) ∧ Reps C acc (flat2 (ks.take t) n v ++ (List.range b).map (v ns)),
        ⟨n ns, by omega, C1, acc, gC1, Ex.refl C1, g1.hid DL _ hAcc True.intro cD', g1.up _ _ hAcc, ?_⟩, fun b kk H4 hW1 => ?_⟩
      · rw [List.range_zero, List.map_nil, List.append_nil]
        exact (rAcc.mono gq.view).mono g1.view
      · obtain ⟨ekk, C2, acc2, g2, v2, cD2, hA2, rA2⟩ := hW1
        cases kk with
        | zero =>
          have eb : b = n ns := by omega
          subst eb
          refine .inl ⟨by show ((n ns : Int)).toNat ≤ n ns; omega, C2, acc2, g2, cD2, hA2, ?_⟩
          rw [flat2_more hns]
          exact rA2
        | succ kk =>
          refine .inr ⟨by show b < ((n ns : Int)).toNat; omega, fun H5 => ∃ C acc, Gr A HL C H5 ∧ Ex C1 C ∧ C DL = none ∧ H5 DL = some (.lst acc) ∧ Reps C acc (flat2 (ks.take t) n v ++ (List.range (b + 1)).map (v ns)), fun H5 hh => ⟨kk, Nat.lt_succ_self _, by omega, hh⟩, fun x H5 hy => ?_⟩
          obtain ⟨eH, ex⟩ := hy
          subst eH
          have ex2 : x = V.int ((b : Nat) : Int) := by
            rw [ex]
            exact congrArg V.int (Int.zero_add _)
          subst ex2
          have kX := ((((kL.mono g2).wipe [a0, a1]).setD (rq.mono (g1.view.trans v2)) a0).wipe [a1]).setD (v := .int ((b : Nat) : Int)) (.int _) a1
          have lenX : ((L2.wipe ((L2.wipe σ [a0, a1]).set a0 (some (V.ref q))) [a1]).set a1 (some (V.int ((b : Nat) : Int)))).length = (L2.wipe ((L2.wipe σ [a0, a1]).set a0 (some (V.ref q))) [a1]).length := List.length_set ..
          refine ⟨wipe_back (js := [a1]) lenX (fun c hc => by rw [List.getElem?_set_ne (fun z => hc (by rw [z]; exact List.mem_singleton.mpr rfl))]) (by intro c hc; exact hc), ?_⟩
          have eG : (wipeG ((wipeG (γ.set i .no) [a0, a1]).set a0 (.d (w ns))) [a1]).set a1 (.d (.int ((b : Nat) : Int))) = ((wipeG (γ.set i .no) [a0, a1]).set a0 (.d (w ns))).set a1 (.d (.int ((b : Nat) : Int))) := by
            show ((((wipeG (γ.set i .no) [a0, a1]).set a0 (.d (w ns))).set a1 .no).set a1 _) = _
            rw [List.set_set]
          rw [eG] at kX
          refine hv b (by omega) H0 C2 H5 _ kX _ fun yv C3 H6 g3 r3 => ?_
          have cD3 := g3.hid DL _ hA2 True.intro cD2
          have lz : acc2.length < sizeLine := by
            rw [rA2.len, List.length_append, List.length_map, List.length_range]
            have z := flat2_len (ks.take t) n v m fun ns' hn' => hm ns' (List.mem_of_mem_take hn')
            have z2 := Nat.mul_le_mul_right m (take_len_le ks t)
            omega
          refine ⟨acc2, g3.up _ _ hA2, lz, C3, acc2 ++ [yv], (g2.trans g3).mut hDL cD3, v2.trans g3.view, cD3, upd_same, ?_⟩
          rw [List.range_succ, List.map_append, ← List.append_assoc]
          exact (rA2.mono g3.view).app (Reps.one r3)
/-! # a star in a display -/
theorem ea_star {ta : TE} {xs ys : List Dat} (h : EvR ta γ xs) (hr : EvA tr γ ys) : EvA (StX.tStar K ta tr) γ (xs ++ ys) := fun H0 A H σ k Q q =>
  h H0 A H σ k _ fun l us B H1 g1 h1 r1 => ⟨l, us, rfl, .inr (SqL.of h1), hr H0 B H1 σ (k.mono g1) _ fun vs C H2 g2 r2 => q _ C H2 (g1.trans g2) ((r1.mono g2.view).app r2)⟩
theorem pa_starK {X : Cx} {e : Expr} {es : List Expr} {p : Pos} {t : TA} {ta : TE} (eK : X.K = K) (h : PA X (.Starred e p :: es) (StX.tStar X.K ta t)) : PA X (.Starred e p :: es) (StX.tStar K ta t) := eK ▸ h
end
end Fr

set_option Elab.async false
set_option linter.all false
set_option maxRecDepth 100000
set_option maxHeartbeats 4000000
namespace Fr
open PySem PySem.Spec PyProof.Rows L2
open Evl (Ex)
section
variable {K : PySem.W.Frag} {γ : Gam} {te : TE} {xs : List Dat}
/-- a slice of a list is a new list -/
theorem Reps.cutL {A : Hp} {us : List V} {lo hi : Option Int} (R : Reps A us xs) : Reps A (cutV us lo hi) (cutA xs lo hi) := R.cut
theorem en_slL {tl th : TO} {lo hi : Option Int} (h : EvR te γ xs) (h1 : EvO tl γ lo) (h2 : EvO th γ hi) : EvN (tSl (rSlL K) te tl th) γ (cutA xs lo hi) := fun H0 A H σ k Q q =>
  h H0 A H σ k _ fun l us B H1 g1 ha R => h1 H0 B H1 σ (k.mono g1) _ fun C H2 g2 => h2 H0 C H2 σ (k.mono (g1.trans g2)) _ fun D H3 g3 => by
    have g := (g1.trans g2).trans g3
    exact ⟨l, us, rfl, SqL.of (g3.up _ _ (g2.up _ _ ha)), fun p hp => q p _ D _ (g.trans (Gr.newU g.sub hp)) (Evl.fresh_back g.up hp) (Evl.fresh_back g.sub hp) upd_same ((R.mono (g2.view.trans g3.view)).cut)⟩
theorem cutA_from {α : Type} (xs : List α) (k : Nat) : cutA xs (some (k : Int)) none = xs.drop k := by
  unfold cutA
  rw [HT.sIx_none, HT.sIx_nat]
  by_cases h : k ≤ xs.length
  · rw [Nat.min_eq_left h]
    exact List.take_of_length_le (by rw [List.length_drop]; exact Nat.le_refl _)
  · rw [Nat.min_eq_right (by omega), List.drop_of_length_le (Nat.le_refl _), List.drop_of_length_le (by omega), List.take_nil]
theorem r2_eqN {i : Int} {x : Dat} (h : isNon x = false) (hx : ∃ d, x = .int d) : R2D rEq (.int i) x (.bl (match x with | .int d => decide (i = d) | _ => false)) := by
  obtain ⟨d, rfl⟩ := hx
  exact r2_eqI
end
end Fr

set_option Elab.async false
set_option linter.all false
set_option maxRecDepth 100000
set_option maxHeartbeats 4000000
namespace Fr
open PySem PySem.Spec PyProof.Rows L2
open Evl (Ex)
theorem Reps.set {A : Hp} {v : V} {x : Dat} (h : Rep A v x) : ∀ {us : List V} {ds : List Dat} (n : Nat), Reps A us ds → Reps A (us.set n v) (ds.set n x)
  | _, _, _, .nil => .nil
  | _, _, 0, .cons _ b => .cons h b
  | _, _, n + 1, .cons a b => .cons a (Reps.set h n b)
/-! # expressions that change what is the frame's own -/
def EvX (te : TE) (γ : Gam) (S : Dat → Gam → Prop) : Prop := ∀ A0 H0 A H σ, Gr A0 H0 A H → Ok H0 A H σ γ → ∀ Q : VK, (∀ v B H' x δ, S x δ → Gr A0 H0 B H' → Ex A B → Ok H0 B H' σ δ → Rep B v x → Q v H') → te σ H Q
def EvXT (t : TT) (γ : Gam) (S : Bool → Gam → Prop) : Prop := ∀ A0 H0 A H σ, Gr A0 H0 A H → Ok H0 A H σ γ → ∀ Q : Bool → Hp → Prop, (∀ b B H' δ, S b δ → Gr A0 H0 B H' → Ex A B → Ok H0 B H' σ δ → Q b H') → t σ H Q
def EvXA (ta : TA) (γ : Gam) (S : List Dat → Gam → Prop) : Prop := ∀ A0 H0 A H σ, Gr A0 H0 A H → Ok H0 A H σ γ → ∀ Q : List V → Hp → Prop, (∀ vs B H' xs δ, S xs δ → Gr A0 H0 B H' → Ex A B → Ok H0 B H' σ δ → Reps B vs xs → Q vs H') → ta σ H Q
def hide (c : Addr) (H : Hp) : Hp := fun a => if a = c then none else H a
theorem hide_ne {c a : Addr} {H : Hp} (h : a ≠ c) : hide c H a = H a := by
  unfold hide
  rw [if_neg h]
theorem hide_self {c : Addr} {H : Hp} : hide c H c = none := by
  unfold hide
  rw [if_pos rfl]
section
variable {K : PySem.W.Frag} {γ δ : Gam} {ta tb te : TE} {t u : TT} {x y z : Dat} {r : R2} {xs ys : List Dat} {S S1 S2 : Dat → Gam → Prop} {N M : Gam → Prop} {R : Dat → Gam → Prop} {tu tw : TS} {g : TG} {js : List Nat}
theorem ex_of (h : EvD te γ x) (hs : S x γ) : EvX te γ S := fun A0 H0 A H σ g0 k Q q => h H0 A H σ k Q fun v B H' g1 r1 => q v B H' x γ hs (g0.trans g1) g1.view (k.mono g1) r1
theorem ex_weak (h : EvX te γ S) (hw : ∀ x δ, S x δ → S1 x δ) : EvX te γ S1 := fun A0 H0 A H σ g0 k Q q => h A0 H0 A H σ g0 k Q fun v B H' x δ hs => q v B H' x δ (hw x δ hs)
theorem ex_op (ha : EvX ta γ S1) (hb : ∀ x δ, S1 x δ → EvX tb δ (fun y ε => ∃ z, R2D r x y z ∧ S z ε)) : EvX (tOp r ta tb) γ S := fun A0 H0 A H σ g0 k Q q =>
  ha A0 H0 A H σ g0 k _ fun v B H1 x δ hs g1 v1 k1 r1 => hb x δ hs A0 H0 B H1 σ g1 k1 _ fun v2 C H2 y ε hz g2 w2 k2 r2 => by
    obtain ⟨z, hr, hS⟩ := hz
    exact hr C H2 v v2 g2.sub (r1.mono w2) r2 Q fun p D H3 g3 r3 => q p D H3 z ε hS (g2.trans g3) ((v1.trans w2).trans g3.view) (k2.mono g3) r3
theorem ext_of {b : Bool} {S : Bool → Gam → Prop} (h : EvT t γ b) (hs : S b γ) : EvXT t γ S := fun A0 H0 A H σ g0 k Q q => h H0 A H σ k Q fun B H' g1 => q b B H' γ hs (g0.trans g1) g1.view (k.mono g1)
theorem ext_B {S : Bool → Gam → Prop} (h : EvX te γ (fun x δ => ∃ b, x = .bl b ∧ S b δ)) : EvXT (tB te) γ S := fun A0 H0 A H σ g0 k Q q => h A0 H0 A H σ g0 k _ fun v B H' x δ hs g1 v1 k1 r1 => by
  obtain ⟨b, rfl, hS⟩ := hs
  cases r1
  exact ⟨b, rfl, q b B H' δ hS g1 v1 k1⟩
theorem ext_test {S : Bool → Gam → Prop} (h : EvX te γ (fun x δ => ∃ b, x = .bl b ∧ S b δ)) : EvXT (tTest te) γ S := ext_B h
theorem ext_and {S S1 : Bool → Gam → Prop} (h : EvXT t γ S1) (h1 : ∀ δ, S1 true δ → EvXT u δ S) (h2 : ∀ δ, S1 false δ → S false δ) : EvXT (tAnd t u) γ S := fun A0 H0 A H σ g0 k Q q => h A0 H0 A H σ g0 k _ fun b B H' δ hs g1 v1 k1 => by
  cases b with
  | true => exact h1 δ hs A0 H0 B H' σ g1 k1 Q fun b2 C H2 ε hs2 g2 v2 k2 => q b2 C H2 ε hs2 g2 (v1.trans v2) k2
  | false => exact q false B H' δ (h2 δ hs) g1 v1 k1
theorem ex_if {S1 : Bool → Gam → Prop} (h : EvXT t γ S1) (h1 : ∀ δ, S1 true δ → EvX ta δ S) (h2 : ∀ δ, S1 false δ → EvX tb δ S) : EvX (tIf t ta tb) γ S := fun A0 H0 A H σ g0 k Q q => h A0 H0 A H σ g0 k _ fun b B H' δ hs g1 v1 k1 => by
  cases b with
  | true => exact h1 δ hs A0 H0 B H' σ g1 k1 Q fun v C H2 x ε hs2 g2 v2 k2 => q v C H2 x ε hs2 g2 (v1.trans v2) k2
  | false => exact h2 δ hs A0 H0 B H' σ g1 k1 Q fun v C H2 x ε hs2 g2 v2 k2 => q v C H2 x ε hs2 g2 (v1.trans v2) k2
theorem ex_and (h : EvX ta γ (fun x δ => ∃ b, x = .bl b ∧ (b = true → EvX tb δ S) ∧ (b = false → S (.bl false) δ))) : EvX (tAndV ta tb) γ S := fun A0 H0 A H σ g0 k Q q => h A0 H0 A H σ g0 k _ fun v B H' x δ hs g1 v1 k1 r1 => by
  obtain ⟨b, rfl, h1, h2⟩ := hs
  cases r1
  refine ⟨b, rfl, ?_⟩
  cases b with
  | true => exact h1 rfl A0 H0 B H' σ g1 k1 Q fun v C H2 x ε hs2 g2 v2 k2 => q v C H2 x ε hs2 g2 (v1.trans v2) k2
  | false => exact q _ B H' _ δ (h2 rfl) g1 v1 k1 (.bl false)
theorem ex_or (h : EvX ta γ (fun x δ => ∃ b, x = .bl b ∧ (b = false → EvX tb δ S) ∧ (b = true → S (.bl true) δ))) : EvX (tOrV ta tb) γ S := fun A0 H0 A H σ g0 k Q q => h A0 H0 A H σ g0 k _ fun v B H' x δ hs g1 v1 k1 r1 => by
  obtain ⟨b, rfl, h1, h2⟩ := hs
  cases r1
  refine ⟨b, rfl, ?_⟩
  cases b with
  | false => exact h1 rfl A0 H0 B H' σ g1 k1 Q fun v C H2 x ε hs2 g2 v2 k2 => q v C H2 x ε hs2 g2 (v1.trans v2) k2
  | true => exact q _ B H' _ δ (h2 rfl) g1 v1 k1 (.bl true)
theorem exa_nil {S : List Dat → Gam → Prop} (h : S [] γ) : EvXA tNil γ S := fun A0 H0 A H σ g0 k Q q => q [] A H [] γ h g0 (Ex.refl A) k .nil
theorem exa_cons {tr : TA} {S : List Dat → Gam → Prop} (h : EvX ta γ S1) (hr : ∀ x δ, S1 x δ → EvXA tr δ (fun xs ε => S (x :: xs) ε)) : EvXA (tCons ta tr) γ S := fun A0 H0 A H σ g0 k Q q =>
  h A0 H0 A H σ g0 k _ fun v B H1 x δ hs g1 v1 k1 r1 => hr x δ hs A0 H0 B H1 σ g1 k1 _ fun vs C H2 xs ε hs2 g2 v2 k2 r2 => q _ C H2 _ ε hs2 g2 (v1.trans v2) k2 (.cons (r1.mono v2) r2)
theorem exa_of {tr : TA} {S : List Dat → Gam → Prop} (h : EvA tr γ xs) (hs : S xs γ) : EvXA tr γ S := fun A0 H0 A H σ g0 k Q q => h H0 A H σ k Q fun vs B H' g1 r1 => q vs B H' xs γ hs (g0.trans g1) g1.view (k.mono g1) r1
theorem ex_tup {tr : TA} (h : EvXA tr γ (fun xs δ => xs.length ≤ sizeLine ∧ S (.tup xs) δ)) : EvX (tTup tr) γ S := fun A0 H0 A H σ g0 k Q q =>
  h A0 H0 A H σ g0 k _ fun vs B H1 xs δ hs g1 v1 k1 r1 => ⟨by rw [r1.len]; exact hs.1, fun p hp => by
    have g2 := Gr.new (o := .tup vs) g1.sub hp
    exact q _ _ _ _ δ hs.2 (g1.trans g2) (v1.trans g2.view) (k1.mono g2) (.tup upd_same (r1.mono g2.view))⟩
theorem ex_lst {tr : TA} (h : EvXA tr γ (fun xs δ => xs.length ≤ sizeLine ∧ S (.lst xs) δ)) : EvX (tLst tr) γ S := fun A0 H0 A H σ g0 k Q q =>
  h A0 H0 A H σ g0 k _ fun vs B H1 xs δ hs g1 v1 k1 r1 => ⟨by rw [r1.len]; exact hs.1, fun p hp => by
    have g2 := Gr.new (o := .lst vs) g1.sub hp
    exact q _ _ _ _ δ hs.2 (g1.trans g2) (v1.trans g2.view) (k1.mono g2) (.lst upd_same (r1.mono g2.view))⟩
theorem ex_call {Rf : List Dat → Dat → Prop} {E : XK} {tr : TA} (h : EvXA tr γ (fun xs δ => ∃ z, Rf xs z ∧ S z δ)) : EvX (tCall (Pr Rf) [] E tr) γ S := fun A0 H0 A H σ g0 k Q q =>
  h A0 H0 A H σ g0 k _ fun vs B H1 xs δ hs g1 v1 k1 r1 => by
    obtain ⟨z, hR, hS⟩ := hs
    exact ⟨B, xs, z, g1.sub, by rw [List.append_nil]; exact r1, hR, fun v C H2 g2 r2 => q v C H2 z δ hS (g1.trans g2) (v1.trans g2.view) (k1.mono g2) r2⟩
theorem r2_ixL {i : Int} (h : atI xs i = some z) : R2D (rIxL K) (.lst xs) (.int i) z := fun A H vx vy s r1 r2 Q q => by
  cases r2
  cases r1 with
  | @lst a us _ h1 R1 =>
    obtain ⟨v, e, rv⟩ := atI_rep R1 h
    exact ⟨a, us, i, v, rfl, rfl, SqL.of (s _ _ h1), e, q v A H (Gr.refl s) rv⟩
theorem ex_slT {tl th : TO} {lo hi : Option Int} (h : EvX te γ (fun x δ => ∃ xs, x = .tup xs ∧ EvO tl δ lo ∧ EvO th δ hi ∧ S (.tup (cutA xs lo hi)) δ)) : EvX (tSl (rSlA K) te tl th) γ S := fun A0 H0 A H σ g0 k Q q =>
  h A0 H0 A H σ g0 k _ fun v B H1 x δ hs g1 v1 k1 r1 => by
    obtain ⟨xs, rfl, o1, o2, hS⟩ := hs
    refine o1 H0 B H1 σ k1 _ fun C H2 g2 => o2 H0 C H2 σ (k1.mono g2) _ fun D H3 g3 => ?_
    cases r1 with
    | @tup a us _ ha R =>
      have g := g2.trans g3
      refine ⟨a, us, rfl, SqT.of (g.up _ _ (g1.sub _ _ ha)), fun e => ?_, fun _ p hp => ?_⟩
      · have ew : cutA xs lo hi = xs := by
          unfold cutA
          rw [← R.len, e.1, e.2, List.drop_zero, R.len]
          exact List.take_length
        rw [ew] at hS
        exact q _ D H3 _ δ hS (g1.trans g) (v1.trans g.view) (k1.mono g) (.tup (g.view _ _ ha) (R.mono g.view))
      · have g4 := Gr.new (o := .tup (cutV us lo hi)) g.sub hp
        exact q _ _ _ _ δ hS ((g1.trans g).trans g4) ((v1.trans g.view).trans g4.view) ((k1.mono g).mono g4) (.tup upd_same ((R.mono g.view).cut.mono g4.view))
/-! ### a list of another frame's is lent -/
theorem Gr.lent {A0 H0 A H B H' : Hp} {c : Addr} (g0 : Gr A0 H0 A H) (h0 : H0 c = none) (g : Gr A (hide c H) B H') : Gr A0 H0 B H' := by
  refine ⟨fun a o e => ?_, g0.view.trans g.view, g.sub, fun a o e m n => ?_⟩
  · have na : a ≠ c := ne_of_none e h0
    exact g.up a o (by rw [hide_ne na]; exact g0.up a o e)
  · have na : a ≠ c := ne_of_none e h0
    exact g.hid a o (by rw [hide_ne na]; exact g0.up a o e) m (g0.hid a o e m n)
/-- what the frame that lent it knows behind: the slot's new list -/
theorem Ok.lent {H0 A H B H' : Hp} {σ : L2.St} {i : Nat} {c : Addr} {s s' : Slot} {vs : List V} (k : Ok H0 A H σ γ) (h : γ[i]? = some s) (m : s.mine = true) (e : σ[i]? = some (some (V.ref c))) (g : Gr A (hide c H) B H') (hB : B c = none) (hH : H' c = some (.lst vs)) (rv : Reps B vs ys)
    (hs : s' = .o ys ∨ s' = .b c ys) : Ok H0 B H' σ (γ.set i s') := by
  obtain ⟨c', o, e1, h0, hA, _⟩ := k.addr h m
  rw [e] at e1
  cases e1
  have apart : ∀ (j : Nat) (t : Slot) (a : Addr), i ≠ j → γ[j]? = some t → t.mine = true → σ[j]? = some (some (V.ref a)) → a ≠ c := fun j t a q gj n e1 z => by
    subst z
    exact q (k.sep i j a s t h gj m n e e1)
  have ms : s'.mine = true := by rcases hs with rfl | rfl <;> rfl
  refine ⟨g.sub, by rw [List.length_set, k.len], fun j y hj => ?_, fun j zs hj => ?_, fun j zs hj => ?_, fun j d zs hj => ?_, fun j K m hj => ?_, fun j n a t u h1 h2 h3 h4 h5 h6 => ?_⟩
  · rcases set_get hj with ⟨rfl, z, _⟩ | ⟨q, hj⟩
    · rw [← z] at ms
      cases ms
    · obtain ⟨v, a, b⟩ := k.get j y hj
      exact ⟨v, a, b.mono g.view⟩
  · rcases set_get hj with ⟨rfl, z, _⟩ | ⟨q, hj⟩
    · rcases hs with rfl | rfl
      · cases z
        exact ⟨c, vs, e, h0, hB, hH, rv⟩
      · cases z
    · obtain ⟨a, vs', e1, e2, e3, e4, e5⟩ := k.own j zs hj
      have y : hide c H a = some (.lst vs') := by rw [hide_ne (apart j _ a q hj rfl e1)]; exact e4
      exact ⟨a, vs', e1, e2, g.hid a _ y True.intro e3, g.up a _ y, e5.mono g.view⟩
  · rcases set_get hj with ⟨rfl, z, _⟩ | ⟨q, hj⟩
    · rcases hs with rfl | rfl <;> cases z
    · obtain ⟨a, vs', e1, e2, e3, e4, e5⟩ := k.ownD j zs hj
      have y : hide c H a = some (.dT vs') := by rw [hide_ne (apart j _ a q hj rfl e1)]; exact e4
      exact ⟨a, vs', e1, e2, g.hid a _ y True.intro e3, g.up a _ y, e5.mono g.view⟩
  · rcases set_get hj with ⟨rfl, z, _⟩ | ⟨q, hj⟩
    · rcases hs with rfl | rfl
      · cases z
      · cases z
        exact ⟨vs, e, h0, hB, hH, rv⟩
    · obtain ⟨vs', e1, e2, e3, e4, e5⟩ := k.bor j d zs hj
      have y : hide c H d = some (.lst vs') := by rw [hide_ne (apart j _ d q hj rfl e1)]; exact e4
      exact ⟨vs', e1, e2, g.hid d _ y True.intro e3, g.up d _ y, e5.mono g.view⟩
  · rcases set_get hj with ⟨rfl, z, _⟩ | ⟨q, hj⟩
    · rcases hs with rfl | rfl <;> cases z
    · obtain ⟨a, h1, h2⟩ := k.scr j K m hj
      exact ⟨a, h1, Evl.ex_l g.view h2⟩
  · have back : ∀ (n : Nat) (t : Slot), (γ.set i s')[n]? = some t → t.mine = true → ∃ t', γ[n]? = some t' ∧ t'.mine = true := fun n t hn mt => by
      rcases set_get hn with ⟨rfl, z, _⟩ | ⟨q, hn⟩
      · exact ⟨s, h, m⟩
      · exact ⟨t, hn, mt⟩
    obtain ⟨z1, q1, m1⟩ := back j t h1 h3
    obtain ⟨z2, q2, m2⟩ := back n u h2 h4
    exact k.sep j n a z1 z2 q1 q2 m1 m2 h5 h6
end
/-- a def that changes the list that is its first argument: from the list ds and the data xs to a value and the list behind -/
def PrC (Rf : List Dat → List Dat → Dat → List Dat → Prop) (Pre : List Dat → List Dat → Prop) : Sp := fun vs H Q _ => ∃ A c cs ds us xs, vs = V.ref c :: us ∧ Ex A H ∧ A c = none ∧ H c = some (.lst cs) ∧ Reps A cs ds ∧ Reps A us xs ∧ Pre ds xs ∧
  ∀ v B H' x cs' ds', Rf ds xs x ds' → Gr A (hide c H) B H' → B c = none → H' c = some (.lst cs') → Reps B cs' ds' → Rep B v x → Q v H'
/-- a def that hands back a new list -/
def PrN (Rf : List Dat → List Dat → Prop) : Sp := fun vs H Q _ => ∃ A xs ys, Ex A H ∧ Reps A vs xs ∧ Rf xs ys ∧ ∀ l us B H', Gr A H B H' → H l = none → B l = none → H' l = some (.lst us) → Reps B us ys → Q (.ref l) H'
section
variable {K : PySem.W.Frag} {γ δ : Gam} {ta tb te : TE} {t u : TT} {x y z : Dat} {xs ys : List Dat} {S S1 S2 : Dat → Gam → Prop} {N M : Gam → Prop} {R : Dat → Gam → Prop} {tu tw : TS} {g : TG} {js : List Nat}
theorem en_callN {Rf : List Dat → List Dat → Prop} {E : XK} {tr : TA} (h : EvA tr γ xs) (hR : Rf xs ys) : EvN (tCall (PrN Rf) [] E tr) γ ys := fun H0 A H σ k Q q =>
  h H0 A H σ k _ fun vs B H1 g1 r1 => ⟨B, xs, ys, g1.sub, by rw [List.append_nil]; exact r1, hR, fun l us C H2 g2 hl hC h2 r2 => q l us C H2 (g1.trans g2) (Evl.fresh_back g1.up hl) hC h2 r2⟩
/-- a slot that holds a list that may be lent -/
def Lends (γ : Gam) (i : Nat) (ds : List Dat) : Prop := γ[i]? = some (Slot.o ds) ∨ ∃ c, γ[i]? = some (Slot.b c ds)
/-- the slot behind -/
def relend (γ : Gam) (i : Nat) (ds : List Dat) : Gam := match γ[i]? with
  | some (.b c _) => γ.set i (.b c ds)
  | _ => γ.set i (.o ds)
theorem exa_cons0 {tr : TA} {i : Nat} {ds : List Dat} (h : Lends γ i ds) {A0 H0 A H : Hp} {σ : L2.St} (g0 : Gr A0 H0 A H) (k : Ok H0 A H σ γ) : ∃ c cs s, γ[i]? = some s ∧ s.mine = true ∧ σ[i]? = some (some (V.ref c)) ∧ H0 c = none ∧ A c = none ∧ H c = some (.lst cs) ∧ Reps A cs ds ∧
    ∀ ds', relend γ i ds' = γ.set i (.o ds') ∨ relend γ i ds' = γ.set i (.b c ds') := by
  rcases h with h | ⟨c, h⟩
  · obtain ⟨c, cs, a, b, d, e, f⟩ := k.own i ds h
    exact ⟨c, cs, _, h, rfl, a, b, d, e, f, fun ds' => .inl (by unfold relend; rw [h])⟩
  · obtain ⟨cs, a, b, d, e, f⟩ := k.bor i c ds h
    exact ⟨c, cs, _, h, rfl, a, b, d, e, f, fun ds' => .inr (by unfold relend; rw [h])⟩
/-- f(crate, e, ..) -/
theorem ex_lend {Rf : List Dat → List Dat → Dat → List Dat → Prop} {Pre : List Dat → List Dat → Prop} {E : XK} {tr : TA} {i : Nat} {ds0 : List Dat} (h0 : Lends γ i ds0) (h : EvXA tr γ (fun xs δ => ∃ ds, Lends δ i ds ∧ Pre ds xs ∧ ∀ x ds', Rf ds xs x ds' → S x (relend δ i ds'))) :
    EvX (tCall (PrC Rf Pre) [] E (tCons (tVar i) tr)) γ S := fun A0 H0 A H σ g0 k Q q => by
  obtain ⟨c0, cs0, s0, e1, m1, e2, _⟩ := exa_cons0 (tr := tr) h0 g0 k
  refine ⟨.ref c0, e2, ?_⟩
  refine h A0 H0 A H σ g0 k _ fun us B H1 xs δ hs g1 v1 k1 r1 => ?_
  obtain ⟨ds, hl, hp, hS⟩ := hs
  obtain ⟨c, cs, s, x1, x2, x3, x4, x5, x6, x7, x8⟩ := exa_cons0 (tr := tr) hl g1 k1
  rw [e2] at x3
  cases x3
  refine ⟨B, c0, cs, ds, us, xs, by rw [List.append_nil], g1.sub, x5, x6, x7, r1, hp, fun v C H2 x cs' ds' hR g2 hC h2 rc rx => ?_⟩
  have gL := g1.lent x4 g2
  refine q v C H2 x _ (hS x ds' hR) gL (v1.trans g2.view) ?_ rx
  rcases x8 ds' with z | z
  · rw [z]
    exact k1.lent x1 x2 e2 g2 hC h2 rc (.inl rfl)
  · rw [z]
    exact k1.lent x1 x2 e2 g2 hC h2 rc (.inr rfl)
/-! ### statements -/
theorem runx_asg {i : Nat} (h : EvX te γ (fun x δ => N (δ.set i (.d x)))) : Run (tAsg te (gName i)) γ N R := fun A0 H0 A H σ g0 k D dn dr =>
  h A0 H0 A H σ g0 k _ fun v B H1 x δ hs g1 v1 k1 r1 => dn _ B H1 _ hs g1 v1 (k1.setD r1 i)
theorem runx_ret (h : EvX te γ R) : Run (tRet te) γ N R := fun A0 H0 A H σ g0 k D dn dr =>
  h A0 H0 A H σ g0 k _ fun v B H1 x δ hs g1 v1 k1 r1 => dr v B H1 x σ δ hs g1 k1 r1
theorem runx_drop (h : EvX te γ (fun _ δ => N δ)) : Run (tDrop te) γ N R := fun A0 H0 A H σ g0 k D dn dr =>
  h A0 H0 A H σ g0 k _ fun v B H1 x δ hs g1 v1 k1 r1 => dn _ B H1 _ hs g1 v1 k1
theorem runx_if {S : Bool → Gam → Prop} (h : EvXT t γ S) (h1 : ∀ δ, S true δ → Run tu δ N R) (h2 : ∀ δ, S false δ → Run tw δ N R) : Run (tIfS t tu tw) γ N R := fun A0 H0 A H σ g0 k D dn dr =>
  h A0 H0 A H σ g0 k _ fun b B H1 δ hs g1 v1 k1 => by
    have dn' : ∀ ε C H' σ', N ε → Gr A0 H0 C H' → Ex B C → Ok H0 C H' σ' ε → D.nx σ' H' := fun ε C H' σ' n g2 v2 k2 => dn ε C H' σ' n g2 (v1.trans v2) k2
    cases b with
    | true => exact h1 δ hs A0 H0 B H1 σ g1 k1 D dn' dr
    | false => exact h2 δ hs A0 H0 B H1 σ g1 k1 D dn' dr
/-- a, b = e1, e2 -/
theorem runx_par {i j : Nat} {ta : TA} (h : EvXA ta γ (fun xs δ => ∃ x y, xs = [x, y] ∧ N ((δ.set i (.d x)).set j (.d y)))) : Run (tPar i j ta) γ N R := fun A0 H0 A H σ g0 k D dn dr =>
  h A0 H0 A H σ g0 k _ fun vs B H1 xs δ hs g1 v1 k1 r1 => by
    obtain ⟨x, y, rfl, hn⟩ := hs
    cases r1 with
    | cons r1 r2 =>
      cases r2 with
      | cons r2 r3 =>
        cases r3
        exact ⟨_, _, rfl, dn _ B H1 _ hn g1 v1 ((k1.setD r1 i).setD r2 j)⟩
/-- crate[j] = e -/
theorem run_setB {i j : Nat} {c : Addr} (hi : γ[i]? = some (Slot.b c xs)) (h : EvD te γ x) (hj : j < xs.length) (hn : N (γ.set i (.b c (xs.set j x)))) : Run (tAsg te (gSub (tVar i) (tC (.int (j : Nat))) rSetL)) γ N R := fun A0 H0 A H σ g0 k D dn dr =>
  h H0 A H σ k _ fun v B H1 g1 r1 => by
    have k1 := k.mono g1
    obtain ⟨vs, e1, h0, hB, hH, rv⟩ := k1.bor i c xs hi
    refine ⟨.ref c, e1, c, vs, (j : Int), j, rfl, rfl, hH, Evl.ixN_nat (by rw [rv.len]; exact hj), ?_⟩
    exact dn _ B _ _ hn ((g0.trans g1).mut h0 hB) g1.view (k1.turn hi rfl e1 (fun _ z => nomatch z) (fun _ z => nomatch z) (fun _ z => nomatch z) (fun _ _ z => nomatch z) fun c' ys z => by cases z; exact ⟨rfl, _, rfl, rv.set r1 j⟩)
theorem er_varB {i : Nat} {c : Addr} (h : γ[i]? = some (Slot.b c xs)) : EvR (tVar i) γ xs := fun H0 A H σ k Q q => by
  obtain ⟨vs, a, _, _, b, d⟩ := k.bor i c xs h
  exact ⟨_, a, q c vs A H (Gr.refl k.sub) b d⟩
end
/-! # defs -/
theorem ok_entryC {A H : Hp} {c : Addr} {cs : List V} {ds : List Dat} (s : Ex A H) (hA : A c = none) (hH : H c = some (.lst cs)) (rc : Reps A cs ds) (N : List Str) {vs : List V} {xs : List Dat} (r : Reps A vs xs) (hN : vs.length < N.length) :
    Ok (hide c H) A H (L2.start N (V.ref c :: vs)) (Slot.b c ds :: entry (N.drop 1) xs) := by
  have q := ok_entry s (N.drop 1) r
  have e1 : L2.start N (V.ref c :: vs) = some (V.ref c) :: L2.start (N.drop 1) vs := by
    unfold L2.start
    rw [List.map_cons, List.cons_append, List.length_cons, List.length_drop]
    congr 3
    omega
  rw [e1]
  have no : ∀ (i : Nat) (t : Slot), (entry (N.drop 1) xs)[i]? = some t → t.mine = false ∧ ∀ K m, t ≠ .scr K m := fun i t h => by
    unfold entry at h
    by_cases hi : i < xs.length
    · rw [List.getElem?_append_left (by simpa using hi), List.getElem?_map] at h
      cases e : xs[i]? with
      | none => rw [e] at h; cases h
      | some a => rw [e] at h; cases h; exact ⟨rfl, fun _ _ z => nomatch z⟩
    · rw [List.getElem?_append_right (by simpa using hi), List.getElem?_replicate] at h
      split at h <;> cases h
      exact ⟨rfl, fun _ _ z => nomatch z⟩
  refine ⟨s, by rw [List.length_cons, List.length_cons, q.len], fun i x h => ?_, fun i ys h => ?_, fun i ys h => ?_, fun i d ys h => ?_, fun i K m h => ?_, fun i j l t u h1 h2 h3 h4 h5 h6 => ?_⟩
  · cases i with
    | zero => cases h
    | succ i => exact q.get i x h
  · cases i with
    | zero => cases h
    | succ i => exact absurd (no i _ h).1 (by intro z; cases z)
  · cases i with
    | zero => cases h
    | succ i => exact absurd (no i _ h).1 (by intro z; cases z)
  · cases i with
    | zero =>
      cases h
      exact ⟨cs, rfl, hide_self, hA, hH, rc⟩
    | succ i => exact absurd (no i _ h).1 (by intro z; cases z)
  · cases i with
    | zero => cases h
    | succ i => exact absurd rfl ((no i _ h).2 K m)
  · cases i with
    | zero =>
      cases j with
      | zero => rfl
      | succ j =>
        rw [(no j u h2).1] at h4
        cases h4
    | succ i =>
      rw [(no i t h1).1] at h3
      cases h3
theorem gr_lend {A H : Hp} {c : Addr} (s : Ex A H) : Gr A (hide c H) A H := ⟨fun a o e => by
  by_cases q : a = c
  · subst q
    rw [hide_self] at e
    cases e
  · rwa [hide_ne q] at e, Ex.refl A, s, fun _ _ _ _ n => n⟩
section
variable {P : Program} {w0 : World} {K : PySem.W.Frag} {mg : Str → Option Value} {base : Heap}
theorem fn_prC {x qual : Str} {st : Stmt} {f : Addr} {fd : FuncData} {N ps : List Str} {k : Nat} {Rf : List Dat → List Dat → Dat → List Dat → Prop} {Pre : List Dat → List Dat → Prop} (F : Fun K x qual st f fd) (S : FnScope N ps (defScope st)) (hlen : ∀ ds xs, Pre ds xs → xs.length + 1 = ps.length)
    (hbody : ∀ (cdv : Value) (A : Around) (outer : List PySem.Env) (s : Shared) (H : Hp) (E : XK), Room k (A.deeper (envOfC qual (defScope st) s.heap.objs.size f cdv)) →
      ∃ t, PSs (cxOf CX0 P w0 K mg base N qual (defScope st) f cdv A outer s H E).nox (defBody st) t ∧ ∀ c ds xs, Pre ds xs → Run t (Slot.b c ds :: entry (N.drop 1) xs) (fun δ => ∃ ds', δ[0]? = some (Slot.b c ds') ∧ Rf ds xs .non ds') (fun x δ => ∃ ds', δ[0]? = some (Slot.b c ds') ∧ Rf ds xs x ds')) :
    FnOk P w0 K mg base CX0 (k + 1) f fd ps (PrC Rf Pre) := by
  refine F.ok S (fun vs H Q E h => ?_) fun cdv A outer s H vs Q E hr h => ?_
  · obtain ⟨A, c, cs, ds, us, xs, rfl, _, _, _, _, r, hp, _⟩ := h
    rw [List.length_cons, r.len]
    exact hlen ds xs hp
  · obtain ⟨B, c, cs, ds, us, xs, rfl, sub, hB, hH, rc, r, hp, q⟩ := h
    obtain ⟨t, h1, h2⟩ := hbody cdv A outer s H E hr
    have pl := hlen ds xs hp
    have nl : us.length < N.length := by
      have e := congrArg List.length S.pre
      rw [List.length_take] at e
      rw [r.len]
      omega
    have fin : ∀ (v : V) (C H' : Hp) (z : Dat) (σ' : L2.St) (δ : Gam), (∃ ds', δ[0]? = some (Slot.b c ds') ∧ Rf ds xs z ds') → Gr B (hide c H) C H' → Ok (hide c H) C H' σ' δ → Rep C v z → Q v H' := fun v C H' z σ' δ hz g k' rz => by
      obtain ⟨ds', hd, hR⟩ := hz
      obtain ⟨cs', _, _, hC, hc, rc'⟩ := k'.bor 0 c ds' hd
      exact q v C H' z cs' ds' hR g hC hc rc' rz
    refine ⟨t, h1, h2 c ds xs hp B (hide c H) B H _ (gr_lend sub) (ok_entryC sub hB hH rc N r nl) _ (fun δ C H' σ' hn g _ k' => ?_) fun v C H' z σ' δ hz g k' rz => ?_⟩
    · exact fin .non C H' .non σ' δ hn g k' .non
    · exact fin v C H' z σ' δ hz g k' rz
end
end Fr

set_option Elab.async false
set_option linter.all false
set_option maxRecDepth 100000
set_option maxHeartbeats 4000000
namespace Fr
open PySem PySem.Spec PyProof.Rows L2
open Evl (Ex)
/-! # great powers -/
def CPowW (i j : Int) : Prop := 0 ≤ j ∧ (Builtin.Int.intBits i : Int) * j ≤ 2 ^ 27
theorem op_powW {X : Cx} : OpR X (binaryOp .Pow) (rI CPowW fun i j => .int (i ^ j.toNat)) := opI fun _ _ _ _ _ _ _ hc q => pow_int hc.1 hc.2 q
/-- int(n), abs(n), max(m, n), min(m, n) -/
def rInt1 : List V → Hp → VK → Prop := fun xs H Q => (∃ i, xs = [V.int i] ∧ Q (V.int i) H) ∨ ∃ k, xs = [V.bl k] ∧ Q (V.int (if k = true then 1 else 0)) H
theorem call_int1' {X : Cx} : CallR X (.type "int") rInt1 := call_int1
def rAbs1 : List V → Hp → VK → Prop := fun xs H Q => ∃ i, xs = [V.int i] ∧ Q (V.int (if i < 0 then -i else i)) H
theorem call_abs' {X : Cx} : CallR X (.builtin "abs") rAbs1 := call_abs
def rMax2' : List V → Hp → VK → Prop := fun xs H Q => ∃ i j, xs = [V.int i, V.int j] ∧ Q (V.int (if j > i then j else i)) H
theorem call_max2' {X : Cx} (h : X.calm = true) : CallR X (.builtin "max") rMax2' := call_max2 h
def rMin2' : List V → Hp → VK → Prop := fun xs H Q => ∃ i j, xs = [V.int i, V.int j] ∧ Q (V.int (if j < i then j else i)) H
theorem call_min2' {X : Cx} (h : X.calm = true) : CallR X (.builtin "min") rMin2' := call_min2 h
section
variable {K : PySem.W.Frag} {γ δ : Gam} {ta tb te : TE} {x y z : Dat} {xs ys : List Dat} {S S1 S2 : Dat → Gam → Prop} {N M : Gam → Prop} {R : Dat → Gam → Prop} {tu tw : TS}
theorem r2_powW {i j : Int} (h : CPowW i j) : R2D (rI CPowW fun i j => .int (i ^ j.toNat)) (.int i) (.int j) (.int (i ^ j.toNat)) := r2_I h fun _ => .int _
theorem r2_pow {i j : Int} (h : CPow i j) : R2D (rI CPow fun i j => .int (i ^ j.toNat)) (.int i) (.int j) (.int (i ^ j.toNat)) := r2_I h fun _ => .int _
theorem rc_int1 {i : Int} : RCD rInt1 [.int i] (.int i) := fun A H vs s r Q q => by
  cases r with
  | cons r1 r2 =>
    cases r1
    cases r2
    exact .inl ⟨i, rfl, q _ A H (Gr.refl s) (.int _)⟩
theorem rc_abs1 {i : Int} : RCD rAbs1 [.int i] (.int (if i < 0 then -i else i)) := fun A H vs s r Q q => by
  cases r with
  | cons r1 r2 =>
    cases r1
    cases r2
    exact ⟨i, rfl, q _ A H (Gr.refl s) (.int _)⟩
theorem rc_max2 {i j : Int} : RCD rMax2' [.int i, .int j] (.int (if j > i then j else i)) := fun A H vs s r Q q => by
  cases r with
  | cons r1 r2 =>
    cases r1
    cases r2 with
    | cons r2 r3 =>
      cases r2
      cases r3
      exact ⟨i, j, rfl, q _ A H (Gr.refl s) (.int _)⟩
theorem rc_min2 {i j : Int} : RCD rMin2' [.int i, .int j] (.int (if j < i then j else i)) := fun A H vs s r Q q => by
  cases r with
  | cons r1 r2 =>
    cases r1
    cases r2 with
    | cons r2 r3 =>
      cases r2
      cases r3
      exact ⟨i, j, rfl, q _ A H (Gr.refl s) (.int _)⟩
theorem ev_int1 {i : Int} (h : EvD te γ (.int i)) : EvD (tCB rInt1 (tCons te tNil)) γ (.int i) := ev_cb (ea_cons h ea_nil) rc_int1
/-- a built-in upon what changes -/
theorem ex_cb {rc : List V → Hp → VK → Prop} {tr : TA} (h : EvXA tr γ (fun xs δ => ∃ z, RCD rc xs z ∧ S z δ)) : EvX (tCB rc tr) γ S := fun A0 H0 A H σ g0 k Q q =>
  h A0 H0 A H σ g0 k _ fun vs B H1 xs δ hs g1 v1 k1 r1 => by
    obtain ⟨z, hR, hS⟩ := hs
    exact hR B H1 vs g1.sub r1 Q fun v C H2 g2 r2 => q v C H2 z δ hS (g1.trans g2) (v1.trans g2.view) (k1.mono g2) r2
/-- found.append(e), e a thing that changes the crate -/
theorem runx_app {i : Nat} {ys0 : List Dat} (h0 : γ[i]? = some (Slot.o ys0)) (h : EvX te γ (fun x δ => ∃ xs, δ[i]? = some (Slot.o xs) ∧ xs.length < sizeLine ∧ N (δ.set i (.o (xs ++ [x]))))) : Run (tDrop (tBM K "list" rAppend (tVar i) (tCons te tNil))) γ N R := fun A0 H0 A H σ g0 k D dn dr => by
  obtain ⟨l0, vs0, e0, _, _, hH0, _⟩ := k.own i ys0 h0
  refine ⟨.ref l0, e0, .inl ⟨rfl, vs0, SqL.of hH0⟩, h A0 H0 A H σ g0 k _ fun v B H1 x δ hs g1 v1 k1 r1 => ?_⟩
  obtain ⟨xs, hx, hz, hn⟩ := hs
  obtain ⟨l, vs, e, h0', hB, hH, r⟩ := k1.own i xs hx
  rw [e0] at e
  cases e
  refine ⟨l0, vs, v, rfl, rfl, hH, by rw [r.len]; exact hz, ?_⟩
  exact dn _ B _ σ hn (g1.mut h0' hB) v1 (k1.change hx e0 (r.app (Reps.one r1)))
/-- for k in range(e), e a thing that changes the crate -/
theorem runx_forR {tr : TA} {j : Nat} (I : Int → Nat → Gam → Prop) (h : EvXA tr γ (fun xs δ => ∃ n, xs = [.int n] ∧ -(2 ^ 62) ≤ n ∧ n < 2 ^ 62 ∧ I n 0 δ))
    (hs : ∀ (n : Int) (i : Nat) δ, (i : Int) < n → I n i δ → Run tu (δ.set j (.d (.int (i : Int)))) (I n (i + 1)) R) (hd : ∀ n δ, I n n.toNat δ → N δ) : Run (tFor (iRng1 tr) (gName j) tu) γ N R := fun A0 H0 A H σ g0 k D dn dr =>
  h A0 H0 A H σ g0 k _ fun vs B H1 xs δ hs' g1 v1 k1 r1 => by
    obtain ⟨n, rfl, b1, b2, hI0⟩ := hs'
    cases r1 with
    | cons r1 r2 =>
      cases r1
      cases r2
      refine ⟨n, rfl, b1, b2, for_range (lo := 0) (n := n.toNat) (fun i σ' H' => ∃ δ C, I n i δ ∧ Gr A0 H0 C H' ∧ Ex B C ∧ Ok H0 C H' σ' δ) ⟨δ, B, hI0, g1, Ex.refl B, k1⟩ ?_ ?_⟩
      · rintro i σ' H' hi ⟨δ, C, hI, g2, v2, k2⟩
        have e0 : (0 : Int) + (i : Int) = (i : Int) := Int.zero_add _
        rw [e0]
        have k3 := k2.setD (v := .int (i : Int)) (.int _) j
        exact hs n i δ (by omega) hI A0 H0 C H' _ g2 k3 { D with nx := _, ct := _, bk := D.nx } (fun δ' C' H3 σ4 hN g4 v4 k4 => ⟨δ', C', hN, g4, v2.trans v4, k4⟩) dr
      · rintro σ' H' ⟨δ, C, hI, g2, v2, k2⟩
        exact dn δ C H' σ' (hd n δ hI) g2 (v1.trans v2) k2
end
/-! # the law's crate: a number that is used up, one that is not, and how often it was asked -/
def CrOk (ds : List Dat) (n : Nat) : Prop := ∃ a b k : Int, ds = [.int a, .int b, .int k] ∧ 0 ≤ a ∧ 0 ≤ b ∧ b < 2 ^ 140 ∧ 0 ≤ k ∧ k ≤ (n : Int)
theorem CrOk.mono {ds : List Dat} {n m : Nat} (h : CrOk ds n) (hm : n ≤ m) : CrOk ds m := by
  obtain ⟨a, b, k, e, h1, h2, h3, h4, h5⟩ := h
  exact ⟨a, b, k, e, h1, h2, h3, h4, by omega⟩
theorem fmod_in {x m : Int} (h : 0 < m) : 0 ≤ x.fmod m ∧ x.fmod m < m := by
  rw [Int.fmod_eq_emod_of_nonneg x (by omega)]
  exact ⟨Int.emod_nonneg x (by omega), Int.emod_lt_of_pos x h⟩
theorem bits_of {x : Int} {k : Nat} (h0 : 0 ≤ x) (h : x < 2 ^ k) : Builtin.Int.intBits x ≤ k := by
  refine intBits_le ?_
  have e : (x.natAbs : Int) = x := Int.natAbs_of_nonneg h0
  have e2 : ((2 ^ k : Nat) : Int) = 2 ^ k := by norm_cast
  omega
end Fr

set_option Elab.async false
set_option linter.all false
set_option maxRecDepth 100000
set_option maxHeartbeats 4000000
namespace Fr
open PySem PySem.Spec PyProof.Rows L2
open Evl (Ex)
section
variable {K : PySem.W.Frag} {γ δ : Gam} {ta tb te : TE} {t u : TT} {x y z : Dat} {r : R2} {xs ys : List Dat} {S S1 S2 : Dat → Gam → Prop} {N M : Gam → Prop} {R : Dat → Gam → Prop} {tu tw : TS}
theorem exa_consC {tr : TA} {S : List Dat → Gam → Prop} (h : EvX ta γ (fun x δ => EvXA tr δ (fun xs ε => S (x :: xs) ε))) : EvXA (tCons ta tr) γ S := exa_cons h fun _ _ h => h
theorem ex_opC (h : EvX ta γ (fun x δ => EvX tb δ (fun y ε => ∃ z, R2D r x y z ∧ S z ε))) : EvX (tOp r ta tb) γ S := ex_op h fun _ _ h => h
theorem run_seqC (h : Run tu γ (fun δ => Run tw δ N R) R) : Run (tSeq tu tw) γ N R := run_seq h fun _ h => h
theorem ex_ifP {b : Bool} (h : EvT t γ b) (h1 : b = true → EvX ta γ S) (h2 : b = false → EvX tb γ S) : EvX (tIf t ta tb) γ S :=
  ex_if (S1 := fun b' δ => b' = b ∧ δ = γ) (ext_of h ⟨rfl, rfl⟩) (by rintro δ ⟨e, rfl⟩; exact h1 e.symm) (by rintro δ ⟨e, rfl⟩; exact h2 e.symm)
theorem ex_ifC (h : EvXT t γ (fun b δ => (b = true → EvX ta δ S) ∧ (b = false → EvX tb δ S))) : EvX (tIf t ta tb) γ S := ex_if h (fun _ h => h.1 rfl) fun _ h => h.2 rfl
theorem runx_ifC (h : EvXT t γ (fun b δ => (b = true → Run tu δ N R) ∧ (b = false → Run tw δ N R))) : Run (tIfS t tu tw) γ N R := runx_if h (fun _ h => h.1 rfl) fun _ h => h.2 rfl
theorem CrOk.least {ds : List Dat} {n : Nat} (h : CrOk ds n) : ∃ m : Nat, m ≤ n ∧ CrOk ds m ∧ ∀ k, CrOk ds k → m ≤ k := by
  obtain ⟨a, b, k, e, h1, h2, h3, h4, h5⟩ := h
  refine ⟨k.toNat, by omega, ⟨a, b, k, e, h1, h2, h3, h4, by omega⟩, fun n' h' => ?_⟩
  obtain ⟨a', b', k', e', g1, g2, g3, g4, g5⟩ := h'
  rw [e] at e'
  cases e'
  omega
end
structure CalS (P : Program) (w0 : World) (K : PySem.W.Frag) (mg : Str → Option Value) (base : Heap) (x : Str) (ps : List Str) (k : Nat) (S : Sp) (f : Addr) (fd : FuncData) : Prop where
  ok : FnOk P w0 K mg base CX0 k f fd ps S
  bd : Binds K fd ps []
  at_ : mg x = some (.ref f)
  kp : PySem.W.keepIn K (.ref f) = true
def Bits (ns : List Int) : Prop := ∀ b ∈ ns, b = 0 ∨ b = 1
theorem Bits.nil : Bits [] := fun _ h => nomatch h
theorem Bits.app {ns ms : List Int} (h : Bits ns) (k : Bits ms) : Bits (ns ++ ms) := fun b hb => (List.mem_append.mp hb).elim (h b) (k b)
theorem Bits.one {b : Int} (h : b = 0 ∨ b = 1) : Bits [b] := fun c hc => by
  rw [List.mem_singleton.mp hc]
  exact h
theorem Bits.two {b : Int} (h0 : 0 ≤ b) (h1 : b < 2) : Bits [b] := .one (by omega)
theorem Bits.take {ns : List Int} (h : Bits ns) (n : Nat) : Bits (ns.take n) := fun b hb => h b (List.mem_of_mem_take hb)
theorem Bits.drop {ns : List Int} (h : Bits ns) (n : Nat) : Bits (ns.drop n) := fun b hb => h b (List.mem_of_mem_drop hb)
/-- a def of which only a bound is told -/
def PrX (Pre : List Dat → Prop) (Rf : List Dat → Dat → Prop) : Sp := fun vs H Q _ => ∃ A xs, Ex A H ∧ Reps A vs xs ∧ Pre xs ∧ ∀ v B H' x, Rf xs x → Gr A H B H' → Rep B v x → Q v H'
section
variable {K : PySem.W.Frag} {γ δ : Gam} {ta tb te : TE} {t u : TT} {x y z : Dat} {r : R2} {xs ys : List Dat} {S S1 S2 : Dat → Gam → Prop} {N M : Gam → Prop} {R : Dat → Gam → Prop} {tu tw : TS}
theorem ex_callX {Pre : List Dat → Prop} {Rf : List Dat → Dat → Prop} {E : XK} {tr : TA} (h : EvXA tr γ (fun xs δ => Pre xs ∧ ∀ z, Rf xs z → S z δ)) : EvX (tCall (PrX Pre Rf) [] E tr) γ S := fun A0 H0 A H σ g0 k Q q =>
  h A0 H0 A H σ g0 k _ fun vs B H1 xs δ hs g1 v1 k1 r1 => by
    obtain ⟨hP, hS⟩ := hs
    exact ⟨B, xs, g1.sub, by rw [List.append_nil]; exact r1, hP, fun v C H2 z hR g2 r2 => q v C H2 z δ (hS z hR) (g1.trans g2) (v1.trans g2.view) (k1.mono g2) r2⟩
theorem r2_eqS {a b : Str} : R2D rEq (.str a) (.str b) (.bl (decide (a = b))) := fun A H vx vy s r1 r2 Q q => by
  cases r1
  cases r2
  refine ⟨rfl, q _ A H (Gr.refl s) ?_⟩
  have e : decide (V.str a = V.str b) = decide (a = b) := decide_eq_decide.mpr ⟨fun h => V.str.inj h, fun h => h ▸ rfl⟩
  rw [e]
  exact .bl _
theorem runx_forT {tl : TE} {g : TG} (I : List Dat → Nat → Gam → Prop) (h : EvX tl γ (fun x δ => ∃ xs, x = .tup xs ∧ I xs 0 δ))
    (hs : ∀ xs i x δ, xs[i]? = some x → I xs i δ → ∃ js ε, Tg g js δ x ε ∧ Run tu ε (I xs (i + 1)) R) (hd : ∀ xs δ, I xs xs.length δ → N δ) : Run (tFor (iTup K tl) g tu) γ N R := fun A0 H0 A H σ g0 k D dn dr =>
  h A0 H0 A H σ g0 k _ fun v B H1 x δ hs' g1 v1 k1 r1 => by
    obtain ⟨xs, rfl, h0⟩ := hs'
    cases r1 with
    | @tup a us _ ha ru =>
      refine ⟨a, rfl, ⟨us, SqT.of (g1.sub _ _ ha)⟩, for_tup (K := K) (xs := us) (fun i σ' H' => ∃ δ C, I xs i δ ∧ Gr A0 H0 C H' ∧ Ex B C ∧ Ok H0 C H' σ' δ) ⟨δ, B, h0, g1, Ex.refl B, k1⟩ ?_ ?_ ?_⟩
      · rintro i σ' H' _ ⟨δ, C, _, g2, v2, _⟩
        exact SqT.of (g2.sub _ _ (v2 _ _ ha))
      · rintro i u σ' H' hi ⟨δ, C, hI, g2, v2, k2⟩
        obtain ⟨x, hx, rx⟩ := ru.getV hi
        obtain ⟨js, ε, ht, hr⟩ := hs xs i x δ hx hI
        refine ht H0 C H' σ' u k2 (rx.mono v2) _ fun σ3 k3 _ _ => ?_
        exact hr A0 H0 C H' σ3 g2 k3 { D with nx := _, ct := _, bk := D.nx } (fun δ' C' H3 σ4 hN g4 v4 k4 => ⟨δ', C', hN, g4, v2.trans v4, k4⟩) dr
      · rintro σ' H' ⟨δ, C, hI, g2, v2, k2⟩
        rw [ru.len] at hI
        exact dn δ C H' σ' (hd xs δ hI) g2 (v1.trans v2) k2
theorem w_len {a b : List Int} (h : w a = w b) : a.length = b.length := by
  have e := congrArg List.length (Dat.tup.inj h)
  rwa [List.length_map, List.length_map] at e
theorem run_par {i j : Nat} {ta : TA} (h : EvA ta γ [x, y]) (hn : N ((γ.set i (.d x)).set j (.d y))) : Run (tPar i j ta) γ N R := runx_par (exa_of h ⟨x, y, rfl, hn⟩)
end
section
variable {P : Program} {w0 : World} {K : PySem.W.Frag} {mg : Str → Option Value} {base : Heap}
theorem fn_prX {x qual : Str} {st : Stmt} {f : Addr} {fd : FuncData} {N ps : List Str} {k : Nat} {Pre : List Dat → Prop} {Rf : List Dat → Dat → Prop} (F : Fun K x qual st f fd) (S : FnScope N ps (defScope st)) (hlen : ∀ xs, Pre xs → xs.length = ps.length)
    (hbody : ∀ (cdv : Value) (A : Around) (outer : List PySem.Env) (s : Shared) (H : Hp) (E : XK), Room k (A.deeper (envOfC qual (defScope st) s.heap.objs.size f cdv)) →
      ∃ t, PSs (cxOf CX0 P w0 K mg base N qual (defScope st) f cdv A outer s H E).nox (defBody st) t ∧ ∀ xs, Pre xs → Run t (entry N xs) (fun _ => Rf xs .non) (fun z _ => Rf xs z)) : FnOk P w0 K mg base CX0 (k + 1) f fd ps (PrX Pre Rf) := by
  refine F.ok S (fun vs H Q E h => ?_) fun cdv A outer s H vs Q E hr h => ?_
  · obtain ⟨A, xs, s, r, hP, _⟩ := h
    rw [r.len]
    exact hlen xs hP
  · obtain ⟨B, xs, sub, r, hP, q⟩ := h
    obtain ⟨t, h1, h2⟩ := hbody cdv A outer s H E hr
    refine ⟨t, h1, h2 xs hP B H B H _ (Gr.refl sub) (ok_entry sub N r) _ (fun δ C H' σ' hn g _ k' => ?_) fun v C H' z σ' δ hz g _ rz => ?_⟩
    · exact q _ C H' _ hn g .non
    · exact q v C H' z hz g rz
end
end Fr

set_option Elab.async false
set_option linter.all false
set_option maxRecDepth 100000
set_option maxHeartbeats 4000000
namespace Fr
open PySem PySem.Spec PyProof.Rows L2
open Evl (Ex)
theorem Ok.move {H0 A H H0' A' H' : Hp} {σ : L2.St} {γ : Gam} (k : Ok H0 A H σ γ) (s : Ex A' H') (v : Ex A A') (h : ∀ c o, H0 c = none → A c = none → H c = some o → H0' c = none ∧ A' c = none ∧ H' c = some o) : Ok H0' A' H' σ γ := by
  refine ⟨s, k.len, fun i x q => ?_, fun i xs q => ?_, fun i xs q => ?_, fun i c xs q => ?_, fun i K m q => ?_, k.sep⟩
  · obtain ⟨u, a, b⟩ := k.get i x q
    exact ⟨u, a, b.mono v⟩
  · obtain ⟨a, vs, x1, x2, x3, x4, x5⟩ := k.own i xs q
    obtain ⟨y1, y2, y3⟩ := h a _ x2 x3 x4
    exact ⟨a, vs, x1, y1, y2, y3, x5.mono v⟩
  · obtain ⟨a, vs, x1, x2, x3, x4, x5⟩ := k.ownD i xs q
    obtain ⟨y1, y2, y3⟩ := h a _ x2 x3 x4
    exact ⟨a, vs, x1, y1, y2, y3, x5.mono v⟩
  · obtain ⟨vs, x1, x2, x3, x4, x5⟩ := k.bor i c xs q
    obtain ⟨y1, y2, y3⟩ := h c _ x2 x3 x4
    exact ⟨vs, x1, y1, y2, y3, x5.mono v⟩
  · obtain ⟨a, h1, h2⟩ := k.scr i K m q
    exact ⟨a, h1, Evl.ex_l v h2⟩
theorem Ok.unwipe {H0 A H : Hp} {σ : L2.St} {γ : Gam} {vs : List Nat} (k : Ok H0 A H (L2.wipe σ vs) γ) (hv : ∀ v ∈ vs, ∀ s, γ[v]? = some s → s = .no) : Ok H0 A H σ γ := by
  have at_ : ∀ (i : Nat) (s : Slot), γ[i]? = some s → s ≠ .no → (L2.wipe σ vs)[i]? = σ[i]? := fun i s h n => by
    rw [wipe_get, if_neg fun z => n (hv i z.1 s h)]
  have ne : ∀ s : Slot, s.mine = true → s ≠ .no := fun s m z => by rw [z] at m; cases m
  refine ⟨k.sub, by rw [← wipe_length σ vs]; exact k.len, fun i x q => ?_, fun i xs q => ?_, fun i xs q => ?_, fun i c xs q => ?_, fun i K m q => ?_, fun i j l s t h1 h2 h3 h4 h5 h6 => ?_⟩
  · have := k.get i x q
    rwa [at_ i _ q (by intro z; cases z)] at this
  · have := k.own i xs q
    rwa [at_ i _ q (by intro z; cases z)] at this
  · have := k.ownD i xs q
    rwa [at_ i _ q (by intro z; cases z)] at this
  · have := k.bor i c xs q
    rwa [at_ i _ q (by intro z; cases z)] at this
  · have := k.scr i K m q
    rwa [at_ i _ q (by intro z; cases z)] at this
  · exact k.sep i j l s t h1 h2 h3 h4 (by rw [at_ i s h1 (ne s h3)]; exact h5) (by rw [at_ j t h2 (ne t h4)]; exact h6)
theorem t_yes {σ : L2.St} {H : Hp} {X Y : Hp → Prop} (h : X H) : tYes σ H (fun b H3 => if b = true then X H3 else Y H3) := by
  show if true = true then X H else Y H
  rw [if_pos rfl]
  exact h
section
variable {K : PySem.W.Frag} {γ δ : Gam} {ta tb te : TE} {t u : TT} {x y z : Dat} {xs ys : List Dat} {S S1 S2 : Dat → Gam → Prop} {N M : Gam → Prop} {R : Dat → Gam → Prop} {tu tw : TS}
/-- [e for k in range(n)], n and e things that change what is the frame's own -/
theorem ex_lcRX {tr : TA} {j : Nat} {vs : List Nat} (I : Int → Nat → Gam → List Dat → Prop) (hj : j ∈ vs) (h : EvXA tr γ (fun xs δ => ∃ n, xs = [.int n] ∧ -(2 ^ 62) ≤ n ∧ n < sizeLine ∧ I n 0 (wipeG δ vs) []))
    (hv : ∀ n i δ zs, I n i δ zs → ∀ v ∈ vs, ∀ s, δ[v]? = some s → s = .no)
    (hs : ∀ (n : Int) (i : Nat) δ zs, (i : Int) < n → I n i δ zs → EvX te (δ.set j (.d (.int (i : Int)))) (fun x ε => I n (i + 1) (wipeG ε vs) (zs ++ [x]))) (hd : ∀ n δ zs, I n n.toNat δ zs → S (.lst zs) δ) : EvX (tLc (iRng1 tr) (gName j) tYes te vs) γ S := fun A0 H0 A H σ g0 k Q q =>
  h A0 H0 A H σ g0 k _ fun us B H1 xs δ hs' g1 v1 k1 r1 => by
    obtain ⟨n, rfl, b1, b2, hI0⟩ := hs'
    have hsz : (sizeLine : Int) < 2 ^ 62 := by rw [sizeLine_eq]; decide
    cases r1 with
    | cons r1 r2 =>
      cases r1
      cases r2
      refine ⟨n, rfl, b1, by omega, fun D hD => ?_⟩
      have d0 : H0 D = none := Evl.fresh_back g1.up hD
      have dA : A0 D = none := Evl.fresh_back (g1.view.trans g1.sub) hD
      have dB : B D = none := Evl.fresh_back g1.sub hD
      have e0 : ∀ a o, H0 a = some o → a ≠ D := fun a o e => ne_of_none e d0
      have step : ∀ (C H4 : Hp) (σ2 : L2.St) (ε : Gam) (acc us : List V), Gr A0 (upd H0 D (.lst acc)) C H4 → Ok (upd H0 D (.lst acc)) C H4 σ2 ε → Gr A0 (upd H0 D (.lst us)) C (upd H4 D (.lst us)) ∧ Ok (upd H0 D (.lst us)) C (upd H4 D (.lst us)) σ2 ε := fun C H4 σ2 ε acc us g k => by
        have cD : C D = none := g.hid D _ upd_same True.intro dA
        refine ⟨⟨fun a o e => ?_, g.view, g.sub.mut cD, fun a o e m nn => ?_⟩, k.move (g.sub.mut cD) (Ex.refl C) fun c o x1 x2 x3 => ?_⟩
        · by_cases z : a = D
          · subst z
            rw [upd_same] at e ⊢
            exact e
          · rw [upd_ne z] at e ⊢
            exact g.up a o (by rw [upd_ne z]; exact e)
        · by_cases z : a = D
          · subst z
            exact cD
          · rw [upd_ne z] at e
            exact g.hid a o (by rw [upd_ne z]; exact e) m nn
        · have z : c ≠ D := fun z => by
            subst z
            rw [upd_same] at x1
            cases x1
          rw [upd_ne z] at x1 ⊢
          exact ⟨x1, x2, by rw [upd_ne z]; exact x3⟩
      refine lc_range (lo := 0) (n := n.toNat) (fun i H' => ∃ C δ acc zs, I n i δ zs ∧ zs.length = i ∧ Gr A0 (upd H0 D (.lst acc)) C H' ∧ Ex B C ∧ Ok (upd H0 D (.lst acc)) C H' (L2.wipe σ vs) δ ∧ Reps C acc zs) ?_ ?_ ?_
      · refine ⟨B, wipeG δ vs, [], [], hI0, rfl, ⟨fun a o e => ?_, g1.view, g1.sub.trans (Ex.new hD), fun a o e m nn => ?_⟩, Ex.refl B, (k1.wipe vs).move (g1.sub.trans (Ex.new hD)) (Ex.refl B) fun c o x1 x2 x3 => ?_, .nil⟩
        · by_cases z : a = D
          · subst z
            rw [upd_same] at e ⊢
            exact e
          · rw [upd_ne z] at e ⊢
            exact g1.up a o e
        · by_cases z : a = D
          · subst z
            exact dB
          · rw [upd_ne z] at e
            exact g1.hid a o e m nn
        · have z : c ≠ D := ne_of_none x3 hD
          rw [upd_ne z]
          exact ⟨x1, x2, by rw [upd_ne z]; exact x3⟩
      · rintro i H' hi ⟨C, δ, acc, zs, hI, hl, g2, v2, k2, r2⟩
        have ez : (0 : Int) + (i : Int) = (i : Int) := Int.zero_add _
        rw [ez]
        have back : L2.wipe ((L2.wipe σ vs).set j (some (V.int (i : Int)))) vs = L2.wipe σ vs := wipe_back (js := [j]) (by rw [List.length_set]) (fun a ha => by rw [List.getElem?_set_ne (fun e => ha (by rw [e]; exact List.mem_singleton.mpr rfl))]) fun a ha => by rw [List.mem_singleton.mp ha]; exact hj
        refine ⟨back, ?_⟩
        refine t_yes ?_
        refine hs n i δ zs (by omega) hI A0 _ C H' _ g2 (k2.setD (v := .int (i : Int)) (.int _) j) _ fun yv C3 H4 x ε hI3 g3 v3 k3 r3 => ?_
        refine ⟨acc, g3.up _ _ upd_same, by rw [r2.len]; omega, C3, wipeG ε vs, acc ++ [yv], zs ++ [x], hI3, by rw [List.length_append, List.length_singleton, hl], ?_⟩
        have k4 := k3.wipe vs
        rw [back] at k4
        obtain ⟨s1, s2⟩ := step C3 H4 (L2.wipe σ vs) (wipeG ε vs) acc (acc ++ [yv]) g3 k4
        exact ⟨s1, v2.trans v3, s2, (r2.mono v3).app (Reps.one r3)⟩
      · rintro H' ⟨C, δ, acc, zs, hI, hl, g2, v2, k2, r2⟩
        have cD : C D = none := g2.hid D _ upd_same True.intro dA
        have hD' : H' D = some (.lst acc) := g2.up _ _ upd_same
        have g3 : Gr A0 H0 C H' := ⟨fun a o e => g2.up a o (by rw [upd_ne (e0 a o e)]; exact e), g2.view, g2.sub, fun a o e m nn => g2.hid a o (by rw [upd_ne (e0 a o e)]; exact e) m nn⟩
        have g4 := g3.show hD' d0 cD
        refine q (.ref D) _ H' _ δ (hd n δ zs hI) g4 ((v1.trans v2).trans (Ex.new cD)) ?_ (.lst upd_same (r2.mono (Ex.new cD)))
        refine (k2.unwipe (hv n _ δ zs hI)).move g4.sub (Ex.new cD) fun c o x1 x2 x3 => ?_
        have z : c ≠ D := fun z => by
          subst z
          rw [upd_same] at x1
          cases x1
        rw [upd_ne z] at x1 ⊢
        exact ⟨x1, x2, x3⟩
def EvXO (to : TO) (γ : Gam) (S : Option Int → Gam → Prop) : Prop := ∀ A0 H0 A H σ, Gr A0 H0 A H → Ok H0 A H σ γ → ∀ Q : Option Int → Hp → Prop, (∀ b B H' δ, S b δ → Gr A0 H0 B H' → Ex A B → Ok H0 B H' σ δ → Q b H') → to σ H Q
theorem exo_none {S : Option Int → Gam → Prop} (h : S none γ) : EvXO tNoPart γ S := fun A0 H0 A H σ g0 k Q q => q none A H γ h g0 (Ex.refl A) k
theorem exo_some {S : Option Int → Gam → Prop} (h : EvX te γ (fun x δ => ∃ i, x = .int i ∧ S (some i) δ)) : EvXO (tPart te) γ S := fun A0 H0 A H σ g0 k Q q =>
  h A0 H0 A H σ g0 k _ fun v B H1 x δ hs g1 v1 k1 r1 => by
    obtain ⟨i, rfl, hS⟩ := hs
    cases r1
    exact ⟨i, rfl, q _ B H1 δ hS g1 v1 k1⟩
theorem ex_cut {tl th : TO} (h : EvX te γ (fun x δ => ∃ ns, x = w ns ∧ EvXO tl δ (fun lo ε => EvXO th ε (fun hi ζ => S (w (cutI ns lo hi)) ζ)))) : EvX (tSl (rSlA K) te tl th) γ S := fun A0 H0 A H σ g0 k Q q =>
  h A0 H0 A H σ g0 k _ fun v B H1 x δ hs g1 v1 k1 r1 => by
    obtain ⟨ns, rfl, o1⟩ := hs
    refine o1 A0 H0 B H1 σ g1 k1 _ fun lo C H2 ε o2 g2 v2 k2 => o2 A0 H0 C H2 σ g2 k2 _ fun hi D H3 ζ hS g3 v3 k3 => ?_
    have hS : S (w (cutI ns lo hi)) ζ := hS
    rw [show w (cutI ns lo hi) = .tup (cutA (ns.map Dat.int) lo hi) by rw [cutA_map]; rfl] at hS
    cases r1 with
    | @tup a us _ ha R =>
      have vv := v2.trans v3
      refine ⟨a, us, rfl, SqT.of (g3.sub _ _ (vv _ _ ha)), fun e => ?_, fun _ p hp => ?_⟩
      · have ew : cutA (ns.map Dat.int) lo hi = ns.map Dat.int := by
          unfold cutA
          rw [← R.len, e.1, e.2, List.drop_zero, R.len]
          exact List.take_length
        rw [ew] at hS
        exact q _ D H3 _ ζ hS g3 (v1.trans vv) k3 (.tup (vv _ _ ha) (R.mono vv))
      · have g4 := Gr.new (o := .tup (cutV us lo hi)) g3.sub hp
        exact q _ _ _ _ ζ hS (g3.trans g4) ((v1.trans vv).trans g4.view) (k3.mono g4) (.tup upd_same ((R.mono vv).cut.mono g4.view))
end
end Fr

set_option Elab.async false
set_option linter.all false
set_option maxRecDepth 100000
set_option maxHeartbeats 4000000
namespace Fr
open PySem PySem.Spec PyProof.Rows L2
open Evl (Ex)
/-! # sorted: words of unlike lengths, none empty -/
theorem lex_asym : ∀ x y : List Int, HT.lexLt x y = true → HT.lexLt y x = false
  | [], [], h => by cases h
  | [], _ :: _, _ => rfl
  | _ :: _, [], h => by cases h
  | x :: xs, y :: ys, h => by
    rw [HT.lexLt_cons] at h ⊢
    by_cases e : x = y
    · subst e
      rw [if_pos rfl] at h ⊢
      exact lex_asym xs ys h
    · rw [if_neg e] at h
      rw [if_neg (fun z => e z.symm)]
      have := of_decide_eq_true h
      exact decide_eq_false (by omega)
theorem lex_tr : ∀ x y z : List Int, HT.lexLt y x = false → HT.lexLt z y = false → HT.lexLt z x = false
  | [], [], [], _, _ => rfl
  | [], [], _ :: _, _, _ => rfl
  | [], _ :: _, [], _, h => by cases h
  | [], _ :: _, _ :: _, _, _ => rfl
  | _ :: _, [], _, h, _ => by cases h
  | _ :: _, _ :: _, [], _, h => by cases h
  | x :: xs, y :: ys, z :: zs, h1, h2 => by
    rw [HT.lexLt_cons] at h1 h2 ⊢
    by_cases e1 : y = x
    · subst e1
      rw [if_pos rfl] at h1
      by_cases e2 : z = y
      · subst e2
        rw [if_pos rfl] at h2 ⊢
        exact lex_tr xs ys zs h1 h2
      · rw [if_neg e2] at h2 ⊢
        exact h2
    · rw [if_neg e1] at h1
      have a1 := of_decide_eq_false h1
      by_cases e2 : z = y
      · subst e2
        rw [if_neg e1]
        exact h1
      · rw [if_neg e2] at h2
        have a2 := of_decide_eq_false h2
        rw [if_neg (by omega)]
        exact decide_eq_false (by omega)
/-- two of which none is above the other are one -/
theorem lex_tri : ∀ x y : List Int, HT.lexLt x y = false → HT.lexLt y x = false → x = y
  | [], [], _, _ => rfl
  | [], _ :: _, h, _ => by cases h
  | _ :: _, [], _, h => by cases h
  | x :: xs, y :: ys, h1, h2 => by
    rw [HT.lexLt_cons] at h1 h2
    by_cases e : x = y
    · subst e
      rw [if_pos rfl] at h1 h2
      rw [lex_tri xs ys h1 h2]
    · rw [if_neg e] at h1
      rw [if_neg (fun z => e z.symm)] at h2
      have a1 := of_decide_eq_false h1
      have a2 := of_decide_eq_false h2
      omega
theorem swo_words {α : Type} (k : α → List Int) : SrtO.Swo fun v u => HT.lexLt (k v) (k u) := ⟨fun x y => lex_asym _ _, fun x y z => lex_tr _ _ _⟩
section
variable {prog : Program} {w : World} {A : Around} {E : Value → Shared → Prop} {s : Shared}
theorem kat_words {Q : Bool → Shared → Prop} {b fin : Bool} {xs ys : List Value} {ns ms : List Int} (i : Nat) (hx : IntsAre xs ns) (hy : IntsAre ys ms) (hf : fin = decide (ns.length < ms.length)) (h : Q (HT.lexLt ns ms) s) : PySem.W.KatLex prog w A b fin Q (xs.zip ys) i s := by
  induction hx generalizing ys ms i with
  | nil =>
    cases hy with
    | nil =>
      subst hf
      exact PySem.W.kat_nil h
    | cons q u hy =>
      have e : fin = true := by rw [hf]; exact decide_eq_true (Nat.zero_lt_succ _)
      subst e
      exact PySem.W.kat_nil h
  | @cons p t xs ns hx ih =>
    cases hy with
    | nil =>
      have e : fin = false := by rw [hf]; exact decide_eq_false (Nat.not_lt_zero _)
      subst e
      exact PySem.W.kat_nil h
    | @cons q u ys ms hy =>
      show PySem.W.KatLex prog w A b fin Q ((Value.int p t, Value.int q u) :: xs.zip ys) i s
      refine PySem.W.kat_cons (wpAny_eqBool_int ?_)
      rw [HT.lexLt_cons] at h
      have hf' : fin = decide (ns.length < ms.length) := by
        rw [hf]
        exact decide_eq_decide.mpr (by rw [List.length_cons, List.length_cons]; omega)
      by_cases e : p = q
      · subst e
        rw [beq_self_eq_true]
        rw [if_pos rfl] at h
        exact PySem.W.kat_yes (ih (i + 1) hy hf' h)
      · rw [show (p == q) = false from beq_eq_false_iff_ne.mpr e]
        rw [if_neg e] at h
        exact PySem.W.kat_no (TS.oneLt_ints _ h)
/-- each is a tuple of ints, not the empty one -/
def WordsAre (h : Heap) (k : Value → List Int) (vs : List Value) : Prop := ∀ v ∈ vs, TS.TupInts h v (k v) ∧ 0 < (k v).length
theorem words_firsts {h : Heap} {k : Value → List Int} : ∀ vs : List Value, WordsAre h k vs → ∃ fs, PySem.W.KatTups h vs fs ∧ fs.length = vs.length ∧ ∀ f, f ∈ fs → ∃ n t, f = Value.int n t
  | [], _ => ⟨[], PySem.W.KatTups.nil, rfl, fun f hf => by simp at hf⟩
  | v :: vs, x => by
    obtain ⟨fs, kk, hl, hi⟩ := words_firsts vs fun u hu => x u (List.mem_cons_of_mem _ hu)
    obtain ⟨⟨a, xs, rfl, ⟨o, ho, hc, n, hdt⟩, i⟩, hn⟩ := x v List.mem_cons_self
    obtain ⟨y, ys, e⟩ : ∃ y ys, xs.toList = y :: ys := by
      cases q : xs.toList with
      | nil =>
        have l := i.length
        rw [q, List.length_nil] at l
        omega
      | cons y ys => exact ⟨y, ys, rfl⟩
    obtain ⟨m, t, hy⟩ := i.all y (by rw [e]; exact List.mem_cons_self)
    refine ⟨y :: fs, PySem.W.KatTups.cons ho hc hdt ?_ kk, by simp [hl], ?_⟩
    · have z := congrArg (fun l : List Value => l[0]?) e
      simpa using z
    · intro f hf
      rcases List.mem_cons.mp hf with rfl | hf
      · exact ⟨m, t, hy⟩
      · exact hi f hf
theorem words_cmp {k : Value → List Int} {vs : List Value} (hp : WordsAre s.heap k vs) : SrtO.Cmp prog w A s (tuples' true) (fun p => p.1 ∈ vs) (SrtO.lt2 fun v u => HT.lexLt (k v) (k u)) := by
  intro p q hm hm'
  obtain ⟨⟨a, xs, e1, ⟨o, ho, hc, n, hdt⟩, i⟩, _⟩ := hp _ hm
  obtain ⟨⟨a', ys, e2, ⟨o', ho', hc', n', hdt'⟩, i'⟩, _⟩ := hp _ hm'
  show wpAny (model prog w) A (keyLt' (tuples' true) p.1 q.1) (fun r s' => s' = s ∧ r = HT.lexLt (k p.1) (k q.1)) (fun _ _ => False) s
  generalize k p.1 = ns at i ⊢
  generalize k q.1 = ms at i' ⊢
  rw [e1, e2]
  refine PySem.W.kat_lt ho hdt ho' hdt' (kat_words 0 i i' ?_ ⟨rfl, rfl⟩)
  have l1 := i.length
  have l2 := i'.length
  rw [Array.length_toList] at l1 l2
  rw [l1, l2]
theorem words_sortable {a : Addr} {k : Value → List Int} {vs : List Value} (h0 : 0 < vs.length) (hp : WordsAre s.heap k vs) (ha : ∀ o, s.heap.get? a = some o → o.cls ≠ .type "tuple") : SrtO.SortableO prog w A s a vs fun v u => HT.lexLt (k v) (k u) := by
  intro h' keep
  have hp' : WordsAre h' k vs := fun v hm => ⟨(hp v hm).1.keeps fun b o e c => keep b o (fun z => by subst z; exact ha o e c) e, (hp v hm).2⟩
  obtain ⟨fs, h1, h2, h3⟩ := words_firsts vs hp'
  refine ⟨tuples' true, fun Q E hq => ?_, words_cmp hp'⟩
  refine PySem.W.kat_kind (T := .type "int") h1 (by omega) (fun f hm => ?_) (by rfl) ?_
  · obtain ⟨x, t, rfl⟩ := h3 f hm
    exact PySem.W.Looks.now
  · have e : (Value.type "int" != Value.type "tuple") = true := by first | decide +kernel | rfl | decide
    rw [e]
    exact hq
end
/-- sorted(xs), xs a list of words, none empty (k says which) -/
def rSortedI (K : PySem.W.Frag) : List V → Hp → VK → Prop := fun vs H Q => ∃ (a : Addr) (xs : List V) (k : V → List Int), vs = [V.ref a] ∧ SqL K H a xs ∧ (∀ x ∈ xs, ∃ t, x = V.ref t ∧ H t = some (.tup ((k x).map V.int)) ∧ 0 < (k x).length) ∧
  ∀ (ys : List V) (p : Addr), SrtO.Srtd (fun x y => HT.lexLt (k x) (k y)) ys → ys.Perm xs → H p = none → Q (.ref p) (upd H p (.lst ys))
theorem cr_sortedI {X : Cx} : CallR X (.builtin "sorted") (rSortedI X.K) := by
  intro pins s σ H vs us Q I r h
  obtain ⟨a, xs, k, rfl, hs, hx, q⟩ := h
  obtain ⟨its, rv, hl, hz⟩ := I.list hs
  obtain ⟨u, rfl, ru⟩ := vals1 r
  obtain rfl : u = Value.ref a := ru
  obtain ⟨e1, e2⟩ := refs_back rv fun x m => by
    obtain ⟨t, e, _⟩ := hx x m
    exact ⟨t, e⟩
  have hp : WordsAre s.heap (fun u => k (backV u)) its := fun v hv => by
    obtain ⟨t, rfl⟩ := e2 v hv
    have hm : V.ref t ∈ xs := by rw [e1]; exact List.mem_map.mpr ⟨_, hv, rfl⟩
    obtain ⟨t', e, ht, hn⟩ := hx _ hm
    cases e
    obtain ⟨_, its2, r2, o⟩ := I.hok _ _ ht
    exact ⟨⟨t, _, rfl, o, r2.ints⟩, hn⟩
  refine SrtO.sorted_ord (swo_words fun u => k (backV u)) hl.isList (by rw [← rv.length]; exact hz) (fun h2 h₁ a' ha' kk => ?_) fun out h1 h2 => ?_
  · refine words_sortable (s := { s with heap := h₁ }) (by omega) (fun v hm => ⟨(hp v hm).1.keeps fun b o e _ => (kk b o e).2, (hp v hm).2⟩) fun o e => ?_
    have e' : some o = some (seqObj "list" its.toArray 0) := e.symm.trans ha'
    cases e'
    intro c
    exact absurd (Value.type.inj c) (by decide)
  · have h3 : ∀ u ∈ out, ∃ a, u = Value.ref a := fun u hu => e2 u (h2.perm.mem_iff.mp hu)
    obtain ⟨n, hn⟩ := sortedAll_at s.heap its out.toArray
    have hb : SrtO.Stb (fun x y => HT.lexLt (k x) (k y)) (out.map backV) xs := by
      rw [e1]
      exact SrtO.Stb.map (swo_words k) backV h2
    refine ⟨.ref (s.heap.objs.size + 1), upd H (s.heap.objs.size + 1) (.lst (out.map backV)), I.laid (t' := s.toks) (fun _ _ => PyProof.Rows.sortedAll_old) (Nat.le_succ _) ⟨?_, out, n, vals_back h3, hn⟩, rfl, q _ _ (SrtO.srtd_map h1) hb.perm (I.hok.fresh (Nat.le_succ _))⟩
    rw [hb.len]
    exact hz
theorem cr_sortedIK {X : Cx} {K : PySem.W.Frag} (e : X.K = K) : CallR X (.builtin "sorted") (rSortedI K) := e ▸ cr_sortedI
section
variable {K : PySem.W.Frag} {γ δ : Gam} {ta tb te : TE} {t u : TT} {x y z : Dat} {xs ys : List Dat} {N M : Gam → Prop} {R : Dat → Gam → Prop} {tu tw : TS}
end
end Fr

set_option Elab.async false
set_option linter.all false
set_option maxRecDepth 100000
set_option maxHeartbeats 4000000
namespace Fr
open PySem PySem.Spec PyProof.Rows L2
open Evl (Ex)
/-! # a tuple times an int that is 1 or more -/
theorem tuple_mul1 (l : Addr) (items : Array Value) (n : Nat) (dd : Option Addr) (sl : Array (Option Value)) (u : Tok) : Meets (Builtin.«tuple.__mul__» ⟨[.ref l, .int 1 u], []⟩) (fun _ R s => s.heap.get? l = some { cls := .type "tuple", dict := dd, data := .seq items n, slots := sl } ∧ R (.ok (.ret (Value.ref l))) s) :=
  .of_wp fun prog w A R s h => by
    obtain ⟨hp, g, d, tk, os⟩ := s
    obtain ⟨hl, h⟩ := h
    have f1 := AutoSeq1.idx_int
    wp_walk using wpAny_loadPart' hl
    exact ⟨_, rfl, h⟩
def rRepA (K : PySem.W.Frag) : R2 := fun x y H Q => rRepT K x y H Q ∨ ∃ l xs, x = .ref l ∧ y = .int 1 ∧ SqT K H l xs ∧ Q (.ref l) H
theorem op_repA {X : Cx} : OpR X (binaryOp .Mult) (rRepA X.K) := by
  intro pins s σ H x y v u Q I rx ry h
  rcases h with h | ⟨l, xs, rfl, rfl, hT, q⟩
  · exact op_repT pins s σ H x y v u Q I rx ry h
  · cases rx
    obtain ⟨t, rfl⟩ := ry
    obtain ⟨its, r, ⟨⟨cls, dd, data, sl⟩, ho, hc, n, hd⟩, hs⟩ := I.tuple hT
    simp only at hc hd
    subst hc hd
    exact wpAny_binaryOp_repeat_ref (T := "tuple") (U := "int") (by decide) ⟨_, ho, rfl⟩ (fun s' => typeIs_int s' 1 t) noFill_tuple_mul F.fills_int_mul F.slot_int_rmul repeat_tuple F.slot_int_index.lookup
      (call_meets F.slot_int_rmul (typeIs_int s 1 t) F.entry_int_rmul (F.args_int_rmul_2 _ _) (int_rmul_tuple 1 t l its.toArray n dd sl)
        ⟨ho, rfl, ⟨_, ho, rfl⟩, call_meets F.slot_tuple_mul ⟨_, ho, rfl⟩ F.entry_tuple_mul (F.args_tuple_mul_2 _ _) (tuple_mul1 l its.toArray n dd sl t) ⟨ho, ⟨.ref l, H, I, rfl, q⟩⟩⟩)
theorem op_repAK {X : Cx} {K : PySem.W.Frag} (e : X.K = K) : OpR X (binaryOp .Mult) (rRepA K) := e ▸ op_repA
def repW (k : Nat) (ns : List Int) : List Int := (List.replicate k ns).flatten
theorem repW_len (k : Nat) (ns : List Int) : (repW k ns).length = k * ns.length := by
  unfold repW
  rw [List.length_flatten, List.map_replicate, List.sum_replicate_nat]
section
variable {K : PySem.W.Frag} {γ δ : Gam} {ta tb te td tk tv : TE} {t u : TT} {x y z : Dat} {xs ys : List Dat} {es : List (List L2.Key × Dat)} {S : Dat → Gam → Prop} {N M : Gam → Prop} {R : Dat → Gam → Prop} {tu tw : TS}
theorem Reps.rep {A : Hp} {us : List V} (r : Reps A us xs) : ∀ k : Nat, Reps A (List.replicate k us).flatten (List.replicate k xs).flatten
  | 0 => .nil
  | k + 1 => by
    rw [List.replicate_succ, List.replicate_succ, List.flatten_cons, List.flatten_cons]
    exact r.app (Reps.rep r k)
theorem r2_rep {ns : List Int} {k : Int} (h0 : 0 < ns.length) (h1 : ns.length ≤ 1000) (k1 : 1 ≤ k) (k2 : k ≤ 1000) : R2D (rRepA K) (w ns) (.int k) (w (repW k.toNat ns)) := fun A H vx vy s r1 r2 Q q => by
  cases r2
  have e : w (repW k.toNat ns) = .tup (List.replicate k.toNat (ns.map Dat.int)).flatten := by
    unfold w repW
    rw [List.map_flatten, List.map_replicate]
  rw [e] at q
  cases r1 with
  | @tup a us _ ha R =>
    have ul : us.length = ns.length := by rw [R.len, List.length_map]
    by_cases z : k = 1
    · subst z
      refine .inr ⟨a, us, rfl, rfl, SqT.of (s _ _ ha), q _ A H (Gr.refl s) ?_⟩
      have e2 : (List.replicate (1 : Int).toNat (ns.map Dat.int)).flatten = ns.map Dat.int := by
        show (List.replicate 1 (ns.map Dat.int)).flatten = _
        simp
      rw [e2]
      exact .tup ha R
    · refine .inl ⟨a, k, us, rfl, rfl, SqT.of (s _ _ ha), fun z => by rw [z] at ul; rw [List.length_nil] at ul; omega, by omega, k2, by omega, fun p hp => ?_⟩
      have g := Gr.new (o := .tup (List.replicate k.toNat us).flatten) s hp
      exact q _ _ _ g (.tup upd_same ((R.rep k.toNat).mono g.view))
/-! # sorted -/
def sortW (ks : List (List Int)) : List (List Int) := ks.mergeSort fun x y => !HT.lexLt y x
theorem sortW_perm (ks : List (List Int)) : (sortW ks).Perm ks := List.mergeSort_perm _ _
theorem sortW_srtd (ks : List (List Int)) : SrtO.Srtd HT.lexLt (sortW ks) := by
  have h := List.pairwise_mergeSort (le := fun x y => !HT.lexLt y x) (fun a b c h1 h2 => by
    rw [Bool.not_eq_true'] at h1 h2 ⊢
    exact lex_tr a b c h1 h2) (fun a b => by
    cases q : HT.lexLt b a with
    | false => rfl
    | true =>
      rw [lex_asym b a q]
      rfl) ks
  exact h.imp fun h => by rwa [Bool.not_eq_true'] at h
theorem srtd_one : ∀ {l m : List (List Int)}, SrtO.Srtd HT.lexLt l → SrtO.Srtd HT.lexLt m → l.Perm m → l = m
  | [], m, _, _, h => (List.Perm.eq_nil h.symm).symm
  | x :: l, [], _, _, h => List.Perm.eq_nil h
  | x :: l, y :: m, h1, h2, h => by
    have a1 := List.pairwise_cons.mp h1
    have a2 := List.pairwise_cons.mp h2
    have e : x = y := by
      have hx : x ∈ y :: m := h.mem_iff.mp List.mem_cons_self
      have hy : y ∈ x :: l := h.mem_iff.mpr List.mem_cons_self
      rcases List.mem_cons.mp hx with z | z
      · exact z
      · rcases List.mem_cons.mp hy with z2 | z2
        · exact z2.symm
        · exact lex_tri _ _ (a2.1 x z) (a1.1 y z2)
    subst e
    rw [srtd_one a1.2 a2.2 h.cons_inv]
def numV : V → Int
  | .int i => i
  | _ => 0
theorem nums_ints (ns : List Int) : (ns.map V.int).map numV = ns := by
  rw [List.map_map]
  exact List.map_id _
def wordAt (H : Hp) : V → List Int
  | .ref t => match H t with
    | some (.tup vs) => vs.map numV
    | _ => []
  | _ => []
theorem wordAt_rep {A H : Hp} (s : Ex A H) {v : V} {ns : List Int} (r : Rep A v (w ns)) : wordAt H v = ns ∧ ∃ t, v = .ref t ∧ H t = some (.tup (ns.map V.int)) := by
  cases r with
  | @tup a us _ ha R =>
    have e := R.ints
    subst e
    have hH := s _ _ ha
    exact ⟨by simp only [wordAt, hH]; exact nums_ints ns, a, rfl, hH⟩
theorem words_at {A H : Hp} (s : Ex A H) : ∀ {us : List V} {ks : List (List Int)}, Reps A us (ks.map w) → us.map (wordAt H) = ks ∧ ∀ u ∈ us, Rep A u (w (wordAt H u)) ∧ wordAt H u ∈ ks
  | _, [], .nil => ⟨rfl, fun _ h => nomatch h⟩
  | _, k :: ks, .cons (v := u) (vs := us) r rs => by
    obtain ⟨h1, h2⟩ := words_at s rs
    obtain ⟨h3, _⟩ := wordAt_rep s r
    refine ⟨by rw [List.map_cons, h3, h1], fun u' hu => ?_⟩
    rcases List.mem_cons.mp hu with rfl | hu
    · rw [h3]
      exact ⟨r, List.mem_cons_self⟩
    · exact ⟨(h2 u' hu).1, List.mem_cons_of_mem _ (h2 u' hu).2⟩
theorem reps_words {A H : Hp} : ∀ {us : List V}, (∀ u ∈ us, Rep A u (w (wordAt H u))) → Reps A us ((us.map (wordAt H)).map w)
  | [], _ => .nil
  | u :: us, h => .cons (h u List.mem_cons_self) (reps_words fun v hv => h v (List.mem_cons_of_mem _ hv))
theorem en_sorted {ks : List (List Int)} (h : EvR te γ (ks.map w)) (hk : ∀ k ∈ ks, 0 < k.length) : EvN (tCB (rSortedI K) (tCons te tNil)) γ ((sortW ks).map w) := fun H0 A H σ k Q q =>
  h H0 A H σ k _ fun l vs B H1 g1 h1 r1 => by
    obtain ⟨e1, e2⟩ := words_at g1.sub r1
    refine ⟨l, vs, wordAt H1, rfl, SqL.of h1, fun x hx => ?_, fun ys p hs hp hn => ?_⟩
    · obtain ⟨a1, a2⟩ := e2 x hx
      obtain ⟨_, t, b1, b2⟩ := wordAt_rep g1.sub a1
      exact ⟨t, b1, b2, hk _ a2⟩
    · have g2 := Gr.newU (o := .lst ys) g1.sub hn
      have e3 : ys.map (wordAt H1) = sortW ks := srtd_one (List.pairwise_map.mpr hs) (sortW_srtd ks) (by
        have := hp.map (wordAt H1)
        rw [e1] at this
        exact this.trans (sortW_perm ks).symm)
      refine q p ys B _ (g1.trans g2) (Evl.fresh_back g1.up hn) (Evl.fresh_back g1.sub hn) upd_same ?_
      rw [← e3]
      exact reps_words fun u hu => (e2 u (hp.mem_iff.mp hu)).1
/-! # list(d), d a dict with tuple keys -/
def rListDT : List V → Hp → VK → Prop := fun xs H Q => ∃ d kvs, xs = [V.ref d] ∧ Rd H d (.dT kvs) ∧ ∀ p bs, H p = none → IsKeys H kvs bs → Q (.ref p) (upd H p (.lst (bs.map V.ref)))
theorem call_list_dT' {X : Cx} (hc : X.calm = true) : CallR X (.type "list") rListDT := call_list_dT hc
theorem keys_show {H : Hp} : ∀ {kvs : List (List L2.Key × V)} {bs : List Addr}, IsKeys H kvs bs → ∀ {A : Hp} {es : List (List L2.Key × Dat)} {ks : List (List Int)}, Ex A H → RepsK A kvs es → es.map (·.1) = ks.map kw → ∃ B, Gr A H B H ∧ Reps B (bs.map V.ref) (ks.map w)
  | _, _, .nil, A, _, ks, s, .nil, hk => by
    cases ks with
    | nil => exact ⟨A, Gr.refl s, .nil⟩
    | cons k ks => cases hk
  | _, _, .cons h t, A, _, ks, s, .cons r rs, hk => by
    cases ks with
    | nil => cases hk
    | cons k ks =>
      obtain ⟨e1, e2⟩ := List.cons.inj hk
      have g1 := Gr.tup s h
      obtain ⟨B, g2, r2⟩ := keys_show t g1.sub (rs.mono g1.view) e2
      have ek : (kw k).map kV = k.map V.int := by
        unfold kw
        rw [List.map_map]
        rfl
      refine ⟨B, g1.trans g2, .cons (.tup (g2.view _ _ upd_same) ?_) r2⟩
      have e3 : _ = kw k := e1
      simp only at e3
      rw [e3, ek]
      exact Reps.ofInts k
theorem en_listD {ks : List (List Int)} (h : EvK te γ es) (hk : es.map (·.1) = ks.map kw) : EvN (tCB rListDT (tCons te tNil)) γ (ks.map w) := fun H0 A H σ k Q q =>
  h H0 A H σ k _ fun l kvs B H1 g1 h1 r1 => by
    refine ⟨l, kvs, rfl, .inl h1, fun p bs hp hb => ?_⟩
    obtain ⟨C, g2, r2⟩ := keys_show hb g1.sub r1 hk
    have g3 := Gr.newU (o := .lst (bs.map V.ref)) g2.sub hp
    exact q p _ C _ ((g1.trans g2).trans g3) (Evl.fresh_back g1.up hp) (Evl.fresh_back g2.sub hp) upd_same r2
/-! # {} and d[k] = v -/
theorem em_new : EvM tDNewT γ [] := fun H0 A H σ k Q q p hp => q p [] A _ (Gr.newU k.sub hp) hp (Evl.fresh_back k.sub hp) upd_same .nil
/-- a, b = e, {..} -/
theorem runx_parM {i j : Nat} (h : EvX ta γ (fun x δ => ∃ es, EvM td δ es ∧ N ((δ.set i (.d x)).set j (.od es)))) : Run (tPar i j (tCons ta (tCons td tNil))) γ N R := fun A0 H0 A H σ g0 k D dn dr =>
  h A0 H0 A H σ g0 k _ fun v B H1 x δ hs g1 v1 k1 r1 => by
    obtain ⟨es, hm, hn⟩ := hs
    refine hm H0 B H1 σ k1 _ fun l kvs C H2 g2 hl hC h2 r2 => ⟨_, _, rfl, ?_⟩
    have k2 := (k1.mono g2).setD (r1.mono g2.view) i
    refine dn _ C H2 _ hn (g1.trans g2) (v1.trans g2.view) (k2.setM j (fun b t hj mt e => ?_) (fun _ z => nomatch z) (fun _ _ z => nomatch z) (fun _ _ z => nomatch z) (fun _ z => nomatch z) fun _ z => by cases z; exact ⟨kvs, Evl.fresh_back g1.up hl, hC, h2, r2⟩)
    have k0 := k1.setD r1 i
    obtain ⟨a, o, e2, _, _, e3⟩ := k0.addr hj mt
    rw [e2] at e
    cases e
    rw [hl] at e3
    cases e3
/-- a, b = e, {..}, a or b a cell: by a tuple that is thrown away -/
theorem runx_tupM {i j : Nat} (h : EvX ta γ (fun x δ => ∃ es, EvM td δ es ∧ N ((δ.set i (.d x)).set j (.od es)))) : Run (tAsg (tTup (tCons ta (tCons td tNil))) (gTup K 2 (gCons (gName i) (gCons (gName j) gNil)))) γ N R := fun A0 H0 A H σ g0 k D dn dr =>
  h A0 H0 A H σ g0 k _ fun v B H1 x δ hs g1 v1 k1 r1 => by
    obtain ⟨es, hm, hn⟩ := hs
    refine hm H0 B H1 σ k1 _ fun l kvs C H2 g2 hl hC h2 r2 => ⟨by show 2 ≤ sizeLine; decide, fun p hp => ?_⟩
    have g3 := Gr.newU (o := .tup [v, .ref l]) g2.sub hp
    have gg := g2.trans g3
    have nl : l ≠ p := ne_of_none h2 hp
    refine ⟨p, [v, .ref l], rfl, SqT.of upd_same, rfl, v, [.ref l], rfl, .ref l, [], rfl, rfl, ?_⟩
    have k2 := (k1.mono gg).setD (r1.mono gg.view) i
    refine dn _ C _ _ hn (g1.trans gg) (v1.trans gg.view) (k2.setM j (fun b t hj mt e => ?_) (fun _ z => nomatch z) (fun _ _ z => nomatch z) (fun _ _ z => nomatch z) (fun _ z => nomatch z) fun _ z => by cases z; exact ⟨kvs, Evl.fresh_back g1.up hl, hC, by rw [upd_ne nl]; exact h2, r2⟩)
    have k0 := k1.setD r1 i
    obtain ⟨a, o, e2, _, _, e3⟩ := k0.addr hj mt
    rw [e2] at e
    cases e
    rw [hl] at e3
    cases e3
/-- d[k] = e, d an own dict in slot i, e a thing that changes what is lent -/
theorem runx_dput {i : Nat} {ns : List Int} (h : EvX tv γ (fun x δ => ∃ es, δ[i]? = some (Slot.od es) ∧ EvD tk δ (w ns) ∧ es.length < sizeLine ∧ N (δ.set i (.od (putE es (kw ns) x))))) : Run (sDPut (tVar i) tk tv) γ N R := fun A0 H0 A H σ g0 k D dn dr =>
  h A0 H0 A H σ g0 k _ fun v B H1 x δ hs g1 v1 k1 r1 => by
    obtain ⟨es, hi, hk, hz, hn⟩ := hs
    obtain ⟨l, kvs, e, h0, hB, hH, rk⟩ := k1.ownD i es hi
    refine ⟨.ref l, e, hk H0 B H1 σ k1 _ fun y C H2 g2 r2 => ?_⟩
    have k2 := k1.mono g2
    cases r2 with
    | @tup b us _ hb R =>
      have eu := R.ints
      subst eu
      have ek : (kw ns).map kV = ns.map V.int := by
        unfold kw
        rw [List.map_map]
        rfl
      have hl2 : H2 l = some (.dT kvs) := g2.up _ _ hH
      have hC : C l = none := g2.hid l _ hH True.intro hB
      refine ⟨l, _, rfl, DPut.t hl2 (by rw [ek]; exact g2.sub _ _ hb) (by rw [rk.len]; exact hz), ?_⟩
      exact dn _ C _ σ hn ((g1.trans g2).mut h0 hC) (v1.trans g2.view) (k2.turn hi rfl e (fun _ z => nomatch z) (fun _ z => nomatch z) (fun es' z => by cases z; exact ⟨_, rfl, (rk.mono g2.view).put (r1.mono g2.view)⟩) (fun _ _ z => nomatch z) fun _ _ z => nomatch z)
end
end Fr

set_option Elab.async false
set_option linter.all false
set_option maxRecDepth 100000
set_option maxHeartbeats 4000000
namespace Fr
open PySem PySem.Spec PyProof.Rows L2
open Evl (Ex)
section
variable {K : PySem.W.Frag} {γ δ : Gam} {ta tb tc te : TE} {x y z : Dat} {xs ys : List Dat} {N M : Gam → Prop} {R : Dat → Gam → Prop}
/-- a, b, c = e1, e2, e3 -/
theorem run_par3 {i j l : Nat} {tr : TA} (h : EvA tr γ [x, y, z]) (hn : N (((γ.set i (.d x)).set j (.d y)).set l (.d z))) : Run (tPar3 i j l tr) γ N R := fun A0 H0 A H σ g0 k D dn dr =>
  h H0 A H σ k _ fun vs B H1 g1 r1 => by
    cases r1 with
    | cons r1 r2 =>
      cases r2 with
      | cons r2 r3 =>
        cases r3 with
        | cons r3 r4 =>
          cases r4
          exact ⟨_, _, _, rfl, dn _ B H1 _ hn (g0.trans g1) g1.view ((((k.mono g1).setD r1 i).setD r2 j).setD r3 l)⟩
/-- a, b, c = e1, e2, [..] -/
theorem run_par3N {i j l : Nat} (h1 : EvD ta γ x) (h2 : EvD tb γ y) (h3 : EvN tc γ xs) (hn : N (((γ.set i (.d x)).set j (.d y)).set l (.o xs))) : Run (tPar3 i j l (tCons ta (tCons tb (tCons tc tNil)))) γ N R := fun A0 H0 A H σ g0 k D dn dr =>
  h1 H0 A H σ k _ fun u B H1 g1 r1 => h2 H0 B H1 σ (k.mono g1) _ fun v C H2 g2 r2 => h3 H0 C H2 σ (k.mono (g1.trans g2)) _ fun p us E H3 g3 hp hE h4 r3 => by
    refine ⟨u, v, .ref p, rfl, ?_⟩
    have gg := (g1.trans g2).trans g3
    have k0 := ((k.mono (g1.trans g2)).setD (r1.mono g2.view) i).setD r2 j
    have k3 := ((k.mono gg).setD ((r1.mono g2.view).mono g3.view) i).setD (r2.mono g3.view) j
    refine dn _ E H3 _ hn (g0.trans gg) gg.view (k3.setM l (fun b t hj mt e => ?_) (fun _ z => nomatch z) (fun _ _ z => nomatch z) (fun _ _ z => nomatch z) (fun _ z => by cases z; exact ⟨us, Evl.fresh_back (g0.trans (g1.trans g2)).up hp, hE, h4, r3⟩) fun _ z => nomatch z)
    obtain ⟨a, o, e2, _, _, e3⟩ := k0.addr hj mt
    rw [e2] at e
    cases e
    rw [hp] at e3
    cases e3
theorem run_forR2 {tr : TA} {lo hi : Int} {j : Nat} {tu : TS} (h : EvA tr γ [.int lo, .int hi]) (hb : -(2 ^ 62) ≤ lo ∧ lo < 2 ^ 62 ∧ -(2 ^ 62) ≤ hi ∧ hi < 2 ^ 62) (I : Nat → Gam → Prop) (h0 : I 0 γ)
    (hs : ∀ (i : Nat) δ, i < (hi - lo).toNat → I i δ → Run tu (δ.set j (.d (.int (lo + (i : Int))))) (I (i + 1)) R) (hd : ∀ δ, I (hi - lo).toNat δ → N δ) : Run (tFor (iRng2 tr) (gName j) tu) γ N R := fun A0 H0 A H σ g0 k D dn dr =>
  h H0 A H σ k _ fun vs B H1 g1 r1 => by
    cases r1 with
    | cons r1 r2 =>
      cases r1
      cases r2 with
      | cons r2 r3 =>
        cases r2
        cases r3
        refine ⟨lo, hi, rfl, hb, for_range (lo := lo) (n := (hi - lo).toNat) (fun i σ' H' => ∃ δ C, I i δ ∧ Gr A0 H0 C H' ∧ Ex B C ∧ Ok H0 C H' σ' δ) ⟨γ, B, h0, g0.trans g1, Ex.refl B, k.mono g1⟩ ?_ ?_⟩
        · rintro i σ' H' hi' ⟨δ, C, hI, g2, v2, k2⟩
          have k3 := k2.setD (v := .int (lo + (i : Int))) (.int _) j
          exact hs i δ hi' hI A0 H0 C H' _ g2 k3 { D with nx := _, ct := _, bk := D.nx } (fun δ' C' H3 σ4 hN g4 v4 k4 => ⟨δ', C', hN, g4, v2.trans v4, k4⟩) dr
        · rintro σ' H' ⟨δ, C, hI, g2, v2, k2⟩
          exact dn δ C H' σ' (hd δ hI) g2 (g1.view.trans v2) k2
end
end Fr

set_option Elab.async false
set_option linter.all false
set_option maxRecDepth 100000
set_option maxHeartbeats 4000000
namespace Fr
open PySem PySem.Spec PyProof.Rows L2
open Evl (Ex)
section
variable {K : PySem.W.Frag} {γ : Gam} {ta tb te : TE} {x y z : Dat} {xs ys : List Dat}
/-- isinstance(x, (list, tuple)) -/
theorem ev_isLT (h : EvD te γ x) (hf : Fine K x := by first | exact True.intro | assumption) : EvD (tCB (rIsiT K) (tCons te (tCons (tTup (tCons (tC (.ty "list")) (tCons (tC (.ty "tuple")) tNil))) tNil))) γ (.bl (isaLst x || isaTup x)) := fun H0 A H σ k Q q =>
  h H0 A H σ k _ fun v B H1 g1 r1 => ⟨by show 2 ≤ sizeLine; decide, fun p hp => by
    have g2 := Gr.newU (o := .tup [V.ty "list", V.ty "tuple"]) g1.sub hp
    refine ⟨v, p, [V.ty "list", V.ty "tuple"], tyV x, [.type "list", .type "tuple"], isaLst x || isaTup x, rfl, upd_same, .cons (.ty "list") (.cons (.ty "tuple") .nil), r1.ty g2.sub hf, ?_, q _ B _ (g1.trans g2) (.bl _)⟩
    refine kitAny_cons (kit_lst x hf) (fun e => ?_) (fun e => by rw [e]; rfl)
    refine kitAny_cons (kit_tup x hf) (fun e2 => ?_) (fun e2 => by rw [e, e2]; rfl)
    rw [e, e2]
    rfl⟩
theorem r2_eqB' {a b : Bool} : R2D rEq (.bl a) (.bl b) (.bl (decide (a = b))) := fun A H vx vy s r1 r2 Q q => by
  cases r1
  cases r2
  refine ⟨rfl, q _ A H (Gr.refl s) ?_⟩
  have e : decide (V.bl a = V.bl b) = decide (a = b) := decide_eq_decide.mpr ⟨fun h => V.bl.inj h, fun h => h ▸ rfl⟩
  rw [e]
  exact .bl _
theorem r2_neB {a b : Bool} : R2D rNe (.bl a) (.bl b) (.bl (!decide (a = b))) := fun A H vx vy s r1 r2 Q q => by
  cases r1
  cases r2
  refine ⟨rfl, q _ A H (Gr.refl s) ?_⟩
  have e : decide (V.bl a = V.bl b) = decide (a = b) := decide_eq_decide.mpr ⟨fun h => V.bl.inj h, fun h => h ▸ rfl⟩
  rw [e]
  exact .bl _
theorem r2_ixSL {i : Int} (h : atI xs i = some z) : R2D (rIx K) (.lst xs) (.int i) z := fun A H vx vy s r1 r2 Q q => .inl (r2_ixL (K := K) h A H vx vy s r1 r2 Q q)
theorem r2_ixST {i : Int} (h : atI xs i = some z) : R2D (rIx K) (.tup xs) (.int i) z := fun A H vx vy s r1 r2 Q q => .inr (.inl (r2_ixT (K := K) h A H vx vy s r1 r2 Q q))
theorem r2_eqNil : R2D (rEqD K) (.lst []) (.lst []) (.bl true) := by
  have q := r2_eqD (K := K) (x := .lst []) (y := .lst []) rfl rfl (by decide +kernel) (by decide +kernel)
  have e : PyData.eqv (py (.lst [])) (py (.lst [])) = true := by
    show PyData.eqv (.list []) (.list []) = true
    simp only [PyData.eqv, PyData.eqvAll]
  rw [e] at q
  exact q
/-- what has no parts -/
def Scal (d : Dat) : Prop := d = .non ∨ (∃ b, d = .bl b) ∨ (∃ i, d = .int i) ∨ ∃ s, d = .str s ∧ PyData.strOk s = true
theorem r2_eqScal {d : Dat} (h : Scal d) : R2D (rEqD K) d d (.bl true) := by
  have main : noDic d = true ∧ SeqAt.shaped (py d) = true ∧ PyData.eqv (py d) (py d) = true := by
    rcases h with rfl | ⟨b, rfl⟩ | ⟨i, rfl⟩ | ⟨s, rfl, hs⟩
    · exact ⟨rfl, by decide +kernel, by simp [py, PyData.eqv]⟩
    · exact ⟨rfl, by cases b <;> decide +kernel, by simp [py, PyData.eqv]⟩
    · exact ⟨rfl, by simp [py, SeqAt.shaped, PyData.canLay0, PyData.depth], by simp [py, PyData.eqv]⟩
    · exact ⟨rfl, by simp [py, SeqAt.shaped, PyData.canLay0, PyData.depth, hs], by simp [py, PyData.eqv]⟩
  have q := r2_eqD (K := K) main.1 main.1 main.2.1 main.2.1
  rw [main.2.2] at q
  exact q
end
end Fr

set_option Elab.async false
set_option linter.all false
set_option maxRecDepth 100000
set_option maxHeartbeats 4000000
namespace Fr
open PySem PySem.Spec PyProof.Rows L2
open Evl (Ex)
/-! # defs that hand back a new list of their own -/
def RunN (ts : TS) (γ : Gam) (ys : List Dat) : Prop := ∀ A0 H0 A H σ, Gr A0 H0 A H → Ok H0 A H σ γ → ∀ D : Ends, (∀ l us B H', Gr A0 H0 B H' → H0 l = none → B l = none → H' l = some (.lst us) → Reps B us ys → D.rt (.ref l) H') → ts D σ H
section
variable {γ δ : Gam} {te : TE} {ys : List Dat} {M : Gam → Prop} {tu tw : TS}
theorem runN_seq (h : Run tu γ M (fun _ _ => False)) (hk : ∀ δ, M δ → RunN tw δ ys) : RunN (tSeq tu tw) γ ys := fun A0 H0 A H σ g k D dr =>
  h A0 H0 A H σ g k { D with nx := tw D } (fun δ B H' σ' m g' v k' => hk δ m A0 H0 B H' σ' g' k' D dr) fun _ _ _ _ _ _ z => z.elim
theorem runN_seq1 (h : Run tu γ (fun ε => ε = δ) (fun _ _ => False)) (hk : RunN tw δ ys) : RunN (tSeq tu tw) γ ys := runN_seq h fun _ e => e ▸ hk
theorem runN_ret (h : EvN te γ ys) : RunN (tRet te) γ ys := fun A0 H0 A H σ g k D dr =>
  h H0 A H σ k _ fun l us B H1 g1 hl hB h1 r => dr l us B H1 (g.trans g1) (Evl.fresh_back g.up hl) hB h1 r
end
section
variable {P : Program} {w0 : World} {K : PySem.W.Frag} {mg : Str → Option Value} {base : Heap}
theorem fn_prN {x qual : Str} {st : Stmt} {f : Addr} {fd : FuncData} {N ps : List Str} {k : Nat} {Rf : List Dat → List Dat → Prop} (F : Fun K x qual st f fd) (S : FnScope N ps (defScope st)) (hlen : ∀ xs ys, Rf xs ys → xs.length = ps.length)
    (hbody : ∀ (cdv : Value) (A : Around) (outer : List PySem.Env) (s : Shared) (H : Hp) (E : XK), Room k (A.deeper (envOfC qual (defScope st) s.heap.objs.size f cdv)) →
      ∃ t, PSs (cxOf CX0 P w0 K mg base N qual (defScope st) f cdv A outer s H E).nox (defBody st) t ∧ ∀ xs ys, Rf xs ys → RunN t (entry N xs) ys) : FnOk P w0 K mg base CX0 (k + 1) f fd ps (PrN Rf) := by
  refine F.ok S (fun vs H Q E h => ?_) fun cdv A outer s H vs Q E hr h => ?_
  · obtain ⟨A, xs, ys, s, r, hR, _⟩ := h
    rw [r.len]
    exact hlen xs ys hR
  · obtain ⟨B, xs, ys, sub, r, hR, q⟩ := h
    obtain ⟨t, h1, h2⟩ := hbody cdv A outer s H E hr
    exact ⟨t, h1, h2 xs ys hR B H B H _ (Gr.refl sub) (ok_entry sub N r) _ fun l us C H' g hl hC h4 ru => q l us C H' g hl hC h4 ru⟩
/-- told as data -/
theorem prN_data {k : Nat} {f : Addr} {fd : FuncData} {ps : List Str} {Rf : List Dat → List Dat → Prop} {R : List Dat → Dat → Prop} (F : FnOk P w0 K mg base CX0 k f fd ps (PrN Rf)) (h : ∀ xs y, R xs y → ∃ ys, y = .lst ys ∧ Rf xs ys) : FnOk P w0 K mg base CX0 k f fd ps (Pr R) :=
  F.imp fun vs H Q E hp => by
    obtain ⟨A, xs, y, s, r, hR, q⟩ := hp
    obtain ⟨ys, rfl, hf⟩ := h xs y hR
    exact ⟨A, xs, ys, s, r, hf, fun l us B H' g hl hB h1 ru => q _ _ H' (g.show h1 hl hB) (.lst upd_same (ru.mono (Ex.new hB)))⟩
end
end Fr

set_option Elab.async false
set_option linter.all false
set_option maxRecDepth 100000
set_option maxHeartbeats 4000000
namespace Fr
open PySem PySem.Spec PyProof.Rows L2
open Evl (Ex)
/-! # calls by name alone -/
def pick {α : Type} (js : List Nat) (l : List α) : List α := js.filterMap (l[·]?)
theorem vals_pick {vs : List V} {us : List Value} (r : Vals vs us) : ∀ js, Vals (pick js vs) (pick js us)
  | [] => .nil
  | j :: js => by
    have ih := vals_pick r js
    unfold pick at ih ⊢
    rw [List.filterMap_cons, List.filterMap_cons]
    cases e : vs[j]? with
    | none => rw [r.none_of e]; exact ih
    | some x =>
      obtain ⟨u, e2, rx⟩ := r.get e
      rw [e2]
      exact .cons rx ih
theorem reps_pick {A : Hp} {vs : List V} {xs : List Dat} (r : Reps A vs xs) : ∀ js, Reps A (pick js vs) (pick js xs)
  | [] => .nil
  | j :: js => by
    have ih := reps_pick r js
    unfold pick at ih ⊢
    rw [List.filterMap_cons, List.filterMap_cons]
    cases e : vs[j]? with
    | none =>
      have e2 : xs[j]? = none := by
        rw [List.getElem?_eq_none_iff] at e ⊢
        rw [← r.len]
        exact e
      rw [e2]
      exact ih
    | some x =>
      obtain ⟨u, e2, rx⟩ := r.getV e
      rw [e2]
      exact .cons rx ih
/-- a def is called by the names ks -/
def KwOk (K : PySem.W.Frag) (fd : FuncData) (ps ks : List Str) (js : List Nat) : Prop := KBn K fd ps 0 ks (fun _ ws => pick js ws) (fun _ zs => pick js zs)
theorem kw_ok {K : PySem.W.Frag} {x qual : Str} {st : Stmt} {f : Addr} {fd : FuncData} {ps ks : List Str} {js : List Nat} (F : Fun K x qual st f fd)
    (h : ∀ (kV doc pm : Value) (an : Option Addr) (cdv ct : Value) (ws : List Value), ws.length = ks.length → bindArgs (PySem.W.fnOf x qual (defArgs st) (defBody st) (defScope st) .none kV doc pm an cdv ct) ⟨[], ks.zip ws⟩ = pure (ps.zip (pick js ws))) : KwOk K fd ps ks js := by
  obtain ⟨oc, od, kV, doc, pm, an, cdv, ct, osl, rfl, lk, hcd⟩ := F.ex
  refine ⟨fun s us ws X l1 l2 => ?_, fun _ r2 => vals_pick r2 js⟩
  rw [List.length_eq_zero_iff.mp l1]
  exact .of_eq (h kV doc pm an cdv ct ws l2)
section
variable {X : Cx} {CX : CXT} {k : Nat} {f : Addr} {fd : FuncData} {ps ks : List Str} {js : List Nat} {sp : Sp} {E : XK} {x : Str} {p pos : Pos} {kws : List Keyword} {tk : TA}
def tCallW (js : List Nat) (m : Nat) (sp : Sp) (E : XK) (tk : TA) : TE := fun σ H Q => tk σ H fun zs H2 => zs.length = m ∧ sp (pick js zs) H2 Q E
theorem pe_callK (F : FnOk X.prog X.w X.K X.mg X.base CX k f fd ps sp) (hr : Room k X.A) (hg : Gl X x) (hm : X.mg x = some (.ref f)) (hk : PySem.W.keepIn X.K (.ref f) = true) (hb : KwOk X.K fd ps ks js) (hx : Passes CX X E) (hkw : PK X kws tk)
    (hall : (backToKw pos (keywordEach kws X.env)).all (·.1.isSome) = true := by rfl) (hks : (backToKw pos (keywordEach kws X.env)).filterMap (·.1) = ks := by rfl) (hdb : (x == ("__debug__" : Str)) = false := by decide)
    (hpl : ((backTo pos (starEach [] X.env)).any (·.1) || (backToKw pos (keywordEach kws X.env)).any (·.1.isNone)) = false := by rfl) :
    PE X (.Call (.Name x p) [] kws pos) (tCallW js ks.length sp E tk) := by
  refine ⟨fun pins s σ H Q I h => ?_⟩
  refine wpAny_Call_Name_kw (ld_glob I hg hm ?_ hdb)
  refine PySem.W.callWith_KW0 (h₀ := X.base) I.ok.mod.kin hk hall ?_ hpl
  refine thn (hkw.run pos pins s σ H _ I h) fun ws s2 ⟨zs, H2, I2, rz, l2, q2⟩ => ⟨I2.kIn, ?_⟩
  rw [hks]
  exact run_fnN (us := []) (vs := []) F hr hb hx I2 .nil rz rfl l2 q2
end
section
variable {K : PySem.W.Frag} {γ : Gam} {ta tb te : TE} {x y z : Dat} {xs ys : List Dat}
theorem ev_callW {R : List Dat → Dat → Prop} {E : XK} {tk : TA} {js : List Nat} (h : EvA tk γ xs) (hR : R (pick js xs) z) {m : Nat} (hm : xs.length = m) : EvD (tCallW js m (Pr R) E tk) γ z := fun H0 A H σ k Q q =>
  h H0 A H σ k _ fun vs B H1 g1 r1 => ⟨by rw [r1.len]; exact hm, B, pick js xs, z, g1.sub, reps_pick r1 js, hR, fun v C H2 g2 r2 => q v C H2 (g1.trans g2) r2⟩
/-- list + list -/
theorem en_cat (ha : EvR ta γ xs) (hb : EvR tb γ ys) (hl : xs.length + ys.length ≤ sizeLine) : EvN (tOp rCat ta tb) γ (xs ++ ys) := fun H0 A H σ k Q q =>
  ha H0 A H σ k _ fun l vs B H1 g1 h1 r1 => hb H0 B H1 σ (k.mono g1) _ fun l2 us C H2 g2 h2 r2 => ⟨l, l2, vs, us, rfl, rfl, g2.up _ _ h1, h2, by rw [r1.len, r2.len]; exact hl, fun p hp =>
    q p _ C _ ((g1.trans g2).trans (Gr.newU g2.sub hp)) (Evl.fresh_back (g1.trans g2).up hp) (Evl.fresh_back g2.sub hp) upd_same ((r1.mono g2.view).app r2)⟩
theorem Reps.strs : ∀ {A : Hp} {vs : List V} {ns : List Str}, Reps A vs (ns.map Dat.str) → vs = ns.map V.str
  | _, _, [], h => by cases h; rfl
  | _, _, n :: ns, h => by
    cases h with
    | cons h r =>
      cases h
      rw [Reps.strs r]
      rfl
/-- x in (texts) -/
theorem r2_inS {i : Str} {ns : List Str} : R2D (rIn K false) (.str i) (.tup (ns.map .str)) (.bl (ns.any fun n => n == i)) := fun A H vx vy s r1 r2 Q q => by
  cases r1
  cases r2 with
  | @tup a us _ h1 R1 =>
    have e := R1.strs
    subst e
    refine ⟨a, ns.map V.str, rfl, .inr (SqT.of (s _ _ h1)), rfl, ?_, ?_⟩
    · rw [List.all_map]
      exact List.all_eq_true.mpr fun _ _ => rfl
    · have e : inV (.str i) (ns.map V.str) = ns.any fun n => n == i := by
        unfold inV
        rw [List.any_map]
        rfl
      show Q (.bl (if false = true then _ else inV (.str i) (ns.map V.str))) H
      rw [if_neg Bool.false_ne_true, e]
      exact q _ A H (Gr.refl s) (.bl _)
end
end Fr

set_option Elab.async false
set_option linter.all false
set_option maxRecDepth 100000
set_option maxHeartbeats 4000000
namespace Fr
open PySem PySem.Spec PyProof.Rows L2
open Evl (Ex)
section
variable {K : PySem.W.Frag} {γ : Gam} {ta tb te : TE} {x y z : Dat} {xs ys : List Dat} {N : Gam → Prop} {R : Dat → Gam → Prop}
theorem en_callW {Rf : List Dat → List Dat → Prop} {E : XK} {tk : TA} {js : List Nat} (h : EvA tk γ xs) (hR : Rf (pick js xs) ys) {m : Nat} (hm : xs.length = m) : EvN (tCallW js m (PrN Rf) E tk) γ ys := fun H0 A H σ k Q q =>
  h H0 A H σ k _ fun vs B H1 g1 r1 => ⟨by rw [r1.len]; exact hm, B, pick js xs, ys, g1.sub, reps_pick r1 js, hR, fun l us C H2 g2 hl hC h2 r2 => q l us C H2 (g1.trans g2) (Evl.fresh_back g1.up hl) hC h2 r2⟩
/-- found = [e1, e2] of new lists; again = e; if test: return; found[0].append(None); found[1].append(None): behind it the lists are forgotten, and all else is as before -/
theorem run_dirty {i j : Nat} {c1 c2 te2 : TE} {t3 : TT} {tu3 tw : TS} {us1 us2 : List Dat} {x2 : Dat} (hij : i ≠ j) (hi : i < γ.length) (h1 : EvN c1 γ us1) (h2 : EvN c2 γ us2) (z1 : us1.length < sizeLine) (z2 : us2.length < sizeLine)
    (h3 : EvD te2 (γ.set i (.d (.lst [.lst us1, .lst us2]))) x2) (h4 : EvT t3 ((γ.set i (.d (.lst [.lst us1, .lst us2]))).set j (.d x2)) false) (hr : Run tw ((γ.set i .no).set j .no) N R) :
    Run (tSeq (tAsg (tLst (tCons c1 (tCons c2 tNil))) (gName i)) (tSeq (tAsg te2 (gName j)) (tSeq (tIfS t3 tu3 tNext) (tSeq (tDrop (tBM K "list" rAppend (tOp (rIxL K) (tVar i) (tC (.int 0))) (tCons (tC .non) tNil))) (tSeq (tDrop (tBM K "list" rAppend (tOp (rIxL K) (tVar i) (tC (.int 1))) (tCons (tC .non) tNil))) tw))))) γ N R := fun A0 H0 A H σ g0 k D dn dr => by
  refine h1 H0 A H σ k _ fun l1 vs1 B1 H1 g1 f1 b1 e1 r1 => ?_
  refine h2 H0 B1 H1 σ (k.mono g1) _ fun l2 vs2 B2 H2 g2 f2 b2 e2 r2 => ?_
  refine ⟨by show 2 ≤ sizeLine; decide, fun p hp => ?_⟩
  have l12 : l1 ≠ l2 := ne_of_none e1 f2
  have f2' : H l2 = none := Evl.fresh_back g1.up f2
  have e1' : H2 l1 = some (.lst vs1) := g2.up _ _ e1
  have p1 : l1 ≠ p := ne_of_none e1' hp
  have p2 : l2 ≠ p := ne_of_none e2 hp
  have g12 : Gr A H B2 H2 := g1.trans g2
  have hp0 : H p = none := Evl.fresh_back g12.up hp
  have g3 : Gr A H B2 (upd H2 p (.lst [.ref l1, .ref l2])) := g12.trans (Gr.newU g12.sub hp)
  have n1 : B2 l1 = none := g2.hid l1 _ e1 True.intro b1
  have np : B2 p = none := Evl.fresh_back g12.sub hp
  have q1 : upd H2 p (.lst [.ref l1, .ref l2]) l1 = some (.lst vs1) := by rw [upd_ne p1]; exact e1'
  have q2 : upd H2 p (.lst [.ref l1, .ref l2]) l2 = some (.lst vs2) := by rw [upd_ne p2]; exact e2
  have qp : upd H2 p (.lst [.ref l1, .ref l2]) p = some (.lst [.ref l1, .ref l2]) := upd_same
  generalize upd H2 p (.lst [.ref l1, .ref l2]) = H3 at g3 q1 q2 qp
  have gA := g3.show q1 f1 n1
  have n2 : upd B2 l1 (.lst vs1) l2 = none := by rw [upd_ne (Ne.symm l12)]; exact b2
  have gB := gA.show q2 f2' n2
  have n3 : upd (upd B2 l1 (.lst vs1)) l2 (.lst vs2) p = none := by rw [upd_ne (Ne.symm p2), upd_ne (Ne.symm p1)]; exact np
  have gV := gB.show qp hp0 n3
  have x1 : Ex B2 (upd (upd (upd B2 l1 (.lst vs1)) l2 (.lst vs2)) p (.lst [.ref l1, .ref l2])) := (Ex.new n1).trans ((Ex.new n2).trans (Ex.new n3))
  have w1 : upd (upd (upd B2 l1 (.lst vs1)) l2 (.lst vs2)) p (.lst [.ref l1, .ref l2]) l1 = some (.lst vs1) := by rw [upd_ne p1, upd_ne l12]; exact upd_same
  have w2 : upd (upd (upd B2 l1 (.lst vs1)) l2 (.lst vs2)) p (.lst [.ref l1, .ref l2]) l2 = some (.lst vs2) := by rw [upd_ne p2]; exact upd_same
  have wp : upd (upd (upd B2 l1 (.lst vs1)) l2 (.lst vs2)) p (.lst [.ref l1, .ref l2]) p = some (.lst [.ref l1, .ref l2]) := upd_same
  generalize upd (upd (upd B2 l1 (.lst vs1)) l2 (.lst vs2)) p (.lst [.ref l1, .ref l2]) = VV at gV x1 w1 w2 wp
  have rp : Rep VV (.ref p) (.lst [.lst us1, .lst us2]) := .lst wp (.cons (.lst w1 (r1.mono (g2.view.trans x1))) (.cons (.lst w2 (r2.mono x1)) .nil))
  have k1 := (k.mono gV).setD rp i
  refine h3 H0 VV H3 _ k1 _ fun v2 V2 H4 g4 r4 => ?_
  have k2 := (k1.mono g4).setD r4 j
  refine h4 H0 V2 H4 _ k2 _ fun V3 H5 g5 => ?_
  have up5 : Ex H3 H5 := g4.up.trans g5.up
  have si : ((σ.set i (some (V.ref p))).set j (some v2))[i]? = some (some (V.ref p)) := by
    rw [List.getElem?_set_ne (Ne.symm hij), List.getElem?_set_self (by rw [k.len]; exact hi)]
  rw [if_neg Bool.false_ne_true]
  refine ⟨.ref p, si, p, [.ref l1, .ref l2], 0, .ref l1, rfl, rfl, SqL.of (up5 _ _ qp), rfl, .inl ⟨rfl, vs1, SqL.of (up5 _ _ q1)⟩, l1, vs1, .non, rfl, rfl, up5 _ _ q1, by rw [r1.len]; exact z1, ?_⟩
  have u2 : upd H5 l1 (.lst (vs1 ++ [.non])) l2 = some (.lst vs2) := by rw [upd_ne (Ne.symm l12)]; exact up5 _ _ q2
  have up : upd H5 l1 (.lst (vs1 ++ [.non])) p = some (.lst [.ref l1, .ref l2]) := by rw [upd_ne (Ne.symm p1)]; exact up5 _ _ qp
  refine ⟨.ref p, si, p, [.ref l1, .ref l2], 1, .ref l2, rfl, rfl, SqL.of up, rfl, .inl ⟨rfl, vs2, SqL.of u2⟩, l2, vs2, .non, rfl, rfl, u2, by rw [r2.len]; exact z2, ?_⟩
  have ex : Ex H (upd (upd H5 l1 (.lst (vs1 ++ [.non]))) l2 (.lst (vs2 ++ [.non]))) := fun a o e => by
    rw [upd_ne (ne_of_none e f2'), upd_ne (ne_of_none e f1)]
    exact up5 _ _ (gV.up _ _ e)
  refine hr A0 H0 A _ _ ⟨g0.up.trans ex, g0.view, k.sub.trans ex, g0.hid⟩ ?_ D dn dr
  exact ((k.move (k.sub.trans ex) (Ex.refl A) fun c o a b e => ⟨a, b, ex _ _ e⟩).forget i _).forget j _
end
end Fr

set_option Elab.async false
set_option linter.all false
set_option maxRecDepth 100000
set_option maxHeartbeats 4000000
namespace Fr
open PySem PySem.Spec PyProof.Rows L2
open Evl (Ex)
section
variable {K : PySem.W.Frag} {γ : Gam}
/-- [y for x in words for y in x] -/
theorem en_flat {tl : TE} {a0 a1 : Nat} {ls : List (List Int)} (h : EvR tl γ (ls.map w)) (h0 : a0 < γ.length) (h1 : a1 < γ.length) (hz : ls.flatten.length < sizeLine) :
    EvN (tLc2 (iList K tl) (gName a0) tYes (iTup K (tVar a0)) (gName a1) tYes (tVar a1) [a0, a1] [a1]) γ (ls.flatten.map .int) := fun H0 A H σ k Q q =>
  h H0 A H σ k _ fun a us B H1 g1 ha ru => by
    have kLen : us.length = ls.length := by rw [ru.len, List.length_map]
    refine ⟨a, rfl, ⟨us, SqL.of ha⟩, fun DL hDL => ?_⟩
    refine ⟨fun t mm H' => mm + t = ls.length ∧ ∃ C acc, Gr B H1 C H' ∧ C DL = none ∧ H' DL = some (.lst acc) ∧ Reps C acc ((ls.take t).flatten.map .int),
      ⟨ls.length, rfl, B, [], Gr.newU g1.sub hDL, Evl.fresh_back g1.sub hDL, upd_same, .nil⟩, fun t mm H' hW => ?_⟩
    obtain ⟨emm, C, acc, gC, cD, hAcc, rAcc⟩ := hW
    have ha' : H' a = some (.lst us) := gC.up _ _ ha
    cases mm with
    | zero =>
      have et : t = ls.length := by omega
      subst et
      rw [List.take_length] at rAcc
      exact .inl ⟨⟨us, SqL.of ha', by omega⟩, q DL acc C H' (g1.trans gC) (Evl.fresh_back g1.up hDL) cD hAcc rAcc⟩
    | succ mm =>
      obtain ⟨ns, hns⟩ : ∃ ns, ls[t]? = some ns := ⟨ls[t]'(by omega), List.getElem?_eq_getElem (by omega)⟩
      obtain ⟨u, hu⟩ : ∃ u, us[t]? = some u := ⟨us[t]'(by omega), List.getElem?_eq_getElem (by omega)⟩
      refine .inr ⟨⟨us, u, SqL.of ha', hu⟩, fun H2 => ∃ C acc, Gr B H1 C H2 ∧ C DL = none ∧ H2 DL = some (.lst acc) ∧ Reps C acc ((ls.take (t + 1)).flatten.map .int), fun H2 hh => ⟨mm, Nat.lt_succ_self _, by omega, hh⟩, fun x H2 hy => ?_⟩
      obtain ⟨eH, hx⟩ := hy
      subst eH
      have hx := hx us (SqL.of ha')
      have rx : Rep C x (w ns) := by
        obtain ⟨d, hd, rd⟩ := ru.getV hx
        rw [List.getElem?_map, hns] at hd
        cases hd
        exact rd.mono gC.view
      have kW := ((k.mono (g1.trans gC)).wipe [a0, a1]).setD rx a0
      have lenW : ((L2.wipe σ [a0, a1]).set a0 (some x)).length = (L2.wipe σ [a0, a1]).length := List.length_set ..
      have lenS : a0 < (L2.wipe σ [a0, a1]).length := by rw [wipe_length, k.len]; exact h0
      have lenS1 : a1 < ((L2.wipe σ [a0, a1]).set a0 (some x)).length := by rw [List.length_set, wipe_length, k.len]; exact h1
      refine ⟨wipe_back (js := [a0]) lenW (fun b hb => by rw [List.getElem?_set_ne (fun z => hb (by rw [z]; exact List.mem_singleton.mpr rfl))]) (by intro b hb; rw [List.mem_singleton.mp hb]; exact List.mem_cons_self), ?_⟩
      have more : ((ls.take (t + 1)).flatten) = (ls.take t).flatten ++ ns := by
        rw [List.take_add_one, hns]
        simp
      have lim : ((ls.take t).flatten ++ ns).length ≤ ls.flatten.length := by
        rw [← more]
        have e : ls.flatten = (ls.take (t + 1)).flatten ++ (ls.drop (t + 1)).flatten := by rw [← List.flatten_append, List.take_append_drop]
        rw [e, List.length_append (as := (ls.take (t + 1)).flatten)]
        omega
      cases rx with
      | @tup b ws _ hb rw_ =>
        have ew := rw_.ints
        subst ew
        refine ⟨.ref b, by rw [List.getElem?_set_self lenS], b, rfl, ⟨_, SqT.of (gC.sub _ _ hb)⟩, fun c kk H4 => kk + c = ns.length ∧ ∃ C2 acc, Gr B H1 C2 H4 ∧ Ex C C2 ∧ C2 DL = none ∧ H4 DL = some (.lst acc) ∧ Reps C2 acc (((ls.take t).flatten ++ ns.take c).map .int),
          ⟨ns.length, by omega, C, acc, gC, Ex.refl C, cD, hAcc, by rw [List.take_zero, List.append_nil]; exact rAcc⟩, fun c kk H4 hW1 => ?_⟩
        obtain ⟨ekk, C2, acc2, g2, v2, cD2, hA2, rA2⟩ := hW1
        have hb4 : H4 b = some (.tup (ns.map V.int)) := g2.sub _ _ (v2 _ _ hb)
        cases kk with
        | zero =>
          have ec : c = ns.length := by omega
          subst ec
          rw [List.take_length] at rA2
          exact .inl ⟨⟨_, SqT.of hb4, by rw [List.length_map]; exact Nat.le_refl _⟩, C2, acc2, g2, cD2, hA2, by rw [more]; exact rA2⟩
        | succ kk =>
          obtain ⟨n, hn⟩ : ∃ n, ns[c]? = some n := ⟨ns[c]'(by omega), List.getElem?_eq_getElem (by omega)⟩
          have hn' : (ns.map V.int)[c]? = some (V.int n) := by rw [List.getElem?_map, hn]; rfl
          refine .inr ⟨⟨_, _, SqT.of hb4, hn'⟩, fun H5 => ∃ C2 acc, Gr B H1 C2 H5 ∧ Ex C C2 ∧ C2 DL = none ∧ H5 DL = some (.lst acc) ∧ Reps C2 acc (((ls.take t).flatten ++ ns.take (c + 1)).map .int), fun H5 hh => ⟨kk, Nat.lt_succ_self _, by omega, hh⟩, fun y H5 hy => ?_⟩
          obtain ⟨eH, hy⟩ := hy
          subst eH
          have hy := hy _ (SqT.of hb4)
          rw [hn'] at hy
          cases hy
          have lenX : ((L2.wipe ((L2.wipe σ [a0, a1]).set a0 (some (V.ref b))) [a1]).set a1 (some (V.int n))).length = (L2.wipe ((L2.wipe σ [a0, a1]).set a0 (some (V.ref b))) [a1]).length := List.length_set ..
          refine ⟨wipe_back (js := [a1]) lenX (fun d hd => by rw [List.getElem?_set_ne (fun z => hd (by rw [z]; exact List.mem_singleton.mpr rfl))]) (by intro d hd; exact hd), ?_⟩
          have tk : ns.take (c + 1) = ns.take c ++ [n] := by rw [List.take_add_one, hn]; rfl
          have lz : acc2.length < sizeLine := by
            rw [rA2.len, List.length_map, List.length_append, List.length_take]
            rw [List.length_append] at lim
            omega
          refine ⟨V.int n, by rw [List.getElem?_set_self (by rw [wipe_length]; exact lenS1)], acc2, hA2, lz, C2, acc2 ++ [V.int n], g2.mut hDL cD2, v2, cD2, upd_same, ?_⟩
          rw [tk, ← List.append_assoc, List.map_append]
          exact rA2.app (Reps.one (.int n))
end
end Fr

set_option Elab.async false
set_option linter.all false
set_option maxRecDepth 100000
set_option maxHeartbeats 4000000
namespace Fr
open PySem PySem.Spec PyProof.Rows L2
open Evl (Ex)
section
variable {K : PySem.W.Frag} {γ : Gam} {ta tb te : TE} {x y z : Dat} {xs ys : List Dat} {N : Gam → Prop} {R : Dat → Gam → Prop}
/-- x, y = e, [..]: the second is a list of its own -/
theorem run_parN {i j : Nat} (h1 : EvD ta γ x) (h2 : EvN tb γ ys) (hn : N ((γ.set i (.d x)).set j (.o ys))) : Run (tPar i j (tCons ta (tCons tb tNil))) γ N R := fun A0 H0 A H σ g0 k D dn dr =>
  h1 H0 A H σ k _ fun v B H1 g1 r1 => h2 H0 B H1 σ (k.mono g1) _ fun l vs C H2 g2 hl hC e2 r2 => by
    have k2 := (k.mono g1).mono g2
    have k3 := k2.setD (r1.mono g2.view) i
    refine ⟨v, .ref l, rfl, dn _ C H2 _ hn ((g0.trans g1).trans g2) (g1.view.trans g2.view) (k3.setM j (fun b t hj mt e => ?_) (fun _ z => nomatch z) (fun _ _ z => nomatch z) (fun _ _ z => nomatch z) (fun _ z => by cases z; exact ⟨vs, Evl.fresh_back (g0.trans g1).up hl, hC, e2, r2⟩) fun _ z => nomatch z)⟩
    rcases set_get hj with ⟨_, z, _⟩ | ⟨q, hj⟩
    · subst z
      cases mt
    · rw [List.getElem?_set_ne q] at e
      obtain ⟨a, o, e2', _, _, e3⟩ := (k.mono g1).addr hj mt
      rw [e2'] at e
      cases e
      rw [hl] at e3
      cases e3
theorem r2_notB {a b : Bool} : R2D rNotB (.bl a) (.bl b) (.bl (!decide (a = b))) := fun A H vx vy s r1 r2 Q q => by
  cases r1
  cases r2
  exact ⟨a, b, rfl, rfl, q _ A H (Gr.refl s) (.bl _)⟩
theorem eqv_lst (xs ys : List Dat) : PyData.eqv (py (.lst xs)) (py (.lst ys)) = PyData.eqv (py (.tup xs)) (py (.tup ys)) := by
  show PyData.eqv (.list (pys xs)) (.list (pys ys)) = PyData.eqv (.tuple (pys xs)) (.tuple (pys ys))
  simp only [PyData.eqv]
theorem shaped_lst (ns : List Int) : SeqAt.shaped (py (.lst (ns.map .int))) = true := by
  have h := shaped_w ns
  unfold SeqAt.shaped at h ⊢
  have e1 : PyData.depth (py (.lst (ns.map Dat.int))) = PyData.depth (py (w ns)) := by
    show PyData.depth (.list (pys (ns.map Dat.int))) = PyData.depth (.tuple (pys (ns.map Dat.int)))
    simp only [PyData.depth]
  have e2 : PyData.canLay0 (py (.lst (ns.map Dat.int))) = PyData.canLay0 (py (w ns)) := by
    show PyData.canLay0 (.list (pys (ns.map Dat.int))) = PyData.canLay0 (.tuple (pys (ns.map Dat.int)))
    simp only [PyData.canLay0]
  rw [e1, e2]
  exact h
/-- [ints] == [ints] -/
theorem r2_eqLI {ns ms : List Int} : R2D (rEqD K) (.lst (ns.map .int)) (.lst (ms.map .int)) (.bl (decide (ns = ms))) := by
  have q := r2_eqD (K := K) (x := .lst (ns.map .int)) (y := .lst (ms.map .int)) (noDic_w ns) (noDic_w ms) (shaped_lst ns) (shaped_lst ms)
  rw [eqv_lst, show PyData.eqv (py (.tup (ns.map Dat.int))) (py (.tup (ms.map Dat.int))) = decide (ns = ms) from eqv_w ns ms] at q
  exact q
/-- a list of texts == [] -/
theorem r2_eqNilS (h : ∀ d ∈ xs, ∃ s, d = .str s ∧ PyData.strOk s = true) : R2D (rEqD K) (.lst xs) (.lst []) (.bl xs.isEmpty) := by
  cases xs with
  | nil => exact r2_eqNil
  | cons x xs =>
    have all : ∀ l : List Dat, (∀ d ∈ l, ∃ s, d = Dat.str s ∧ PyData.strOk s = true) → noDics l = true ∧ PyData.canLayAll0 (pys l) = true ∧ PyData.depthAll (pys l) ≤ 2 := fun l => by
      induction l with
      | nil => exact fun _ => ⟨rfl, by simp [pys, PyData.canLayAll0], by simp [pys, PyData.depthAll]⟩
      | cons d l ih =>
        intro h
        obtain ⟨a1, a2, a3⟩ := ih fun d hd => h d (List.mem_cons_of_mem _ hd)
        obtain ⟨s, rfl, hs⟩ := h d List.mem_cons_self
        refine ⟨Bool.and_eq_true_iff.mpr ⟨rfl, a1⟩, ?_, ?_⟩
        · simp only [pys, py, PyData.canLayAll0, PyData.canLay0, hs, a2, Bool.and_self]
        · simp only [pys, py, PyData.depthAll, PyData.depth]
          omega
    obtain ⟨a1, a2, a3⟩ := all _ h
    have sh : SeqAt.shaped (py (.lst (x :: xs))) = true := by
      unfold SeqAt.shaped
      have d : PyData.depth (py (.lst (x :: xs))) ≤ 64 := by
        show PyData.depth (.list (pys (x :: xs))) ≤ 64
        simp only [PyData.depth]
        omega
      rw [decide_eq_true d, Bool.and_true]
      show PyData.canLay0 (.list (pys (x :: xs))) = true
      simp only [PyData.canLay0]
      exact a2
    have q := r2_eqD (K := K) (x := .lst (x :: xs)) (y := .lst []) a1 rfl sh (by decide +kernel)
    have e2 : PyData.eqv (py (.lst (x :: xs))) (py (.lst [])) = false := by
      show PyData.eqv (.list (pys (x :: xs))) (.list []) = false
      simp only [pys, PyData.eqv, PyData.eqvAll]
    rw [e2] at q
    exact q
end
end Fr

set_option Elab.async false
set_option linter.all false
set_option maxRecDepth 100000
set_option maxHeartbeats 4000000
namespace Fr
open PySem PySem.Spec PyProof.Rows L2
open Evl (Ex)
/-! # sorted: words, the empty one among them -/
section
variable {prog : Program} {w : World} {A : Around} {E : Value → Shared → Prop} {s : Shared}
/-- each is a tuple of ints -/
def WordsE (h : Heap) (k : Value → List Int) (vs : List Value) : Prop := ∀ v ∈ vs, TS.TupInts h v (k v)
theorem lt_gen {x y : Value} {ns ms : List Int} (hx : TS.TupInts s.heap x ns) (hy : TS.TupInts s.heap y ms) (hu : A.units < cLine) {Q : Bool → Shared → Prop} (h : Q (HT.lexLt ns ms) s) : wpAny (model prog w) A (keyLt' general' x y) Q E s := by
  obtain ⟨a, xs, rfl, h1, i1⟩ := hx
  obtain ⟨b, ys, rfl, h2, i2⟩ := hy
  exact PySem.W.kat_one _ _ (HT.lt_tupInts h1 h2 i1 i2 hu h)
theorem lt_one {x y : Value} {ns ms : List Int} (hx : TS.TupInts s.heap x ns) (hy : TS.TupInts s.heap y ms) (hu : A.units < cLine) {Q : Bool → Shared → Prop} (h : Q (HT.lexLt ns ms) s) : wpAny (model prog w) A (keyLt' oneType' x y) Q E s := by
  obtain ⟨a, xs, rfl, h1, i1⟩ := hx
  obtain ⟨b, ys, rfl, h2, i2⟩ := hy
  obtain ⟨⟨cls, dd, data, sl⟩, ho, hc, n, hd⟩ := id h1
  obtain ⟨⟨cls2, dd2, data2, sl2⟩, ho2, hc2, n2, hd2⟩ := id h2
  simp only at hc hd hc2 hd2
  subst hc hd hc2 hd2
  rw [keyLt'_oneType, oneLt'_eq]
  simp only [if_true]
  refine wpAny_bind (wpAny_cRoomFor hu ?_)
  refine wpAny_bind (wpAny_callSpecialIfBound?_slot (T := "tuple") ⟨_, ho, rfl⟩ PySem.F.slot_tuple_lt (call_meets PySem.F.slot_tuple_lt ⟨_, ho, rfl⟩ PySem.F.entry_tuple_lt (PySem.F.args_tuple_lt_2 _ _) (HT.tuple_lt_ints a b xs ys n n2 dd dd2 sl sl2 ns ms i1 i2) ⟨ho, ho2, ?_⟩))
  exact wpAny_truthy_bool h
/-- the firsts -/
theorem firsts_e {M : Model} {k : Value → List Int} : ∀ (vs : List Value), WordsE s.heap k vs → ∃ fs : List (Option Value), fs.length = vs.length ∧ (∀ (i : Nat) (v : Value), vs[i]? = some v → ∃ f : Option Value, fs[i]? = some f ∧ (f.isSome = decide (0 < (k v).length))) ∧
    ∀ (Q : List (Option Value) → Shared → Prop), Q fs s → wpAny M A (vs.mapM firstOfTuple') Q E s
  | [], _ => ⟨[], rfl, fun i v h => by simp at h, fun Q h => by rw [List.mapM_nil]; exact wpAny_pure h⟩
  | v :: vs, x => by
    obtain ⟨fs, h1, h2, h3⟩ := firsts_e (M := M) vs fun u hu => x u (List.mem_cons_of_mem _ hu)
    obtain ⟨a, xs, rfl, ⟨o, ho, hc, n, hdt⟩, i⟩ := x v List.mem_cons_self
    have sz : xs.size = (k (.ref a)).length := by
      have := i.length
      rw [Array.length_toList] at this
      exact this
    refine ⟨xs[0]? :: fs, by rw [List.length_cons, List.length_cons, h1], fun j u hj => ?_, fun Q h => ?_⟩
    · cases j with
      | zero =>
        simp at hj
        subst hj
        refine ⟨_, rfl, ?_⟩
        by_cases z : 0 < xs.size
        · rw [Array.getElem?_eq_getElem z, decide_eq_true (by omega)]
          rfl
        · rw [Array.getElem?_eq_none (by omega), decide_eq_false (by omega)]
          rfl
      | succ j => exact h2 j u (by simpa using hj)
    · rw [List.mapM_cons]
      refine wpAny_bind ?_
      rw [PySem.W.kas_first_eq]
      refine wpAny_bind (PySem.W.Looks.here (show PySem.W.Looks M s.heap (typeOf (.ref a)) o.cls from (PySem.W.Looks.ld ho).andThen .now) ?_)
      rw [hc, if_neg (by first | decide | simp)]
      refine wpAny_bind (listItems_at ho hdt (wpAny_pure ?_))
      exact wpAny_bind (h3 (fun bs s' => wpAny M A (pure (xs[0]? :: bs)) Q E s') (wpAny_pure h))
theorem words_sortE {a : Addr} {k : Value → List Int} {vs : List Value} (h2 : 0 < vs.length) (hu : A.units < cLine) (hp : WordsE s.heap k vs) (ha : ∀ o, s.heap.get? a = some o → o.cls ≠ .type "tuple") : SrtO.SortableO prog w A s a vs fun v u => HT.lexLt (k v) (k u) := by
  by_cases all : ∀ v ∈ vs, 0 < (k v).length
  · exact words_sortable h2 (fun v hv => ⟨hp v hv, all v hv⟩) ha
  intro h' keep
  have hp' : WordsE h' k vs := fun v hm => (hp v hm).keeps fun b o e c => keep b o (fun z => by subst z; exact ha o e c) e
  have some0 : ∃ v ∈ vs, (k v).length = 0 := by
    apply Classical.byContradiction
    intro z
    refine all fun v hv => ?_
    rcases Nat.eq_zero_or_pos (k v).length with y | y
    · exact absurd ⟨v, hv, y⟩ z
    · exact y
  obtain ⟨fs, f1, f2, f3⟩ := firsts_e (A := A) (E := fun _ _ => False) (s := { s with heap := h' }) (M := model prog w) vs hp'
  have nall : ¬ (fs.toArray.all fun x => x.isSome) = true := by
    obtain ⟨v, hv, hz⟩ := some0
    obtain ⟨i, hi⟩ := List.getElem?_of_mem hv
    obtain ⟨f, hf, hb⟩ := f2 i v hi
    rw [List.all_toArray]
    intro q
    have := List.all_eq_true.mp q f (List.mem_of_getElem? hf)
    rw [hb, hz] at this
    cases this
  obtain ⟨v0, rest, rfl⟩ : ∃ v rest, vs = v :: rest := by
    cases vs with
    | nil => cases h2
    | cons v rest => exact ⟨v, rest, rfl⟩
  obtain ⟨f0, hf0, hb0⟩ := f2 0 v0 rfl
  have kind : ∀ κ, (κ = if 0 < (k v0).length then general' else oneType') → ∀ (Q : SortKind → Shared → Prop) (E : Value → Shared → Prop), Q κ { s with heap := h' } → wpAny (model prog w) A (keyKind' (v0 :: rest).toArray) Q E { s with heap := h' } := by
    intro κ hκ Q E hq
    obtain ⟨fs, f1, f2, f3⟩ := firsts_e (A := A) (E := E) (s := { s with heap := h' }) (M := model prog w) (v0 :: rest) hp'
    have nall : ¬ (fs.toArray.all fun x => x.isSome) = true := by
      obtain ⟨v, hv, hz⟩ := some0
      obtain ⟨i, hi⟩ := List.getElem?_of_mem hv
      obtain ⟨f, hf, hb⟩ := f2 i v hi
      rw [List.all_toArray]
      intro q
      have := List.all_eq_true.mp q f (List.mem_of_getElem? hf)
      rw [hb, hz] at this
      cases this
    obtain ⟨f0, hf0, hb0⟩ := f2 0 v0 rfl
    rw [kat_kind_eq, List.mapM_toArray, map_eq_pure_bind]
    refine wpAny_bind (wpAny_bind (f3 _ (wpAny_pure ?_)))
    rw [if_neg nall]
    have e0 : (fs.toArray[0]?.bind id) = f0 := by
      rw [List.getElem?_toArray, hf0]
      rfl
    rw [e0]
    by_cases z : 0 < (k v0).length
    · rw [if_pos z] at hκ
      subst hκ
      rw [if_pos (by rw [hb0]; exact decide_eq_true z)]
      exact wpAny_pure hq
    · rw [if_neg z] at hκ
      subst hκ
      rw [if_neg (by rw [hb0]; exact fun y => z (of_decide_eq_true y))]
      rw [oneTypeOnly'_eq, List.mapM_toArray, map_eq_pure_bind]
      have ty : ∀ v ∈ v0 :: rest, PySem.W.Looks (model prog w) h' (typeOf v) (.type "tuple") := fun v hv => by
        obtain ⟨a, xs, rfl, ⟨o, ho, hc, n, hdt⟩, i⟩ := hp' v hv
        rw [← hc]
        exact (PySem.W.Looks.ld ho).andThen .now
      refine wpAny_bind (wpAny_bind (wpAny_bind (PySem.W.kas_mapM (r := Value.type "tuple") _ (fun v hv Q' hq => (ty v hv).here hq) (wpAny_pure ?_))))
      have hall : ((List.map (fun _ => Value.type "tuple") (v0 :: rest)).toArray.all fun x => x == Value.type "tuple") = true := by
        simp only [List.all_toArray, List.all_map, List.all_eq_true]
        intro _ _
        rfl
      have h0 : (List.map (fun _ => Value.type "tuple") (v0 :: rest)).toArray[0]? = some (Value.type "tuple") := by simp
      rw [h0]
      simp only [hall, if_true]
      exact wpAny_pure (wpAny_pure hq)
  by_cases z : 0 < (k v0).length
  · refine ⟨general', kind _ (by rw [if_pos z]), fun p q hm hm' => ?_⟩
    exact lt_gen (s := { s with heap := h' }) (Q := fun r s' => s' = { s with heap := h' } ∧ r = HT.lexLt (k p.1) (k q.1)) (hp' _ hm) (hp' _ hm') hu ⟨rfl, rfl⟩
  · refine ⟨oneType', kind _ (by rw [if_neg z]), fun p q hm hm' => ?_⟩
    exact lt_one (s := { s with heap := h' }) (Q := fun r s' => s' = { s with heap := h' } ∧ r = HT.lexLt (k p.1) (k q.1)) (hp' _ hm) (hp' _ hm') hu ⟨rfl, rfl⟩
end
/-- sorted(xs), xs a list of words (k says which) -/
def rSortedE (K : PySem.W.Frag) : List V → Hp → VK → Prop := fun vs H Q => ∃ (a : Addr) (xs : List V) (k : V → List Int), vs = [V.ref a] ∧ SqL K H a xs ∧ (∀ x ∈ xs, ∃ t, x = V.ref t ∧ H t = some (.tup ((k x).map V.int))) ∧
  ∀ (ys : List V) (p : Addr), SrtO.Srtd (fun x y => HT.lexLt (k x) (k y)) ys → ys.Perm xs → H p = none → Q (.ref p) (upd H p (.lst ys))
theorem cr_sortedE {X : Cx} (hu : X.A.units + 64 < cLine) : CallR X (.builtin "sorted") (rSortedE X.K) := by
  intro pins s σ H vs us Q I r h
  obtain ⟨a, xs, k, rfl, hs, hx, q⟩ := h
  obtain ⟨its, rv, hl, hz⟩ := I.list hs
  obtain ⟨u, rfl, ru⟩ := vals1 r
  obtain rfl : u = Value.ref a := ru
  obtain ⟨e1, e2⟩ := refs_back rv fun x m => by
    obtain ⟨t, e, _⟩ := hx x m
    exact ⟨t, e⟩
  have hp : WordsE s.heap (fun u => k (backV u)) its := fun v hv => by
    obtain ⟨t, rfl⟩ := e2 v hv
    have hm : V.ref t ∈ xs := by rw [e1]; exact List.mem_map.mpr ⟨_, hv, rfl⟩
    obtain ⟨t', e, ht⟩ := hx _ hm
    cases e
    obtain ⟨_, its2, r2, o⟩ := I.hok _ _ ht
    exact ⟨t, _, rfl, o, r2.ints⟩
  refine SrtO.sorted_ord (swo_words fun u => k (backV u)) hl.isList (by rw [← rv.length]; exact hz) (fun h2 h₁ a' ha' kk => ?_) fun out h1 h2 => ?_
  · refine words_sortE (s := { s with heap := h₁ }) (by omega) (by show X.A.units + 1 + 1 < cLine; omega) (fun v hm => (hp v hm).keeps fun b o e _ => (kk b o e).2) fun o e => ?_
    have e' : some o = some (seqObj "list" its.toArray 0) := e.symm.trans ha'
    cases e'
    intro c
    exact absurd (Value.type.inj c) (by decide)
  · have h3 : ∀ u ∈ out, ∃ a, u = Value.ref a := fun u hu => e2 u (h2.perm.mem_iff.mp hu)
    obtain ⟨n, hn⟩ := sortedAll_at s.heap its out.toArray
    have hb : SrtO.Stb (fun x y => HT.lexLt (k x) (k y)) (out.map backV) xs := by
      rw [e1]
      exact SrtO.Stb.map (swo_words k) backV h2
    refine ⟨.ref (s.heap.objs.size + 1), upd H (s.heap.objs.size + 1) (.lst (out.map backV)), I.laid (t' := s.toks) (fun _ _ => PyProof.Rows.sortedAll_old) (Nat.le_succ _) ⟨?_, out, n, vals_back h3, hn⟩, rfl, q _ _ (SrtO.srtd_map h1) hb.perm (I.hok.fresh (Nat.le_succ _))⟩
    rw [hb.len]
    exact hz
theorem cr_sortedEK {X : Cx} {K : PySem.W.Frag} (e : X.K = K) (hu : X.A.units + 64 < cLine) : CallR X (.builtin "sorted") (rSortedE K) := e ▸ cr_sortedE hu
section
variable {K : PySem.W.Frag} {γ : Gam} {te : TE}
theorem en_sortedE {ks : List (List Int)} (h : EvR te γ (ks.map w)) : EvN (tCB (rSortedE K) (tCons te tNil)) γ ((sortW ks).map w) := fun H0 A H σ k Q q =>
  h H0 A H σ k _ fun l vs B H1 g1 h1 r1 => by
    obtain ⟨e1, e2⟩ := words_at g1.sub r1
    refine ⟨l, vs, wordAt H1, rfl, SqL.of h1, fun x hx => ?_, fun ys p hs hp hn => ?_⟩
    · obtain ⟨a1, a2⟩ := e2 x hx
      obtain ⟨_, t, b1, b2⟩ := wordAt_rep g1.sub a1
      exact ⟨t, b1, b2⟩
    · have g2 := Gr.newU (o := .lst ys) g1.sub hn
      have e3 : ys.map (wordAt H1) = sortW ks := srtd_one (List.pairwise_map.mpr hs) (sortW_srtd ks) (by
        have := hp.map (wordAt H1)
        rw [e1] at this
        exact this.trans (sortW_perm ks).symm)
      refine q p ys B _ (g1.trans g2) (Evl.fresh_back g1.up hn) (Evl.fresh_back g1.sub hn) upd_same ?_
      rw [← e3]
      exact reps_words fun u hu => (e2 u (hp.mem_iff.mp hu)).1
end
end Fr

set_option Elab.async false
set_option linter.all false
set_option maxRecDepth 100000
set_option maxHeartbeats 4000000
namespace Fr
open PySem PySem.Spec PyProof.Rows L2
open Evl (Ex)
theorem units65 {k : Nat} {A : Around} (r : Room k A) : A.units + 65 < cLine := by
  have := r.un
  omega
/-! # {k: v}, k a tuple -/
def tDisp1T (tk tv : TE) : TE := fun σ H Q => ∀ p, H p = none → tk σ (upd H p (.dT [])) fun x H1 => tv σ H1 fun y H2 => ∃ c ks, x = .ref c ∧ H2 c = some (.tup (ks.map kV)) ∧ H2 p = some (.dT []) ∧ Q (.ref p) (upd H2 p (.dT (putK [] ks y)))
theorem pe_disp1T {X : Cx} {pos : Pos} {k v : Expr} {tk tv : TE} (hu : X.A.units + 1 < cLine) (hk : PE X k tk) (hv : PE X v tv) : PE X (.Dict [some k] [v] pos) (tDisp1T tk tv) := by
  refine ⟨fun pins s σ H Q I q => ?_⟩
  have hn := I.hok.fresh (Nat.le_refl s.heap.objs.size)
  have I1 := I.laid (a := s.heap.objs.size) (o := .dT []) (h' := s.heap.push { cls := .type "dict", data := .dict #[] }) (t' := s.toks) (fun _ _ q => Heap.get?_push_of_some _ q) (Nat.le_refl _) (dt_empty s.heap I.big)
  rw [arm_eval_Dict, zip_pairTrees [some k] [v] X.env pos rfl rfl, dictDisplay_pairs (pairTrees [some k] [v] X.env pos) (List.cons_ne_nil _ _) (by show 1 < 17; decide)]
  refine wpAny_bind (wpAny_standAt (wpAny_bind ?_))
  unfold subDict
  refine wpAny_bind (wpAny_alloc ?_)
  refine wpAny_bind (wpAny_holding ?_)
  rw [if_pos (by show 1 ≤ 15; decide)]
  refine wpAny_bind ?_
  refine pairTrees_cons_walk (thn (hk.run pins _ σ _ _ I1 (q _ hn)) fun u s1 ⟨x, H1, I2, rx, q1⟩ => thn (hv.run pins s1 σ H1 _ I2 q1) fun w2 s2 ⟨y, H2, I3, ry, c, ks, ex, hc, hp, q2⟩ => pairTrees_nil_walk ?_)
  subst ex
  refine wpAny_holding ?_
  refine wpAny_bind ?_
  rw [List.forIn_cons]
  refine wpAny_bind (wpAny_bind (dict_set_t hu I3 hp (by show 0 < sizeLine; decide) hc rx ry fun s' I' => wpAny_pure ?_))
  simp only [List.forIn_nil]
  exact wpAny_pure (wpAny_pure (wpAny_pure (wpAny_pure ⟨.ref s.heap.objs.size, _, I', rfl, q2⟩)))
section
variable {K : PySem.W.Frag} {γ δ : Gam} {ta tb te td tk tv tl : TE} {tr : TA} {x y z : Dat} {xs ys : List Dat} {es : List (List L2.Key × Dat)} {N : Gam → Prop} {R : Dat → Gam → Prop} {tu : TS} {g : TG} {js : List Nat}
theorem em_disp1 {ns : List Int} (h1 : EvD tk γ (w ns)) (h2 : EvD tv γ x) : EvM (tDisp1T tk tv) γ [(kw ns, x)] := fun H0 A H σ k Q q p hp => by
  have g0 := Gr.newU (o := .dT []) k.sub hp
  have hA : A p = none := Evl.fresh_back k.sub hp
  refine h1 H0 A _ σ (k.mono g0) _ fun v B H1 g1 r1 => h2 H0 B H1 σ ((k.mono g0).mono g1) _ fun u C H2 g2 r2 => ?_
  cases r1 with
  | @tup c us _ hc R1 =>
    have e := R1.ints
    subst e
    have hpB : B p = none := g1.hid p _ upd_same True.intro hA
    have hp1 : H1 p = some (.dT []) := g1.up _ _ upd_same
    have hpC : C p = none := g2.hid p _ hp1 True.intro hpB
    have hp2 : H2 p = some (.dT []) := g2.up _ _ hp1
    have ek : (kw ns).map kV = ns.map V.int := by
      unfold kw
      rw [List.map_map]
      rfl
    refine ⟨c, kw ns, rfl, by rw [ek]; exact g2.sub _ _ (g2.view _ _ hc), hp2, ?_⟩
    have gg := ((g0.trans g1).trans g2)
    refine q p _ C _ ⟨fun a o e => ?_, gg.view, gg.sub.mut hpC, gg.hid⟩ hp hpC upd_same (.cons r2 .nil)
    rw [upd_ne (ne_of_none e hp)]
    exact gg.up a o e
/-- a, b = {..}, [..] -/
theorem run_parMN {i j : Nat} (h1 : EvM td γ es) (h2 : EvN tl γ ys) (hij : i ≠ j) (hn : N ((γ.set i (.od es)).set j (.o ys))) : Run (tPar i j (tCons td (tCons tl tNil))) γ N R := fun A0 H0 A H σ g0 k D dn dr =>
  h1 H0 A H σ k _ fun l kvs B H1 g1 hl hB e1 r1 => h2 H0 B H1 σ (k.mono g1) _ fun m vs C H2 g2 hm hC e2 r2 => by
    have k2 := (k.mono g1).mono g2
    have lC : C l = none := g2.hid l _ e1 True.intro hB
    have lm : l ≠ m := ne_of_none e1 hm
    have fresh : ∀ (a : Addr), H a = none → ∀ (b : Nat) (t : Slot), γ[b]? = some t → t.mine = true → σ[b]? ≠ some (some (V.ref a)) := fun a ha b t hj mt e => by
      obtain ⟨c, o, e2', _, _, e3⟩ := k.addr hj mt
      rw [e2'] at e
      cases e
      rw [ha] at e3
      cases e3
    have k3 := k2.setM (l := l) (s := .od es) i (fun b t hj mt e => fresh l hl b t hj mt e) (fun _ z => nomatch z) (fun _ _ z => nomatch z) (fun _ _ z => nomatch z) (fun _ z => nomatch z) fun _ z => by cases z; exact ⟨kvs, Evl.fresh_back g0.up hl, lC, g2.up _ _ e1, r1.mono g2.view⟩
    refine ⟨.ref l, .ref m, rfl, dn _ C H2 _ hn ((g0.trans g1).trans g2) (g1.view.trans g2.view) (k3.setM j (fun b t hj mt e => ?_) (fun _ z => nomatch z) (fun _ _ z => nomatch z) (fun _ _ z => nomatch z) (fun _ z => by cases z; exact ⟨vs, Evl.fresh_back (g0.trans g1).up hm, hC, e2, r2⟩) fun _ z => nomatch z)⟩
    rcases set_get hj with ⟨rfl, z, hi⟩ | ⟨q, hj⟩
    · rw [List.getElem?_set_self (by rw [k.len]; exact hi)] at e
      cases e
      exact lm rfl
    · rw [List.getElem?_set_ne q] at e
      exact fresh m (Evl.fresh_back g1.up hm) b t hj mt e
/-- x += e of ints -/
theorem run_aug {i : Nat} {a b : Int} (h : γ[i]? = some (.d (.int a))) (he : EvD te γ (.int b)) (hn : N (γ.set i (.d (.int (a + b))))) : Run (tAug i te (ipI fun i j => i + j)) γ N R := fun A0 H0 A H σ g0 k D dn dr => by
  obtain ⟨v, e, r⟩ := k.get i _ h
  cases r
  refine ⟨_, e, he H0 A H σ k _ fun u B H1 g1 r1 => ?_⟩
  cases r1
  exact ⟨a, b, rfl, rfl, dn _ B H1 _ hn (g0.trans g1) g1.view ((k.mono g1).setD (.int _) i)⟩
/-! ### words in a list -/
theorem flatW (ns : List Int) : noDic (w ns) = true ∧ PyData.canLay0 (py (w ns)) = true ∧ PyData.depth (py (w ns)) ≤ 2 := by
  have h := shaped_w ns
  unfold SeqAt.shaped at h
  refine ⟨noDic_w ns, (Bool.and_eq_true_iff.mp h).1, ?_⟩
  show PyData.depth (.tuple (pys (ns.map .int))) ≤ 2
  rw [pys_ints]
  have h2 := depth_ints ns
  simp only [PyData.depth]
  omega
theorem wordsFlat : ∀ ks : List (List Int), noDics (ks.map w) = true ∧ PyData.canLayAll0 (pys (ks.map w)) = true ∧ PyData.depthAll (pys (ks.map w)) ≤ 2
  | [] => ⟨rfl, by simp [pys, PyData.canLayAll0], by simp [pys, PyData.depthAll]⟩
  | k :: ks => by
    obtain ⟨a1, a2, a3⟩ := wordsFlat ks
    obtain ⟨b1, b2, b3⟩ := flatW k
    refine ⟨Bool.and_eq_true_iff.mpr ⟨b1, a1⟩, ?_, ?_⟩
    · show PyData.canLayAll0 (py (w k) :: pys (ks.map w)) = true
      simp only [PyData.canLayAll0, b2, a2, Bool.and_self]
    · show PyData.depthAll (py (w k) :: pys (ks.map w)) ≤ 2
      simp only [PyData.depthAll]
      omega
theorem shapedWs (ks : List (List Int)) : SeqAt.shaped (.list (pys (ks.map w))) = true := by
  obtain ⟨a1, a2, a3⟩ := wordsFlat ks
  unfold SeqAt.shaped
  have d : PyData.depth (.list (pys (ks.map w))) ≤ 64 := by
    simp only [PyData.depth]
    omega
  rw [decide_eq_true d, Bool.and_true]
  simp only [PyData.canLay0]
  exact a2
theorem anyWs (t : List Int) : ∀ ks : List (List Int), (pys (ks.map w)).any (fun z => PyData.eqv z (py (w t))) = decide (t ∈ ks)
  | [] => rfl
  | k :: ks => by
    show (PyData.eqv (py (w k)) (py (w t)) || (pys (ks.map w)).any _) = _
    rw [anyWs t ks, eqv_w]
    by_cases h : k = t
    · rw [decide_eq_true h, Bool.true_or, decide_eq_true (by rw [h]; exact List.mem_cons_self)]
    · rw [decide_eq_false h, Bool.false_or]
      exact decide_eq_decide.mpr ⟨List.mem_cons_of_mem _, fun z => (List.mem_cons.mp z).resolve_left fun y => h y.symm⟩
theorem ev_notinW {t : List Int} {ks : List (List Int)} (hx : EvD ta γ (w t)) (hl : EvR tb γ (ks.map w)) : EvD (tOp (rNotInD K) ta tb) γ (.bl (!decide (t ∈ ks))) := fun H0 A H σ k Q q =>
  hx H0 A H σ k _ fun v B H1 g1 r1 => hl H0 B H1 σ (k.mono g1) _ fun l vs C H2 g2 h2 r2 => by
    refine ⟨py (w t), pys (ks.map w), (r1.mono g2.view).dp g2.sub (noDic_w t), .lst (SqL.of h2) (r2.dp g2.sub (wordsFlat ks).1), shaped_w t, shapedWs ks, ?_⟩
    rw [anyWs]
    exact q _ C H2 (g1.trans g2) (.bl _)
/-- a list of words != [] -/
theorem r2_neNilW {ks : List (List Int)} : R2D (rNeD K) (.lst (ks.map w)) (.lst []) (.bl (!ks.isEmpty)) := by
  have q := r2_neD (K := K) (x := .lst (ks.map w)) (y := .lst []) (wordsFlat ks).1 rfl (shapedWs ks) (by decide +kernel)
  have e2 : PyData.eqv (py (.lst (ks.map w))) (py (.lst [])) = ks.isEmpty := by
    cases ks with
    | nil => decide +kernel
    | cons k ks =>
      show PyData.eqv (.list (pys (w k :: ks.map w))) (.list []) = false
      simp only [pys, PyData.eqv, PyData.eqvAll]
  rw [e2] at q
  exact q
theorem r2_eqNilW {ks : List (List Int)} : R2D (rEqD K) (.lst (ks.map w)) (.lst []) (.bl ks.isEmpty) := by
  have q := r2_eqD (K := K) (x := .lst (ks.map w)) (y := .lst []) (wordsFlat ks).1 rfl (shapedWs ks) (by decide +kernel)
  have e2 : PyData.eqv (py (.lst (ks.map w))) (py (.lst [])) = ks.isEmpty := by
    cases ks with
    | nil => decide +kernel
    | cons k ks =>
      show PyData.eqv (.list (pys (w k :: ks.map w))) (.list []) = false
      simp only [pys, PyData.eqv, PyData.eqvAll]
  rw [e2] at q
  exact q
/-- for i in range(n, 0, -1) -/
theorem run_forDown {n : Nat} (h : EvA tr γ [.int (n : Int), .int 0, .int (-1)]) (hn : n < 100000) (I : Nat → Gam → Prop) (h0 : I 0 γ)
    (hs : ∀ i δ, i < n → I i δ → ∃ js ε, Tg g js δ (.int ((n - i : Nat) : Int)) ε ∧ Run tu ε (I (i + 1)) R) (hd : ∀ δ, I n δ → N δ) : Run (tFor (iRng3 tr) g tu) γ N R := fun A0 H0 A H σ g0 k D dn dr =>
  h H0 A H σ k _ fun vs B H1 g1 r1 => by
    cases r1 with
    | cons r1 r2 =>
      cases r2 with
      | cons r2 r3 =>
        cases r3 with
        | cons r3 r4 =>
          cases r4
          cases r1
          cases r2
          cases r3
          have en : ((n : Int) - 0).toNat = n := by omega
          have rg := RgC.neg (i := (n : Int)) (j := 0) (by omega) (by omega) (by decide) (by decide)
          rw [en] at rg
          refine ⟨n, 0, -1, n, rfl, rg, for_rangeC (fun i σ' H' => ∃ δ C, I i δ ∧ Gr A0 H0 C H' ∧ Ex B C ∧ Ok H0 C H' σ' δ) ⟨γ, B, h0, g0.trans g1, Ex.refl B, k.mono g1⟩ ?_ ?_⟩
          · rintro i σ' H' hi ⟨δ, C, hI, g2, v2, k2⟩
            obtain ⟨js, ε, ht, hr⟩ := hs i δ hi hI
            have ev : (n : Int) + (i : Nat) * (-1) = ((n - i : Nat) : Int) := by omega
            rw [ev]
            refine ht H0 C H' σ' _ k2 (.int _) _ fun σ3 k3 _ _ => ?_
            exact hr A0 H0 C H' σ3 g2 k3 { D with nx := _, ct := _, bk := D.nx } (fun δ' C' H3 σ4 hN g4 v4 k4 => ⟨δ', C', hN, g4, v2.trans v4, k4⟩) dr
          · rintro σ' H' ⟨δ, C, hI, g2, v2, k2⟩
            exact dn δ C H' σ' (hd δ hI) g2 (g1.view.trans v2) k2
/-- heard = [e1, e2] of new lists; if test: return; heard[0].append(None): behind it the lists are forgotten -/
theorem run_dirty1 {i : Nat} {c1 c2 : TE} {t3 : TT} {tu3 tw : TS} {us1 us2 : List Dat} (hi : i < γ.length) (h1 : EvN c1 γ us1) (h2 : EvN c2 γ us2) (z1 : us1.length < sizeLine)
    (h4 : EvT t3 (γ.set i (.d (.lst [.lst us1, .lst us2]))) false) (hr : Run tw (γ.set i .no) N R) :
    Run (tSeq (tAsg (tLst (tCons c1 (tCons c2 tNil))) (gName i)) (tSeq (tIfS t3 tu3 tNext) (tSeq (tDrop (tBM K "list" rAppend (tOp (rIxL K) (tVar i) (tC (.int 0))) (tCons (tC .non) tNil))) tw))) γ N R := fun A0 H0 A H σ g0 k D dn dr => by
  refine h1 H0 A H σ k _ fun l1 vs1 B1 H1 g1 f1 b1 e1 r1 => ?_
  refine h2 H0 B1 H1 σ (k.mono g1) _ fun l2 vs2 B2 H2 g2 f2 b2 e2 r2 => ?_
  refine ⟨by show 2 ≤ sizeLine; decide, fun p hp => ?_⟩
  have l12 : l1 ≠ l2 := ne_of_none e1 f2
  have f2' : H l2 = none := Evl.fresh_back g1.up f2
  have e1' : H2 l1 = some (.lst vs1) := g2.up _ _ e1
  have p1 : l1 ≠ p := ne_of_none e1' hp
  have p2 : l2 ≠ p := ne_of_none e2 hp
  have g12 : Gr A H B2 H2 := g1.trans g2
  have hp0 : H p = none := Evl.fresh_back g12.up hp
  have g3 : Gr A H B2 (upd H2 p (.lst [.ref l1, .ref l2])) := g12.trans (Gr.newU g12.sub hp)
  have n1 : B2 l1 = none := g2.hid l1 _ e1 True.intro b1
  have np : B2 p = none := Evl.fresh_back g12.sub hp
  have q1 : upd H2 p (.lst [.ref l1, .ref l2]) l1 = some (.lst vs1) := by rw [upd_ne p1]; exact e1'
  have q2 : upd H2 p (.lst [.ref l1, .ref l2]) l2 = some (.lst vs2) := by rw [upd_ne p2]; exact e2
  have qp : upd H2 p (.lst [.ref l1, .ref l2]) p = some (.lst [.ref l1, .ref l2]) := upd_same
  generalize upd H2 p (.lst [.ref l1, .ref l2]) = H3 at g3 q1 q2 qp
  have gA := g3.show q1 f1 n1
  have n2 : upd B2 l1 (.lst vs1) l2 = none := by rw [upd_ne (Ne.symm l12)]; exact b2
  have gB := gA.show q2 f2' n2
  have n3 : upd (upd B2 l1 (.lst vs1)) l2 (.lst vs2) p = none := by rw [upd_ne (Ne.symm p2), upd_ne (Ne.symm p1)]; exact np
  have gV := gB.show qp hp0 n3
  have x1 : Ex B2 (upd (upd (upd B2 l1 (.lst vs1)) l2 (.lst vs2)) p (.lst [.ref l1, .ref l2])) := (Ex.new n1).trans ((Ex.new n2).trans (Ex.new n3))
  have w1 : upd (upd (upd B2 l1 (.lst vs1)) l2 (.lst vs2)) p (.lst [.ref l1, .ref l2]) l1 = some (.lst vs1) := by rw [upd_ne p1, upd_ne l12]; exact upd_same
  have w2 : upd (upd (upd B2 l1 (.lst vs1)) l2 (.lst vs2)) p (.lst [.ref l1, .ref l2]) l2 = some (.lst vs2) := by rw [upd_ne p2]; exact upd_same
  have wp : upd (upd (upd B2 l1 (.lst vs1)) l2 (.lst vs2)) p (.lst [.ref l1, .ref l2]) p = some (.lst [.ref l1, .ref l2]) := upd_same
  generalize upd (upd (upd B2 l1 (.lst vs1)) l2 (.lst vs2)) p (.lst [.ref l1, .ref l2]) = VV at gV x1 w1 w2 wp
  have rp : Rep VV (.ref p) (.lst [.lst us1, .lst us2]) := .lst wp (.cons (.lst w1 (r1.mono (g2.view.trans x1))) (.cons (.lst w2 (r2.mono x1)) .nil))
  have k1 := (k.mono gV).setD rp i
  refine h4 H0 VV H3 _ k1 _ fun V3 H5 g5 => ?_
  have up5 : Ex H3 H5 := g5.up
  have si : (σ.set i (some (V.ref p)))[i]? = some (some (V.ref p)) := List.getElem?_set_self (by rw [k.len]; exact hi)
  rw [if_neg Bool.false_ne_true]
  refine ⟨.ref p, si, p, [.ref l1, .ref l2], 0, .ref l1, rfl, rfl, SqL.of (up5 _ _ qp), rfl, .inl ⟨rfl, vs1, SqL.of (up5 _ _ q1)⟩, l1, vs1, .non, rfl, rfl, up5 _ _ q1, by rw [r1.len]; exact z1, ?_⟩
  have ex : Ex H (upd H5 l1 (.lst (vs1 ++ [.non]))) := fun a o e => by
    rw [upd_ne (ne_of_none e f1)]
    exact up5 _ _ (gV.up _ _ e)
  refine hr A0 H0 A _ _ ⟨g0.up.trans ex, g0.view, k.sub.trans ex, g0.hid⟩ ?_ D dn dr
  exact (k.move (k.sub.trans ex) (Ex.refl A) fun c o a b e => ⟨a, b, ex _ _ e⟩).forget i _
end
end Fr

set_option Elab.async false
set_option linter.all false
set_option maxRecDepth 100000
set_option maxHeartbeats 4000000
namespace Fr
open PySem PySem.Spec PyProof.Rows L2
open Evl (Ex)
section
variable {K : PySem.W.Frag} {γ : Gam} {ta tb te : TE} {x y z : Dat} {xs ys : List Dat}
/-- list * 2 -/
theorem en_rep2 (h : EvR ta γ xs) (hb : EvD tb γ (.int 2)) (hl : xs.length * 2 ≤ sizeLine) : EvN (tOp rRep ta tb) γ (xs ++ xs) := fun H0 A H σ k Q q =>
  h H0 A H σ k _ fun l vs B H1 g1 h1 r1 => hb H0 B H1 σ (k.mono g1) _ fun v C H2 g2 r2 => by
    cases r2
    refine ⟨l, 2, vs, rfl, rfl, g2.up _ _ h1, by decide, by decide, by rw [r1.len]; exact hl, fun p hp => ?_⟩
    have r3 := r1.mono g2.view
    have e : (List.replicate (2 : Int).toNat vs).flatten = vs ++ vs := by
      show (List.replicate 2 vs).flatten = _
      simp [List.replicate]
    rw [e]
    exact q p _ C _ ((g1.trans g2).trans (Gr.newU g2.sub hp)) (Evl.fresh_back (g1.trans g2).up hp) (Evl.fresh_back g2.sub hp) upd_same (r3.app r3)
/-- list(xs) -/
theorem en_listL (h : EvR te γ xs) : EvN (tCB (Evl.rListS K) (tCons te tNil)) γ xs := fun H0 A H σ k Q q =>
  h H0 A H σ k _ fun l vs B H1 g1 h1 r1 => ⟨l, vs, rfl, .inl (SqL.of h1), fun p hp => q p vs B _ (g1.trans (Gr.newU g1.sub hp)) (Evl.fresh_back g1.up hp) (Evl.fresh_back g1.sub hp) upd_same r1⟩
theorem r2_catL (hl : xs.length + ys.length ≤ sizeLine) : R2D rCat (.lst xs) (.lst ys) (.lst (xs ++ ys)) := fun A H vx vy s r1 r2 Q q => by
  cases r1 with
  | @lst a us _ h1 R1 =>
    cases r2 with
    | @lst b ws _ h2 R2 =>
      refine ⟨a, b, us, ws, rfl, rfl, s _ _ h1, s _ _ h2, by rw [R1.len, R2.len]; exact hl, fun p hp => ?_⟩
      have g := Gr.new (o := .lst (us ++ ws)) s hp
      exact q _ _ _ g (.lst upd_same ((R1.app R2).mono g.view))
theorem eqvAllW : ∀ ks : List (List Int), PyData.eqvAll (pys (ks.map w)) (pys (ks.map w)) = true
  | [] => by simp [pys, PyData.eqvAll]
  | k :: ks => by
    show PyData.eqvAll (py (w k) :: pys (ks.map w)) (py (w k) :: pys (ks.map w)) = true
    simp [PyData.eqvAll, eqv_w, eqvAllW ks]
/-- a list of words != the same -/
theorem r2_neSameW {ks : List (List Int)} : R2D (rNeD K) (.lst (ks.map w)) (.lst (ks.map w)) (.bl false) := by
  have q := r2_neD (K := K) (x := .lst (ks.map w)) (y := .lst (ks.map w)) (wordsFlat ks).1 (wordsFlat ks).1 (shapedWs ks) (shapedWs ks)
  have e2 : PyData.eqv (py (.lst (ks.map w))) (py (.lst (ks.map w))) = true := by
    show PyData.eqv (.list (pys (ks.map w))) (.list (pys (ks.map w))) = true
    simp only [PyData.eqv]
    exact eqvAllW ks
  rw [e2] at q
  exact q
end
end Fr

set_option Elab.async false
set_option linter.all false
set_option maxRecDepth 100000
set_option maxHeartbeats 4000000
namespace Fr
open PySem PySem.Spec PyProof.Rows L2
open Evl (Ex)
/-- a list of anything == [] -/
def rEqNil (K : PySem.W.Frag) : R2 := fun x y H Q => ∃ a b xs, x = .ref a ∧ y = .ref b ∧ SqL K H a xs ∧ SqL K H b [] ∧ Q (.bl xs.isEmpty) H
section
variable {X : Cx}
theorem op_eqNil (hu : X.A.units < cLine) : OpR X (compareOp .Eq) (rEqNil X.K) := by
  intro pins s σ H x y v u Q I rx ry h
  obtain ⟨a, b, xs, rfl, rfl, ha, hb, q⟩ := h
  cases (show v = Value.ref a from rx)
  cases (show u = Value.ref b from ry)
  obtain ⟨us, r1, p1, _⟩ := I.list ha
  obtain ⟨ws, r2, p2, _⟩ := I.list hb
  have e2 : ws = [] := by cases r2; rfl
  subst e2
  cases xs with
  | nil =>
    have e1 : us = [] := by cases r1; rfl
    subst e1
    exact SeqAt.eq_listAt (e := fun _ => true) p1.isList p2.isList rfl hu (fun j h1 _ => absurd h1 (Nat.not_lt_zero j)) ⟨.bl true, H, I, rfl, q⟩
  | cons z zs =>
    have hn : us.length ≠ 0 := by
      have := r1.length
      rw [← this]
      exact Nat.succ_ne_zero _
    refine SeqAt.eq_list_lengthsAt p1.isList p2.isList ?_ hu ⟨.bl false, H, I, rfl, q⟩
    rw [List.size_toArray, List.size_toArray]
    exact bne_iff_ne.mpr hn
theorem op_eqNilK {K : PySem.W.Frag} (e : X.K = K) (hu : X.A.units < cLine) : OpR X (compareOp .Eq) (rEqNil K) := e ▸ op_eqNil hu
end
section
variable {K : PySem.W.Frag} {xs : List Dat}
theorem r2_eqNilA : R2D (rEqNil K) (.lst xs) (.lst []) (.bl xs.isEmpty) := fun A H vx vy s r1 r2 Q q => by
  cases r1 with
  | @lst a us _ h1 R1 =>
    cases r2 with
    | @lst b ws _ h2 R2 =>
      cases R2
      have e : us.isEmpty = xs.isEmpty := by cases R1 <;> rfl
      exact ⟨a, b, us, rfl, rfl, SqL.of (s _ _ h1), SqL.of (s _ _ h2), e ▸ q _ A H (Gr.refl s) (.bl _)⟩
end
/-! # <= of words -/
theorem lexAt_shift {e r e2 r2 : Nat → Bool} {z : Bool} (he : ∀ j, e (j + 1) = e2 j) (hr : ∀ j, r (j + 1) = r2 j) : ∀ k i, Ob.lexAt e r z (i + 1) k = Ob.lexAt e2 r2 z i k
  | 0, _ => rfl
  | k + 1, i => by
    rw [Ob.lexAt_succ, Ob.lexAt_succ, he, hr, lexAt_shift he hr k (i + 1)]
theorem lexAt_le : ∀ ns ms : List Int, Ob.lexAt (fun j => decide (ns.getD j 0 = ms.getD j 0)) (fun j => decide (ns.getD j 0 ≤ ms.getD j 0)) (decide (ns.length ≤ ms.length)) 0 (min ns.length ms.length) = !HT.lexLt ms ns
  | [], ms => by
    rw [List.length_nil, Nat.zero_min, Ob.lexAt_zero, decide_eq_true (Nat.zero_le _)]
    cases ms <;> rfl
  | n :: ns, [] => by
    rw [List.length_nil, Nat.min_zero, Ob.lexAt_zero, decide_eq_false (by rw [List.length_cons]; omega)]
    rfl
  | n :: ns, m :: ms => by
    have ih := lexAt_le ns ms
    have e0 : min (n :: ns).length (m :: ms).length = min ns.length ms.length + 1 := by
      rw [List.length_cons, List.length_cons]
      omega
    have e1 : decide ((n :: ns).length ≤ (m :: ms).length) = decide (ns.length ≤ ms.length) := decide_eq_decide.mpr (by rw [List.length_cons, List.length_cons]; omega)
    rw [e0, e1, Ob.lexAt_succ, lexAt_shift (e2 := fun j => decide (ns.getD j 0 = ms.getD j 0)) (r2 := fun j => decide (ns.getD j 0 ≤ ms.getD j 0)) (fun _ => rfl) (fun _ => rfl), ih]
    show (if decide (n = m) = true then !HT.lexLt ms ns else decide (n ≤ m)) = !(if m = n then HT.lexLt ms ns else decide (m < n))
    by_cases h : n = m
    · rw [decide_eq_true h, if_pos rfl, if_pos h.symm]
    · rw [decide_eq_false h, if_neg (by decide), if_neg (fun z => h z.symm)]
      by_cases h2 : n ≤ m
      · rw [decide_eq_true h2, decide_eq_false (by omega)]
        rfl
      · rw [decide_eq_false h2, decide_eq_true (by omega)]
        rfl
theorem op_leK {X : Cx} {K : PySem.W.Frag} (e : X.K = K) (hu : X.A.units < cLine) : OpR X (compareOp .LtE) (rLeT K) := e ▸ op_leT hu
theorem r2_leT {K : PySem.W.Frag} {ns ms : List Int} : R2D (rLeT K) (w ns) (w ms) (.bl (!HT.lexLt ms ns)) := fun A H vx vy s r1 r2 Q q => by
  cases r1 with
  | @tup a us _ h1 R1 =>
    cases r2 with
    | @tup b ws _ h2 R2 =>
      have e1 := R1.ints
      have e2 := R2.ints
      subst e1 e2
      refine ⟨a, b, ns, ms, rfl, rfl, SqT.of (s _ _ h1), SqT.of (s _ _ h2), ?_⟩
      rw [lexAt_le]
      exact q _ A H (Gr.refl s) (.bl _)
end Fr

set_option Elab.async false
set_option linter.all false
set_option maxRecDepth 100000
set_option maxHeartbeats 4000000
/-! t[::-1], t a tuple -/
namespace Fr
open PySem PySem.Spec PyProof.Rows L2
open Evl (Ex)
section
variable {prog : Program} {w : World} {A : Around} {E : Value → Shared → Prop} {s : Shared}
theorem adjust_rev (n : Nat) : Builtin.Slice.sliceAdjust none none (-1) (n : Int) = ((n : Int) - 1, -1) := by
  unfold Builtin.Slice.sliceAdjust
  simp only [show ((-1 : Int) < 0) from by decide, if_true]
theorem places_rev (n : Nat) : Builtin.Slice.slicePlaces ((n : Int) - 1) (-1) (-1) = n := by
  unfold Builtin.Slice.slicePlaces
  rw [if_neg (by decide)]
  by_cases h : (n : Int) - 1 > -1
  · rw [if_pos h, show (-(-1) : Int) = 1 by decide, Int.ediv_one]
    omega
  · rw [if_neg h]
    omega
theorem slice_rev {q : Addr} {v3 : Value} {n : Nat} {Q : Int × Int × Nat → Shared → Prop} (hq : s.heap.IsSliceOf q .none .none v3) (p3 : IsPart v3 (some (-1)))
    (h : Q ((n : Int) - 1, -1, n) s) : wpAny (model prog w) A (Builtin.Slice.sliceApplied (.ref q) (pure (n : Int))) Q E s := by
  obtain ⟨oz, z1, _, z3⟩ := id hq
  unfold Builtin.Slice.sliceApplied Builtin.Slice.sliceFields
  refine wpAny_bind (wpAny_bind (wpAny_field z1 z3 (x := .none) rfl (wpAny_bind (wpAny_field z1 z3 (x := .none) rfl (wpAny_bind (wpAny_field z1 z3 (x := v3) rfl (wpAny_pure ?_)))))))
  refine wpAny_bind (HT.slicePart_ p3 ?_)
  show wpAny _ _ (if ((-1 : Int) == 0) = true then _ else _) _ _ s
  rw [if_neg (by decide)]
  refine wpAny_bind (HT.slicePart_ .none (wpAny_bind (HT.slicePart_ .none (wpAny_bind (wpAny_pure ?_)))))
  show wpAny _ _ (match Builtin.Slice.sliceAdjust none none (-1) (n : Int) with | (lo, hi) => pure (lo, (-1 : Int), Builtin.Slice.slicePlaces lo hi (-1))) _ _ s
  rw [adjust_rev]
  show wpAny _ _ (pure ((n : Int) - 1, (-1 : Int), Builtin.Slice.slicePlaces ((n : Int) - 1) (-1) (-1))) _ _ s
  rw [places_rev]
  exact wpAny_pure h
theorem fm_congr {α β : Type} {f g : α → Option β} : ∀ {l : List α}, (∀ a ∈ l, f a = g a) → l.filterMap f = l.filterMap g
  | [], _ => rfl
  | a :: l, h => by
    rw [List.filterMap_cons, List.filterMap_cons, h a List.mem_cons_self, fm_congr fun b hb => h b (List.mem_cons_of_mem _ hb)]
theorem pick_rev (zs : Array Value) : ((List.range zs.size).filterMap fun (m : Nat) => zs[(((zs.size : Int) - 1) + (m : Int) * (-1)).toNat]?).toArray = zs.toList.reverse.toArray := by
  have e : ((List.range zs.size).filterMap fun (m : Nat) => zs[(((zs.size : Int) - 1) + (m : Int) * (-1)).toNat]?) = ((List.range zs.size).map fun k => zs.size - 1 - k).filterMap (zs[·]?) := by
    rw [List.filterMap_map]
    refine fm_congr fun m hm => ?_
    have h := List.mem_range.mp hm
    have q : (((zs.size : Int) - 1) + (m : Int) * (-1)).toNat = zs.size - 1 - m := by omega
    show zs[_]? = zs[zs.size - 1 - m]?
    rw [q]
  rw [e, PySem.W.krv_range, List.filterMap_reverse, PySem.W.krv_all]
theorem item_rev {t q : Addr} {zs : Array Value} {v3 : Value} {Q : Value → Shared → Prop} (hT : IsTup s.heap t zs) (hq : s.heap.IsSliceOf q .none .none v3) (p3 : IsPart v3 (some (-1))) (hz : zs.size ≤ sizeLine) 
    (h : Q (.ref s.heap.objs.size) { s with heap := s.heap.push { cls := .type "tuple", data := .seq zs.toList.reverse.toArray } }) : wpAny (model prog w) A (getItem (.ref t) (.ref q)) Q E s := by
  have size : sizeOk (.seq zs.toList.reverse.toArray) := by
    show zs.toList.reverse.toArray.size ≤ sizeLine
    rw [List.size_toArray, List.length_reverse, Array.length_toList]
    exact hz
  obtain ⟨oz, z1, z2, z3⟩ := id hq
  have hTq : s.TypeIs (.ref q) "slice" := ⟨oz, z1, z2⟩
  unfold getItem
  try with_reducible refine wpAny_holding ?_
  first | refine wpAny_bind (wpAny_pure ?_) | skip
  refine wpAny_bind (wpAny_sequenceKey hT.typeIs (by decide) ?_)
  refine wpAny_bind (wpAny_callSpecial?_slot (name := Str.ofString "__getitem__") hT.typeIs PyProof.Rows.slot_tuple_getitem (wpAny_call_entry PyProof.Rows.slot_tuple_getitem hT.typeIs entry_tuple_getitem ?_ (args_tuple_getitem _ _)))
  show wpAny _ _ (Builtin.Tuple.tupleItemsOf (.ref t) >>= _) _ _ s
  refine wpAny_bind (tupleItemsOf_ hT ?_)
  refine wpAny_bind (wpAny_typeOf hTq ?_)
  rw [if_pos (by decide)]
  refine wpAny_bind (slice_rev hq p3 ?_)
  have no : ¬ ((((zs.size : Int) - 1) == 0 && (-1 : Int) == 1 && zs.size == zs.size) = true) := by
    intro z
    rw [Bool.and_eq_true, Bool.and_eq_true] at z
    exact absurd (eq_of_beq z.1.2) (by decide)
  show wpAny _ _ (if (((zs.size : Int) - 1) == 0 && (-1 : Int) == 1 && zs.size == zs.size) = true then _ else _) _ _ s
  rw [if_neg no, pick_rev]
  first
    | exact wpAny_bind (m := Builtin.Tuple.tupleExact _) (wpAny_newObj_type (wpAny_pure ⟨_, rfl, wpAny_pure h⟩) size)
    | exact wpAny_bind (wpAny_bind (m := Builtin.Tuple.tupleExact _) (wpAny_newObj_type (wpAny_pure (wpAny_pure ⟨_, rfl, wpAny_pure h⟩)) size))
    | exact wpAny_bind (wpAny_bind (m := Builtin.Tuple.tupleExact _) (wpAny_newObj_type (wpAny_pure ⟨_, rfl, wpAny_pure h⟩) size))
end
def tRevT (K : PySem.W.Frag) (te : TE) : TE := fun σ H Q => te σ H fun x H1 => ∃ a xs, x = .ref a ∧ SqT K H1 a xs ∧ ∀ p, H1 p = none → Q (.ref p) (upd H1 p (.tup xs.reverse))
theorem pe_revT {X : Cx} {e : Expr} {te : TE} {k : Nat} {c1 c2 c3 pos : Pos} (he : PE X e te) : PE X (.Subscript e (.Slice none none (some (.UnaryOp .USub (.Constant (.int 1) k c1) c2)) c3) pos) (tRevT X.K te) := by
  refine ⟨fun pins s0 σ G0 Q J h => ?_⟩
  refine Subscript_ (thn (he.run pins s0 σ G0 _ J h) fun v s1 ⟨x, G1, J1, y1, w1⟩ => ?_)
  obtain ⟨a, xs, ex, hx, fin⟩ := w1
  subst ex
  cases y1
  have st : PO X (some (.UnaryOp .USub (.Constant (.int 1) k c1) c2)) (tPart (tUn (rU fun i => .int (-i)) (tC (.int 1)))) := po_some (pe_un un_neg pe_int)
  refine wpAny_Slice (thn (po_none.run pins s1 σ G1 (fun o G2 => o = none ∧ G2 = G1) J1 ⟨rfl, rfl⟩) fun va s2 ⟨oa, G2, J2, pa, ea, fa⟩ => ?_)
  subst ea fa
  refine thn (po_none.run pins s2 σ G2 (fun o G3 => o = none ∧ G3 = G2) J2 ⟨rfl, rfl⟩) fun vb s3 ⟨ob, G3, J3, pb, eb, fb⟩ => ?_
  subst eb fb
  refine thn (st.run pins s3 σ G3 (fun o G4 => o = some (-1) ∧ G4 = G3) J3 ⟨1, rfl, -1, rfl, rfl, rfl⟩) fun vc s4 ⟨oc, G4, J4, pc, ec, fc⟩ => ?_
  subst ec fc
  have J5 : Inv X pins σ G4 { s4 with heap := s4.heap.push { cls := .type "slice", data := .fields #[va, vb, vc] } } := J4.kept (t' := s4.toks) fun b ob q => Heap.get?_push_of_some _ q
  obtain ⟨its, r, ht, hz⟩ := J5.tuple hx
  have hlen := r.length
  cases pa
  cases pb
  show wpAny (model X.prog X.w) X.A (subscriptTail e (.Slice none none (some (.UnaryOp .USub (.Constant (.int 1) k c1) c2)) c3) (.ref a) (.ref s4.heap.objs.size)) (EP X pins σ Q) X.xe { s4 with heap := s4.heap.push { cls := .type "slice", data := .fields #[.none, .none, vc] } }
  refine tail_any (ops := [.ref a, .ref s4.heap.objs.size]) ht.typeIs (PyProof.Rows.slot_tuple_getitem.lookup) ?_ (by with_unfolding_all rfl)
  refine item_rev ht (Heap.IsSliceOf.new _ .none .none vc) pc (by rw [List.size_toArray]; omega) ?_
  refine ⟨.ref _, _, J5.laid (t' := s4.toks) (o := .tup xs.reverse) (fun b ob q => Heap.get?_push_of_some _ q) (Nat.le_refl _) ?_, rfl, fin _ (J5.hok.fresh (Nat.le_refl _))⟩
  exact ⟨by rw [List.length_reverse]; exact hz, _, r.reverse, IsTup.new _ _⟩
theorem pe_revTK {X : Cx} {K : PySem.W.Frag} {e : Expr} {te : TE} {k : Nat} {c1 c2 c3 pos : Pos} (hk : X.K = K) (he : PE X e te) : PE X (.Subscript e (.Slice none none (some (.UnaryOp .USub (.Constant (.int 1) k c1) c2)) c3) pos) (tRevT K te) := hk ▸ pe_revT he
section
variable {K : PySem.W.Frag} {γ : Gam} {te : TE} {xs : List Dat}
theorem Reps.rev {A : Hp} : ∀ {vs : List V} {ds : List Dat}, Reps A vs ds → Reps A vs.reverse ds.reverse
  | _, _, .nil => .nil
  | _, _, .cons h r => by
    rw [List.reverse_cons, List.reverse_cons]
    exact (Reps.rev r).app (.cons h .nil)
/-- list(t) -/
theorem en_listT (h : EvD te γ (.tup xs)) : EvN (tCB (Evl.rListS K) (tCons te tNil)) γ xs := fun H0 A H σ k Q q =>
  h H0 A H σ k _ fun v B H1 g1 r1 => by
    cases r1 with
    | @tup a us _ ha R =>
      exact ⟨a, us, rfl, .inr (SqT.of (g1.sub _ _ ha)), fun p hp => q p us B _ (g1.trans (Gr.newU g1.sub hp)) (Evl.fresh_back g1.up hp) (Evl.fresh_back g1.sub hp) upd_same R⟩
theorem ev_revT (h : EvD te γ (.tup xs)) : EvD (tRevT K te) γ (.tup xs.reverse) := fun H0 A H σ k Q q =>
  h H0 A H σ k _ fun v B H1 g1 r1 => by
    cases r1 with
    | @tup a us _ ha R =>
      refine ⟨a, us, rfl, SqT.of (g1.sub _ _ ha), fun p hp => ?_⟩
      have g := Gr.new (o := .tup us.reverse) g1.sub hp
      exact q _ _ _ (g1.trans g) (.tup upd_same ((Reps.rev R).mono g.view))
end
end Fr

set_option Elab.async false
set_option linter.all false
set_option maxRecDepth 100000
set_option maxHeartbeats 4000000
namespace Fr
open PySem PySem.Spec PyProof.Rows L2
open Evl (Ex)
/-! # instances that are made and then stand still -/
def putD (f : Str) (x : Dat) : List (Str × Dat) → List (Str × Dat)
  | [] => [(f, x)]
  | (g, y) :: r => if g = f then (g, x) :: r else (g, y) :: putD f x r
theorem RepsF.put {A : Hp} {f : Str} {v : V} {x : Dat} (h : Rep A v x) : ∀ {kvs : List (Str × V)} {fs : List (Str × Dat)}, RepsF A kvs fs → RepsF A (putF f v kvs) (putD f x fs)
  | _, _, .nil => .cons h .nil
  | _, _, @RepsF.cons _ g u d us ds a b => by
    by_cases q : g = f
    · have e1 : putF f v ((g, u) :: us) = (g, v) :: us := by show (if g = f then _ else _) = _; rw [if_pos q]
      have e2 : putD f x ((g, d) :: ds) = (g, x) :: ds := by show (if g = f then _ else _) = _; rw [if_pos q]
      rw [e1, e2]
      exact .cons h b
    · have e1 : putF f v ((g, u) :: us) = (g, u) :: putF f v us := by show (if g = f then _ else _) = _; rw [if_neg q]
      have e2 : putD f x ((g, d) :: ds) = (g, d) :: putD f x ds := by show (if g = f then _ else _) = _; rw [if_neg q]
      rw [e1, e2]
      exact .cons a (RepsF.put h b)
theorem RepsF.len {A : Hp} : ∀ {kvs : List (Str × V)} {fs : List (Str × Dat)}, RepsF A kvs fs → kvs.length = fs.length
  | _, _, .nil => rfl
  | _, _, .cons _ b => by rw [List.length_cons, List.length_cons, RepsF.len b]
theorem lenP {f : Str} {x : Dat} : ∀ {fs : List (Str × Dat)} {n : Nat}, fs.length ≤ n → (putD f x fs).length ≤ n + 1
  | [], n, _ => Nat.succ_le_succ (Nat.zero_le n)
  | (g, y) :: r, n, h => by
    by_cases q : g = f
    · have e2 : putD f x ((g, y) :: r) = (g, x) :: r := by show (if g = f then _ else _) = _; rw [if_pos q]
      rw [e2]
      exact Nat.le_succ_of_le h
    · have e2 : putD f x ((g, y) :: r) = (g, y) :: putD f x r := by show (if g = f then _ else _) = _; rw [if_neg q]
      rw [e2]
      cases n with
      | zero => cases h
      | succ m => exact Nat.succ_le_succ (lenP (Nat.le_of_succ_le_succ h))
/-- what __init__ promises: from which data which fields -/
def PrI (C : Addr) (Rf : List Dat → List (Str × Dat) → Prop) : Sp := fun vs H Q _ => ∃ A p dx us xs fs, vs = V.ref p :: us ∧ Ex A H ∧ A p = none ∧ H p = some (.ins C dx []) ∧ Reps A us xs ∧ Rf xs fs ∧
  ∀ B H' kvs, Gr A (hide p H) B H' → B p = none → H' p = some (.ins C dx kvs) → RepsF B kvs fs → Q .non H'
/-- a body that fills an instance -/
def InitRun (C : Addr) (ts : TS) (γ : Gam) (fs fs' : List (Str × Dat)) : Prop := ∀ A0 H0 A H σ p dx kvs, Gr A0 H0 A H → Ok H0 A H σ γ → σ[0]? = some (some (V.ref p)) → H0 p = none → A p = none → H p = some (.ins C dx kvs) → RepsF A kvs fs → ∀ D : Ends,
  (∀ B H' σ' kvs', Gr A0 H0 B H' → B p = none → H' p = some (.ins C dx kvs') → RepsF B kvs' fs' → D.nx σ' H') → ts D σ H
/-- nothing of the frame's own -/
def NoMine (γ : Gam) : Prop := ∀ (i : Nat) (s : Slot), γ[i]? = some s → s.mine = false
section
variable {K : PySem.W.Frag} {γ : Gam} {C : Addr} {te : TE} {tw : TS} {x : Dat} {fs fs' : List (Str × Dat)} {f : Str}
theorem Ok.insMut {H0 A H : Hp} {σ : L2.St} {p : Addr} {o : HO} (k : Ok H0 A H σ γ) (hm : NoMine γ) (hA : A p = none) : Ok H0 A (upd H p o) σ γ := by
  refine ⟨k.sub.mut hA, k.len, k.get, fun i xs h => ?_, fun i es h => ?_, fun i c xs h => ?_, k.scr, k.sep⟩
  · exact absurd (hm i _ h) (by intro z; cases z)
  · exact absurd (hm i _ h) (by intro z; cases z)
  · exact absurd (hm i _ h) (by intro z; cases z)
theorem init_end : InitRun C tNext γ fs fs := fun A0 H0 A H σ p dx kvs g k hs h0 hA hp rf D dn => dn A H σ kvs g hA hp rf
theorem init_fld (hm : NoMine γ) (c : Cls K C) (n : NoAttr K C f) (h : EvD te γ x) (hl : fs.length < 1000) (hr : InitRun C tw γ (putD f x fs) fs') : InitRun C (tSeq (sFld K (tVar 0) te f) tw) γ fs fs' := fun A0 H0 A H σ p dx kvs g k hs h0 hA hp rf D dn =>
  h H0 A H σ k _ fun v B H1 g1 r1 => by
    have hp1 := g1.up _ _ hp
    have hB := g1.hid p _ hp True.intro hA
    refine ⟨.ref p, hs, p, C, dx, kvs, rfl, hp1, c, n, by rw [rf.len]; exact hl, ?_⟩
    exact hr A0 H0 B _ σ p dx _ ((g.trans g1).mut h0 hB) ((k.mono g1).insMut hm hB) hs h0 hB upd_same ((RepsF.put r1 (rf.mono g1.view))) D dn
theorem init_fld1 (hm : NoMine γ) (c : Cls K C) (n : NoAttr K C f) (h : EvD te γ x) (hl : fs.length < 1000) : InitRun C (sFld K (tVar 0) te f) γ fs (putD f x fs) := fun A0 H0 A H σ p dx kvs g k hs h0 hA hp rf D dn =>
  h H0 A H σ k _ fun v B H1 g1 r1 => by
    have hp1 := g1.up _ _ hp
    have hB := g1.hid p _ hp True.intro hA
    refine ⟨.ref p, hs, p, C, dx, kvs, rfl, hp1, c, n, by rw [rf.len]; exact hl, ?_⟩
    exact dn B _ σ _ ((g.trans g1).mut h0 hB) hB upd_same (RepsF.put r1 (rf.mono g1.view))
theorem init_drop (h : EvD te γ x) (hr : InitRun C tw γ fs fs') : InitRun C (tSeq (tDrop te) tw) γ fs fs' := fun A0 H0 A H σ p dx kvs g k hs h0 hA hp rf D dn =>
  h H0 A H σ k _ fun v B H1 g1 r1 => hr A0 H0 B H1 σ p dx kvs (g.trans g1) (k.mono g1) hs h0 (g1.hid p _ hp True.intro hA) (g1.up _ _ hp) (rf.mono g1.view) D dn
theorem noMine_entry (N : List Str) (xs : List Dat) : NoMine (entry N xs) := fun i t h => by
  unfold entry at h
  by_cases hi : i < xs.length
  · rw [List.getElem?_append_left (by simpa using hi), List.getElem?_map] at h
    cases e : xs[i]? with
    | none => rw [e] at h; cases h
    | some a => rw [e] at h; cases h; rfl
  · rw [List.getElem?_append_right (by simpa using hi), List.getElem?_replicate] at h
    split at h <;> cases h
    rfl
/-- C(e, ..) -/
theorem ev_make {Rf : List Dat → List (Str × Dat) → Prop} {E : XK} {tr : TA} {xs : List Dat} (h : EvA tr γ xs) (hR : Rf xs fs) : EvD (tMake C (PrI C Rf) [] E tr) γ (.obj C fs) := fun H0 A H σ k Q q =>
  h H0 A H σ k _ fun vs B H1 g1 r1 => fun x dx hx hdx ne => by
    have b0 : B x = none := Evl.fresh_back g1.sub hx
    have bd : B dx = none := Evl.fresh_back g1.sub hdx
    have s1 : Ex H1 (upd (upd H1 dx (.own x)) x (.ins C dx [])) := (Ex.new hdx).trans (Ex.new (by rw [upd_ne (Ne.symm ne)]; exact hx))
    refine ⟨B, x, dx, vs, xs, fs, by rw [List.append_nil], g1.sub.trans s1, b0, upd_same, r1, hR, fun D H2 kvs g2 hD h2 rf => ⟨rfl, ?_⟩⟩
    have hx0 : H x = none := Evl.fresh_back g1.up hx
    have gL : Gr A H D H2 := by
      refine ⟨fun a o e => ?_, g1.view.trans g2.view, g2.sub, fun a o e m n => ?_⟩
      · have na : a ≠ x := ne_of_none e hx0
        exact g2.up a o (by rw [hide_ne na]; exact s1 _ _ (g1.up a o e))
      · have na : a ≠ x := ne_of_none e hx0
        exact g2.hid a o (by rw [hide_ne na]; exact s1 _ _ (g1.up a o e)) m (g1.hid a o e m n)
    have gS := gL.show h2 hx0 hD
    exact q _ _ H2 gS (.obj upd_same (rf.mono (Ex.new hD)))
end
section
variable {P : Program} {w0 : World} {K : PySem.W.Frag} {mg : Str → Option Value} {base : Heap}
theorem fn_prI {x qual : Str} {st : Stmt} {f C : Addr} {fd : FuncData} {N ps : List Str} {k : Nat} {Rf : List Dat → List (Str × Dat) → Prop} (F : Fun K x qual st f fd) (S : FnScope N ps (defScope st)) (hlen : ∀ xs fs, Rf xs fs → xs.length + 1 = ps.length)
    (hbody : ∀ (cdv : Value) (A : Around) (outer : List PySem.Env) (s : Shared) (H : Hp) (E : XK), Room k (A.deeper (envOfC qual (defScope st) s.heap.objs.size f cdv)) →
      ∃ t, PSs (cxOf CX0 P w0 K mg base N qual (defScope st) f cdv A outer s H E).nox (defBody st) t ∧ ∀ p xs fs, Rf xs fs → InitRun C t (entry N (.hnd p :: xs)) [] fs) : FnOk P w0 K mg base CX0 (k + 1) f fd ps (PrI C Rf) := by
  refine F.ok S (fun vs H Q E h => ?_) fun cdv A outer s H vs Q E hr h => ?_
  · obtain ⟨A, p, dx, us, xs, fs, rfl, _, _, _, r, hR, _⟩ := h
    rw [List.length_cons, r.len]
    exact hlen xs fs hR
  · obtain ⟨B, p, dx, us, xs, fs, rfl, sub, hB, hp, r, hR, q⟩ := h
    obtain ⟨t, h1, h2⟩ := hbody cdv A outer s H E hr
    have rr : Reps B (V.ref p :: us) (.hnd p :: xs) := .cons (.hnd p) r
    have k0 := ok_entry sub N rr
    have k1 : Ok (hide p H) B H (L2.start N (V.ref p :: us)) (entry N (.hnd p :: xs)) := by
      have nm := noMine_entry N (.hnd p :: xs)
      exact ⟨k0.sub, k0.len, k0.get, fun i ys hi => absurd (nm i _ hi) (by intro z; cases z), fun i ys hi => absurd (nm i _ hi) (by intro z; cases z), fun i c ys hi => absurd (nm i _ hi) (by intro z; cases z), k0.scr, fun i j l s t a b c => absurd (nm i _ a) (by intro z; rw [z] at c; cases c)⟩
    have pl := hlen xs fs hR
    have hs : (L2.start N (V.ref p :: us))[0]? = some (some (V.ref p)) := by
      obtain ⟨v, e, rv⟩ := k1.get 0 (.hnd p) rfl
      cases rv
      exact e
    refine ⟨t, h1, h2 p xs fs hR B (hide p H) B H _ p dx [] (gr_lend sub) k1 hs hide_self hB hp .nil _ fun C' H' σ' kvs g hC hp' rf => ?_⟩
    exact q C' H' kvs g hC hp' rf
end
end Fr
namespace Fr
open PySem PySem.Spec PyProof.Rows L2
/-- what is known of an own class whose instances are made -/
structure ClsOk (K : PySem.W.Frag) (mg : Str → Option Value) (x : Str) (C f : Addr) (ns : List Str) : Prop where
  mkk : Mk K C f
  at_ : mg x = some (.ref C)
  fine : ObF K C
  na : ∀ n ∈ ns, NoAttr K C n
/-- an __init__ that is called -/
structure CalI (P : Program) (w0 : World) (K : PySem.W.Frag) (mg : Str → Option Value) (base : Heap) (ps : List Str) (k : Nat) (sp : Sp) (f : Addr) (fd : FuncData) : Prop where
  ok : FnOk P w0 K mg base CX0 k f fd ps sp
  bd : Binds K fd ps []
end Fr

set_option Elab.async false
set_option linter.all false
set_option maxRecDepth 100000
set_option maxHeartbeats 4000000
namespace Fr
open PySem PySem.Spec PyProof.Rows L2
open Evl (Ex)
/-! # xs.count(y), flat things -/
def rCntF (K : PySem.W.Frag) : V → List V → Hp → VK → Prop := fun x xs H Q => ∃ (a : Addr) (ys : List V) (y : V), x = V.ref a ∧ xs = [y] ∧ SqL K H a ys ∧ flatV y = true ∧ ys.all flatV = true ∧ Q (.int (ys.countP (fun z => eqV z y) : Nat)) H
theorem cnt_of {y : V} : ∀ {ys : List V} {us : List Value}, Vals ys us → ys.all flatV = true → us.countP (eqU y) = ys.countP (fun z => eqV z y)
  | _, _, .nil, _ => rfl
  | _, _, .cons r t, h => by
    rw [List.all_cons, Bool.and_eq_true] at h
    rw [List.countP_cons, List.countP_cons, cnt_of t h.2, eqU_of r h.1]
theorem mt_countF {X : Cx} : MtR X "list.count" (rCntF X.K) := by
  intro pins s σ H x xs v us Q I rx rxs h
  obtain ⟨a, ys, y, rfl, rfl, hs, fy, fys, q⟩ := h
  cases rx
  cases rxs with
  | cons ry rt =>
    rename_i uy ut
    cases rt
    obtain ⟨its, rv, ⟨⟨cls, dd, data, sl⟩, n, ho, hc, hdn, hd⟩, hlen⟩ := I.list hs
    simp only at hc hd
    subst hc hd
    refine call_meets PySem.F.slot_list_count ⟨_, ho, rfl⟩ PySem.F.entry_list_count (PySem.F.args_list_count_2 _ _)
      (SeqAt.list_countAt a its.toArray n dd sl uy (eqU y)) ⟨ho, fun u' hu' => mem_eqAt ry fy rv fys u' (by simpa using hu'), ?_⟩
    have ec : its.toArray.toList.countP (eqU y) = ys.countP (fun z => eqV z y) := cnt_of rv fys
    refine ⟨.int (ys.countP (fun z => eqV z y) : Nat), H, I.tok _, ⟨s.toks, ?_⟩, q⟩
    show Value.int ((its.toArray.toList.countP (eqU y) : Nat) : Int) s.toks = Value.int ((ys.countP (fun z => eqV z y) : Nat) : Int) s.toks
    rw [ec]
/-! # an own exception class without own __init__, made with nothing -/
theorem pmk_own0 {X : Cx} {C : Addr} {bmB : List Value} {B newId initId : String} {x : Str} {p pos : Pos} (F : ExcBaseFacts B newId initId bmB) (q : PySem.W.excIn X.K C bmB newId = true) (gC : X.mg x = some (.ref C)) (kC : PySem.W.keepIn X.K (.ref C) = true) (r : Raises X (.ref C)) (hg : Gl X x)
    (hdb : (x == ("__debug__" : Str)) = false := by decide) : PMk X (.Call (.Name x p) [] [] pos) (fun _ H Q => Q (.ref C) none H) := by
  intro pins s σ H Q I h
  refine wpAny_Call_Name_kw (ld_glob I hg gC ?_ hdb)
  refine PySem.W.callWith_K0 I.kIn kC ?_
  obtain ⟨bm, N, nm, qn, bs, hdct, sn, sub, ab, col, dd, k0, k1, k2, k3, k5, mN, hC, hN, hni, T⟩ := exc_obj I.kIn q
  show wpAny _ _ (call (.ref C) []) _ _ _
  refine wpAny_call_exc_subT F T hC hN hni (fun h' e hm => ?_) (Nat.zero_le _)
  exact mk_of I hm r h (I.hok.gone hm.new)
/-! # promises of defs that may raise -/
section
variable {P : Program} {w : World} {K : PySem.W.Frag} {mg : Str → Option Value} {base : Heap} {k : Nat} {f : Addr} {fd : FuncData} {ps : List Str} {sp sp' : Sp}
theorem _root_.L2.FnOk.toX (F : FnOk P w K mg base CX0 k f fd ps sp) : FnOk P w K mg base (L2.CX P w) k f fd ps sp :=
  ⟨F.len, fun A outer s H args us vs Q E hr he hb hv hs => codeAny_mono (F.run A outer s H args us vs Q E hr he hb hv hs) fun r s' h => by
    cases r with
    | ok fl => cases fl <;> exact h
    | error e => exact False.elim h⟩
theorem _root_.L2.FnOk.or {CX : CXT} (F : FnOk P w K mg base CX k f fd ps sp) (G : FnOk P w K mg base CX k f fd ps sp') : FnOk P w K mg base CX k f fd ps (fun vs H Q E => sp vs H Q E ∨ sp' vs H Q E) :=
  ⟨fun vs H Q E h => h.elim (F.len vs H Q E) (G.len vs H Q E), fun A outer s H args us vs Q E hr he hb hv hs => hs.elim (F.run A outer s H args us vs Q E hr he hb hv) (G.run A outer s H args us vs Q E hr he hb hv)⟩
end
/-- it raises: from which data which class -/
def PrE (RE : List Dat → Value → Prop) : Sp := fun vs H Q E => ∃ A xs cls, Ex A H ∧ Reps A vs xs ∧ RE xs cls ∧ ∀ B H', Gr A H B H' → E cls none H'
/-- it answers, or it raises -/
def PrB (R : List Dat → Dat → Prop) (RE : List Dat → Value → Prop) : Sp := fun vs H Q E => Pr R vs H Q E ∨ PrE RE vs H Q E
structure CalB (P : Program) (w0 : World) (K : PySem.W.Frag) (mg : Str → Option Value) (base : Heap) (x : Str) (ps : List Str) (k : Nat) (R : List Dat → Dat → Prop) (RE : List Dat → Value → Prop) (f : Addr) (fd : FuncData) : Prop where
  ok : FnOk P w0 K mg base (L2.CX P w0) k f fd ps (PrB R RE)
  bd : Binds K fd ps []
  at_ : mg x = some (.ref f)
  kp : PySem.W.keepIn K (.ref f) = true
/-! ### readings that end in an exception -/
def RunE (ts : TS) (W : WX) (γ : Gam) (cls : Value) : Prop := ∀ A0 H0 A H σ, Gr A0 H0 A H → Ok H0 A H σ γ → ∀ D : Ends, (∀ B H' σ', Gr A0 H0 B H' → W cls none σ' H') → ts D σ H
def EvE (te : TE) (W : WX) (γ : Gam) (cls : Value) : Prop := ∀ H0 A H σ, Ok H0 A H σ γ → ∀ Q : VK, (∀ B H', Gr A H B H' → W cls none σ H') → te σ H Q
def EvTE (t : TT) (W : WX) (γ : Gam) (cls : Value) : Prop := ∀ H0 A H σ, Ok H0 A H σ γ → ∀ Q : Bool → Hp → Prop, (∀ B H', Gr A H B H' → W cls none σ H') → t σ H Q
section
variable {K : PySem.W.Frag} {γ δ : Gam} {ta tb te : TE} {t u : TT} {x y z : Dat} {xs ys : List Dat} {tu tw : TS} {W : WX} {cls : Value} {R : List Dat → Dat → Prop} {RE : List Dat → Value → Prop}
theorem ev_callB {E : L2.St → XK} {tr : TA} (h : EvA tr γ xs) (hR : R xs z) : EvD (tCallS (PrB R RE) E tr) γ z := fun H0 A H σ k Q q =>
  h H0 A H σ k _ fun vs B H1 g1 r1 => .inl ⟨B, xs, z, g1.sub, r1, hR, fun v C H2 g2 r2 => q v C H2 (g1.trans g2) r2⟩
theorem ee_call {tr : TA} (h : EvA tr γ xs) (hR : RE xs cls) : EvE (tCallS (PrB R RE) (WE W) tr) W γ cls := fun H0 A H σ k Q q =>
  h H0 A H σ k _ fun vs B H1 g1 r1 => .inr ⟨B, xs, cls, g1.sub, r1, hR, fun C H2 g2 => q C H2 (g1.trans g2)⟩
theorem re_drop (h : EvE te W γ cls) : RunE (tDrop te) W γ cls := fun A0 H0 A H σ g0 k D d => h H0 A H σ k _ fun B H' g => d B H' σ (g0.trans g)
theorem re_asg {g : TG} (h : EvE te W γ cls) : RunE (tAsg te g) W γ cls := fun A0 H0 A H σ g0 k D d => h H0 A H σ k _ fun B H' g => d B H' σ (g0.trans g)
theorem re_ret (h : EvE te W γ cls) : RunE (tRet te) W γ cls := fun A0 H0 A H σ g0 k D d => h H0 A H σ k _ fun B H' g => d B H' σ (g0.trans g)
theorem re_if (h : EvTE t W γ cls) : RunE (tIfS t tu tw) W γ cls := fun A0 H0 A H σ g0 k D d => h H0 A H σ k _ fun B H' g => d B H' σ (g0.trans g)
theorem re_ifT {b : Bool} (h : EvT t γ b) (h1 : b = true → RunE tu W γ cls) (h2 : b = false → RunE tw W γ cls) : RunE (tIfS t tu tw) W γ cls := fun A0 H0 A H σ g0 k D d => h H0 A H σ k _ fun B H1 g1 => by
  cases b with
  | true => exact h1 rfl A0 H0 B H1 σ (g0.trans g1) (k.mono g1) D d
  | false => exact h2 rfl A0 H0 B H1 σ (g0.trans g1) (k.mono g1) D d
theorem re_seq0 (h : RunE tu W γ cls) : RunE (tSeq tu tw) W γ cls := fun A0 H0 A H σ g0 k D d => h A0 H0 A H σ g0 k { D with nx := tw D } d
theorem re_seq {R' : Dat → Gam → Prop} (h : Run tu γ (fun ε => ε = δ) (fun _ _ => False)) (hk : RunE tw W δ cls) : RunE (tSeq tu tw) W γ cls := fun A0 H0 A H σ g0 k D d =>
  h A0 H0 A H σ g0 k { D with nx := tw D } (fun ε B H' σ' e g' v k' => by subst e; exact hk A0 H0 B H' σ' g' k' D d) fun _ _ _ _ _ _ z _ _ => z.elim
theorem ete_not (h : EvTE t W γ cls) : EvTE (tNot t) W γ cls := fun H0 A H σ k Q q => h H0 A H σ k _ q
theorem ete_or (h : EvTE t W γ cls) : EvTE (tOr t u) W γ cls := fun H0 A H σ k Q q => h H0 A H σ k _ q
theorem ete_and (h : EvTE t W γ cls) : EvTE (tAnd t u) W γ cls := fun H0 A H σ k Q q => h H0 A H σ k _ q
theorem re_raise {tm : L2.St → Hp → XK → Prop} (h : ∀ σ H Q, Q cls none H → tm σ H Q) : RunE (fun _ σ H => tm σ H fun c d H' => W c d σ H') W γ cls := fun A0 H0 A H σ g0 k D d => h σ H _ (d A H σ g0)
end
section
variable {P : Program} {w0 : World} {K : PySem.W.Frag} {mg : Str → Option Value} {base : Heap}
/-- a def that raises -/
theorem fn_prE {x qual : Str} {st : Stmt} {f : Addr} {fd : FuncData} {N ps : List Str} {k : Nat} {RE : List Dat → Value → Prop} (F : Fun K x qual st f fd) (S : FnScope N ps (defScope st)) (hlen : ∀ xs c, RE xs c → xs.length = ps.length)
    (hbody : ∀ (cdv : Value) (A : Around) (outer : List PySem.Env) (s : Shared) (H : Hp) (E : XK), Room k (A.deeper (envOfC qual (defScope st) s.heap.objs.size f cdv)) →
      ∃ t, PSs (cxOf (L2.CX P w0) P w0 K mg base N qual (defScope st) f cdv A outer s H E) (defBody st) t ∧ ∀ xs c, RE xs c → RunE t (fun c d _ H => E c d H) (entry N xs) c) : FnOk P w0 K mg base (L2.CX P w0) (k + 1) f fd ps (PrE RE) := by
  refine F.okX S (fun vs H Q E h => ?_) fun cdv A outer s H vs Q E hr h => ?_
  · obtain ⟨A, xs, c, s, r, hR, _⟩ := h
    rw [r.len]
    exact hlen xs c hR
  · obtain ⟨B, xs, c, sub, r, hR, q⟩ := h
    obtain ⟨t, h1, h2⟩ := hbody cdv A outer s H E hr
    exact ⟨t, h1, h2 xs c hR B H B H _ (Gr.refl sub) (ok_entry sub N r) _ fun C H' σ' g => q C H' g⟩
end
end Fr

set_option Elab.async false
set_option linter.all false
set_option maxRecDepth 100000
set_option maxHeartbeats 4000000
namespace Fr
open PySem PySem.Spec PyProof.Rows L2
open Evl (Ex)
/-! # try .. except X as e -/
section
variable {P : Program} {w0 : World} {K : PySem.W.Frag} {mg : Str → Option Value} {base : Heap}
/-- a def that answers or raises -/
theorem fn_prB {x qual : Str} {st : Stmt} {f : Addr} {fd : FuncData} {N ps : List Str} {k : Nat} {R : List Dat → Dat → Prop} {RE : List Dat → Value → Prop} (F : Fun K x qual st f fd) (S : FnScope N ps (defScope st)) (hlen : ∀ xs y, R xs y → xs.length = ps.length) (hlenE : ∀ xs c, RE xs c → xs.length = ps.length)
    (hbody : ∀ (cdv : Value) (A : Around) (outer : List PySem.Env) (s : Shared) (H : Hp) (E : XK), Room k (A.deeper (envOfC qual (defScope st) s.heap.objs.size f cdv)) →
      ∃ t, PSs (cxOf (L2.CX P w0) P w0 K mg base N qual (defScope st) f cdv A outer s H E) (defBody st) t ∧ (∀ xs y, R xs y → Run t (entry N xs) (fun _ => y = .non) (fun z _ => z = y)) ∧ (∀ xs c, RE xs c → RunE t (fun c d _ H => E c d H) (entry N xs) c)) :
    FnOk P w0 K mg base (L2.CX P w0) (k + 1) f fd ps (PrB R RE) := by
  refine F.okX S (fun vs H Q E h => ?_) fun cdv A outer s H vs Q E hr h => ?_
  · rcases h with ⟨A, xs, y, s, r, hR, _⟩ | ⟨A, xs, c, s, r, hR, _⟩
    · rw [r.len]
      exact hlen xs y hR
    · rw [r.len]
      exact hlenE xs c hR
  · obtain ⟨t, h1, h2, h3⟩ := hbody cdv A outer s H E hr
    rcases h with ⟨B, xs, y, sub, r, hR, q⟩ | ⟨B, xs, c, sub, r, hR, q⟩
    · refine ⟨t, h1, h2 xs y hR B H B H _ (Gr.refl sub) (ok_entry sub N r) _ (fun δ C H' σ' hn g _ k' => ?_) fun v C H' z σ' δ hz g _ rz => ?_⟩
      · subst hn
        exact q _ C H' g .non
      · subst hz
        exact q v C H' g rz
    · exact ⟨t, h1, h3 xs c hR B H B H _ (Gr.refl sub) (ok_entry sub N r) _ fun C H' σ' g => q C H' g⟩
end
section
variable {K : PySem.W.Frag} {γ δ : Gam} {ta tb te : TE} {x y z : Dat} {xs ys : List Dat} {N : Gam → Prop} {R : Dat → Gam → Prop} {c cls : Value} {i : Nat} {Wout : WX}
theorem run_tryG {te : WX → TE} {ts : Addr → Value → Option Addr → TS} (hG : ∀ W, EvD (te W) γ x) (hn : N γ) : Run (fun D σ H => tDrop (te (wAs K c i ts Wout D)) D σ H) γ N R := fun A0 H0 A H σ g0 k D dn dr =>
  hG _ H0 A H σ k _ fun v B H1 g1 r1 => dn γ B H1 σ hn (g0.trans g1) g1.view (k.mono g1)
theorem run_tryE {te : WX → TE} {ts : Addr → Value → Option Addr → TS} (hE : ∀ W, EvE (te W) W γ cls) (hx : PySem.W.exmOne K cls c = some true) (hs : ∀ a, Run (ts a cls none) (γ.set i (.d (.hnd a))) (fun δ => N (δ.set i .no)) R) :
    Run (fun D σ H => tDrop (te (wAs K c i ts Wout D)) D σ H) γ N R := fun A0 H0 A H σ g0 k D dn dr =>
  hE _ H0 A H σ k _ fun B H1 g1 => ⟨true, hx, fun _ a _ => hs a A0 H0 B H1 _ (g0.trans g1) ((k.mono g1).setD (.hnd a) i) _ (fun δ C H2 σ' n g2 v2 k2 => dn _ C H2 _ n g2 (g1.view.trans v2) (k2.forget i none)) dr, fun z => nomatch z⟩
/-- marks.count(b) -/
theorem flats : ∀ bs : List Bool, (bs.map V.bl).all flatV = true
  | [] => rfl
  | b :: bs => flats bs
theorem ev_count {bs : List Bool} {b : Bool} (h : EvD te γ (.lst (bs.map .bl))) (hx : EvD tb γ (.bl b)) : EvD (tBM K "list" (rCntF K) te (tCons tb tNil)) γ (.int ((bs.count b : Nat) : Int)) := fun H0 A H σ k Q q =>
  h H0 A H σ k _ fun v B H1 g1 r1 => by
    cases r1 with
    | @lst a us _ ha ru =>
      have e := bls_of ru
      subst e
      refine ⟨.inl ⟨rfl, _, SqL.of (g1.sub _ _ ha)⟩, hx H0 B H1 σ (k.mono g1) _ fun v2 C H2 g2 r2 => ?_⟩
      cases r2
      refine ⟨a, bs.map V.bl, .bl b, rfl, rfl, SqL.of (g2.up _ _ (g1.sub _ _ ha)), rfl, flats bs, ?_⟩
      have ec : (bs.map V.bl).countP (fun z => eqV z (.bl b)) = bs.count b := by
        rw [List.countP_map]
        rfl
      rw [ec]
      exact q _ C H2 (g1.trans g2) (.int _)
/-- marks.index(b) -/
theorem ev_index {bs : List Bool} {b : Bool} {j : Nat} (h : EvD te γ (.lst (bs.map .bl))) (hx : EvD tb γ (.bl b)) (hj : bs[j]? = some b) (hno : ∀ m, m < j → bs[m]? ≠ some b) : EvD (tBM K "list" (rIndex K) te (tCons tb tNil)) γ (.int ((j : Nat) : Int)) := fun H0 A H σ k Q q =>
  h H0 A H σ k _ fun v B H1 g1 r1 => by
    cases r1 with
    | @lst a us _ ha ru =>
      have e := bls_of ru
      subst e
      refine ⟨.inl ⟨rfl, _, SqL.of (g1.sub _ _ ha)⟩, hx H0 B H1 σ (k.mono g1) _ fun v2 C H2 g2 r2 => ?_⟩
      cases r2
      refine ⟨a, bs.map V.bl, .bl b, j, .bl b, rfl, rfl, SqL.of (g2.up _ _ (g1.sub _ _ ha)), rfl, flats bs, ?_, ?_, ?_, q _ C H2 (g1.trans g2) (.int _)⟩
      · rw [List.getElem?_map, hj]
        rfl
      · show (b == b) = true
        exact beq_self_eq_true b
      · intro m z' hm hz
        rw [List.getElem?_map] at hz
        cases e2 : bs[m]? with
        | none => rw [e2] at hz; cases hz
        | some b' =>
          rw [e2] at hz
          cases hz
          show (b' == b) = false
          exact beq_false_of_ne fun z => hno m hm (by rw [e2, z])
theorem r2_neS {a b : Str} : R2D rNe (.str a) (.str b) (.bl (!decide (a = b))) := fun A H vx vy s r1 r2 Q q => by
  cases r1
  cases r2
  refine ⟨rfl, q _ A H (Gr.refl s) ?_⟩
  have e : decide (V.str a = V.str b) = decide (a = b) := decide_eq_decide.mpr ⟨fun h => V.str.inj h, fun h => h ▸ rfl⟩
  rw [e]
  exact .bl _
end
theorem mt_appendR {X : Cx} : MtR X "list.append" rAppend := mt_append
theorem mt_countFK {X : Cx} {K : PySem.W.Frag} (e : X.K = K) : MtR X "list.count" (rCntF K) := e ▸ mt_countF
theorem mt_indexK {X : Cx} {K : PySem.W.Frag} (e : X.K = K) : MtR X "list.index" (rIndex K) := e ▸ mt_index
/-- a method of a list, with the classes said from outside (a suite's own context must not enter the value) -/
theorem pe_bmK {X : Cx} {K : PySem.W.Frag} (eK : X.K = K) {o e : Expr} {es : List Expr} {to : TE} {t : TA} {name : Str} {apos cpos : Pos} {T id : String} {r : V → List V → Hp → VK → Prop}
    (h1 : PlainAttrs T) (h2 : PySem.Slot T name id) (h3 : typeOf (Value.builtin id) = pure (Value.type "method_descriptor")) (h4 : MtR X id r) (h5 : PE X o to) (h6 : PA X (e :: es) t)
    (a1 : attributeBase o name X.env (eval o X.env) = eval o X.env := by rfl)
    (a2 : ((backTo cpos (starEach (e :: es) X.env)).all (fun x => !x.1) && (backToKw cpos (keywordEach [] X.env)).all (fun x => x.1.isSome) && decide ((e :: es).length + ([] : List Keyword).length + (if ([] : List Keyword).isEmpty then 0 else 1) < 30)) = true := by rfl)
    (a3 : (apos.endLine == cpos.line) = true := by rfl)
    (a4 : starEach (e :: es) X.env = (false, eval e X.env) :: starEach es X.env := by rfl)
    (a5 : ((backTo cpos (starEach es X.env)).any fun x => x.fst) = false := by rfl) :
    PE X ((o.Attribute name apos).Call (e :: es) [] cpos) (tBM K T r to t) := eK ▸ pe_bm h1 h2 h3 h4 h5 h6 a1 a2 a3 a4 a5
/-! # isinstance of the caught exception -/
/-- of one class, and of a tuple of classes -/
def rIsX (K : PySem.W.Frag) (cls : Value) (d : Option Addr) (a : Addr) : List V → Hp → VK → Prop := fun xs H Q => ∃ D, cls = .ref D ∧ d = none ∧ ExcC K D ∧ ((∃ (c : V) (cv : Value) (b : Bool), xs = [.ref a, c] ∧ (∀ u, RelV c u → u = cv) ∧ PySem.W.kitOne K (.ref D) cv = some b ∧ Q (.bl b) H) ∨
  ∃ (tp : Addr) (cs : List V) (us : List Value) (b : Bool), xs = [.ref a, .ref tp] ∧ H tp = some (.tup cs) ∧ Paired ClsV cs us ∧ PySem.W.kitAny K (.ref D) us = some b ∧ Q (.bl b) H)
theorem call_isX {X : Cx} {a : Addr} {oe : Obj} {cls : Value} {d : Option Addr} {pn : List (Addr × Obj)} (hz : Zc cls d oe) (hf : ∃ vs, oe.data = .fields vs) : CallR (X.suite a ((a, oe) :: pn)) (.builtin "isinstance") (rIsX X.K cls d a) := by
  intro pins s σ H xs us Q I r h
  obtain ⟨D, rfl, rfl, C, h⟩ := h
  rcases h with ⟨c, cv, b, rfl, hcv, e, q⟩ | ⟨tp, cs, ws, b, rfl, hT, k, e, q⟩
  · exact call_isE C hz hf pins s σ H [.ref a, c] us Q I r ⟨c, cv, b, rfl, hcv, e, q⟩
  · obtain ⟨u1, u2, rfl, r1, r2⟩ := vals2 r
    cases (show u2 = Value.ref tp from r2)
    cases (show u1 = Value.ref a from r1)
    obtain ⟨hget, _⟩ := I.pin (a, oe) (List.mem_append.mpr (.inl List.mem_cons_self))
    obtain ⟨vs, hv⟩ := hf
    have J : PySem.W.InstAt s.heap a oe D none := by
      obtain ⟨oc, od, oda, osl⟩ := oe
      obtain ⟨h1, h2⟩ := hz
      dsimp only at h1 h2 hv
      subst h1 h2 hv
      exact ⟨hget, rfl, rfl, trivial⟩
    obtain ⟨_, its, rv, o, h1, h2, n, h3⟩ := (show ObjOk X.prog X.w H s.heap tp (.tup cs) from I.hok tp _ hT)
    have e3 := ClsV.all k rv
    subst e3
    obtain ⟨oc, od, dt, sl⟩ := o
    simp only at h2 h3
    subst h2 h3
    exact PySem.W.kia_tup (PySem.W.handS_kitx_exc C.hg C.hk C.hs C.hd C.ha C.hn C.ht C.hm) I.kIn J h1 e (fun z => nomatch z) fun tk => ⟨.bl b, H, I.tok tk, rfl, q⟩
theorem call_isXK {X : Cx} {K : PySem.W.Frag} (eK : X.K = K) {a : Addr} {oe : Obj} {cls : Value} {d : Option Addr} {pn : List (Addr × Obj)} (hz : Zc cls d oe) (hf : ∃ vs, oe.data = .fields vs) : CallR (X.suite a ((a, oe) :: pn)) (.builtin "isinstance") (rIsX K cls d a) := eK ▸ call_isX hz hf
section
variable {K : PySem.W.Frag} {γ δ : Gam} {te : TE} {a D : Addr}
theorem ev_isX1 {c : V} {cv : Value} {b : Bool} (h : EvD te γ (.hnd a)) (C : ExcC K D) (hcv : ∀ u, RelV c u → u = cv) (hk : PySem.W.kitOne K (.ref D) cv = some b) : EvD (tCB (rIsX K (.ref D) none a) (tCons te (tCons (tC c) tNil))) γ (.bl b) := fun H0 A H σ k Q q =>
  h H0 A H σ k _ fun v B H1 g1 r1 => by
    cases r1
    exact ⟨D, rfl, rfl, C, .inl ⟨c, cv, b, rfl, hcv, hk, q _ B H1 g1 (.bl b)⟩⟩
theorem ev_isXT {cs : List V} {us : List Value} {tr : TA} {b : Bool} (h : EvD te γ (.hnd a)) (C : ExcC K D) (hcs : ∀ σ H Q, Q cs H → tr σ H Q) (hp : Paired ClsV cs us) (hl : cs.length ≤ sizeLine) (hk : PySem.W.kitAny K (.ref D) us = some b) : EvD (tCB (rIsX K (.ref D) none a) (tCons te (tCons (tTup tr) tNil))) γ (.bl b) := fun H0 A H σ k Q q =>
  h H0 A H σ k _ fun v B H1 g1 r1 => by
    cases r1
    refine hcs σ H1 _ ⟨hl, fun p hp' => ?_⟩
    have g2 := Gr.newU (o := .tup cs) g1.sub hp'
    exact ⟨D, rfl, rfl, C, .inr ⟨p, cs, us, b, rfl, upd_same, hp, hk, q _ B _ (g1.trans g2) (.bl b)⟩⟩
end
/-- an own exception class, made with nothing -/
structure ExcOk (K : PySem.W.Frag) (mg : Str → Option Value) (x : Str) (C : Addr) : Prop where
  ex : PySem.W.excIn K C [.type "ValueError", .type "Exception", .type "BaseException", .type "object"] "ValueError.__new__" = true
  at_ : mg x = some (.ref C)
  kp : PySem.W.keepIn K (.ref C) = true
  sub : PySem.W.subIn K (.ref C) (.type "BaseException") = some true
  ty : PySem.W.typeIn K (.ref C) = some (.type "type")
end Fr
namespace Fr
open PySem PySem.Spec PyProof.Rows L2
/-! # a call by names that may raise -/
section
variable {X : Cx} {CX : CXT} {k : Nat} {f : Addr} {fd : FuncData} {ps ks : List Str} {js : List Nat} {sp : Sp} {x : Str} {p pos : Pos} {kws : List Keyword} {tk : TA}
def tCallWS (js : List Nat) (m : Nat) (sp : Sp) (E : L2.St → XK) (tk : TA) : TE := fun σ H Q => tk σ H fun zs H2 => zs.length = m ∧ sp (pick js zs) H2 Q (E σ)
theorem pe_callKS {E : L2.St → XK} (F : FnOk X.prog X.w X.K X.mg X.base CX k f fd ps sp) (hr : Room k X.A) (hg : Gl X x) (hm : X.mg x = some (.ref f)) (hk : PySem.W.keepIn X.K (.ref f) = true) (hb : KwOk X.K fd ps ks js) (hx : ∀ σ, PassesAt CX X σ (E σ)) (hkw : PK X kws tk)
    (hall : (backToKw pos (keywordEach kws X.env)).all (·.1.isSome) = true := by rfl) (hks : (backToKw pos (keywordEach kws X.env)).filterMap (·.1) = ks := by rfl) (hdb : (x == ("__debug__" : Str)) = false := by decide)
    (hpl : ((backTo pos (starEach [] X.env)).any (·.1) || (backToKw pos (keywordEach kws X.env)).any (·.1.isNone)) = false := by rfl) :
    PE X (.Call (.Name x p) [] kws pos) (tCallWS js ks.length sp E tk) := by
  refine ⟨fun pins s σ H Q I h => ?_⟩
  refine wpAny_Call_Name_kw (ld_glob I hg hm ?_ hdb)
  refine PySem.W.callWith_KW0 (h₀ := X.base) I.ok.mod.kin hk hall ?_ hpl
  refine thn (hkw.run pos pins s σ H _ I h) fun ws s2 ⟨zs, H2, I2, rz, l2, q2⟩ => ⟨I2.kIn, ?_⟩
  rw [hks]
  have r2 := KBn.rel hb (vs := []) (us := []) .nil rz
  refine wpAny_call (codeAny_mono (F.run X.A X.stack s2 H2 ⟨[], ks.zip ws⟩ (pick js ws) (pick js zs) Q (E σ) hr I2.env0 (KBn.to hb s2 [] ws I2.kIn rfl (rz.length.symm.trans l2)) r2 q2) fun r s' hq => ?_)
  cases r with
  | error e => exact hx σ pins H2 s2 e s' I2 hq
  | ok fl =>
    cases fl with
    | ret u => exact I2.after hq
    | next => exact False.elim hq
    | brk => exact False.elim hq
    | cont => exact False.elim hq
end
section
variable {K : PySem.W.Frag} {γ δ : Gam} {tk : TA} {js : List Nat} {x z : Dat} {xs : List Dat} {W : WX} {cls : Value} {R : List Dat → Dat → Prop} {RE : List Dat → Value → Prop} {m : Nat}
theorem ev_callWB {E : L2.St → XK} (h : EvA tk γ xs) (hR : R (pick js xs) z) (hm : xs.length = m) : EvD (tCallWS js m (PrB R RE) E tk) γ z := fun H0 A H σ k Q q =>
  h H0 A H σ k _ fun vs B H1 g1 r1 => ⟨by rw [r1.len]; exact hm, .inl ⟨B, pick js xs, z, g1.sub, reps_pick r1 js, hR, fun v C H2 g2 r2 => q v C H2 (g1.trans g2) r2⟩⟩
theorem ee_callW (h : EvA tk γ xs) (hR : RE (pick js xs) cls) (hm : xs.length = m) : EvE (tCallWS js m (PrB R RE) (WE W) tk) W γ cls := fun H0 A H σ k Q q =>
  h H0 A H σ k _ fun vs B H1 g1 r1 => ⟨by rw [r1.len]; exact hm, .inr ⟨B, pick js xs, cls, g1.sub, reps_pick r1 js, hR, fun C H2 g2 => q C H2 (g1.trans g2)⟩⟩
theorem ete_truth {K : PySem.W.Frag} {te : TE} (h : EvE te W γ cls) : EvTE (fun σ H Q => te σ H fun x H' => ∃ k, TruV K x H' k ∧ Q k H') W γ cls := fun H0 A H σ k Q q => h H0 A H σ k _ q
end
end Fr

set_option Elab.async false
set_option linter.all false
set_option maxRecDepth 100000
set_option maxHeartbeats 4000000
namespace PySem
namespace FrKw
open PySem.W PySem.Calls PyProof.Rows PySem.HandSPX
/-! # an own exception class that is made with keywords -/
section
variable {pg : Program} {wd : World} {Ar : Around} {Ex : Value → Shared → Prop} {Rs : Result → Shared → Prop} {hp : Heap} {gs : Array GenState} {dr : Drawn} {tk : Nat} {oS : OsState}
variable {nm qn : Str} {C N : Addr} {bs bm bmB : List Value} {hdct : Bool} {sn : List Str} {sub : List Value} {ab : Bool} {col : Option Bool} {dd : Option Addr} {k0 k1 k2 k3 k5 : Option Value} {B newId initId : String}
variable {us : List Value} {kw : List (Str × Value)}
theorem kw_check (F : ExcBaseFacts B newId initId bmB) (hT : ∀ Y : String, bm.contains (.type Y) = bmB.contains (.type Y)) {M : Model} {Q : Unit → Shared → Prop}
    (hC : hp.get? C = some (excClassObj nm qn C N bs bm hdct sn sub ab col dd k0 k1 k2 k3 k5 newId))
    (hq : Q () ⟨hp, gs, dr, tk, oS⟩) : wpAny M Ar (checkBuiltinCall newId ⟨.ref C :: us, kw⟩) Q Ex ⟨hp, gs, dr, tk, oS⟩ := by
  have has : (Value.ref C :: bm).contains (.type B) = true := by
    rw [List.contains_cons, hT, F.hasB, Bool.or_true]
  have star := F.noStar
  simp only [checkBuiltinCall, F.newKind, F.newSplit, F.newRow]
  repeat (first
    | refine wpAny_loadPart_at hC ?_
    | (refine wpAny_isSubtype_exc hC ?_; rw [has])
    | refine wpAny_staticBase_exc hC ?_
    | refine wpAny_madeBy_exc hC ?_
    | simp only [bne_self_eq_false, Bool.false_eq_true, if_false]
    | wp_step)
  exact hq
theorem kw_new (F : ExcBaseFacts B newId initId bmB) (hT : ∀ Y : String, bm.contains (.type Y) = bmB.contains (.type Y))
    (hC : hp.get? C = some (excClassObj nm qn C N bs bm hdct sn sub ab col dd k0 k1 k2 k3 k5 newId)) (hl : us.length ≤ sizeLine)
    (hq : Rs (.ok (.ret (.ref (hp.objs.size + 1)))) ⟨(hp.push (W.kdv_tup us)).push (excO C hp.objs.size), gs, dr, tk, oS⟩) :
    codeAny (model pg wd) Ar (.builtin newId ⟨.ref C :: us, kw⟩) Rs ⟨hp, gs, dr, tk, oS⟩ := by
  have ends := F.ends
  have c1 : (Value.ref C :: bm).contains (.type B) = true := by
    rw [List.contains_cons, hT, F.hasB, Bool.or_true]
  have c2 : (Value.ref C :: bm).contains (.type "AttributeError") = false := by
    rw [List.contains_cons, hT, F.noAttr]
    rfl
  have c3 : (Value.ref C :: bm).contains (.type "NameError") = false := by
    rw [List.contains_cons, hT, F.noName]
    rfl
  refine codeAny_builtinAt F.entry ?_
  unfold Builtin.«BaseException.__new__»
  refine wpAt_bind ?_
  show wpAt _ _ _ (stack >>= _) _ _ _
  refine wpAt_bind (wpAt_stack fun p below => wpAt_of_wpAny ?_)
  wp_walk
  refine wpAt_of_wpAny ?_
  rw [F.owner]
  repeat (first
    | with_reducible refine wpAny_madeHere_exc F.canon hC ?_
    | with_reducible refine wpAny_loadPart_at hC ?_
    | (with_reducible refine wpAny_isSubtype_exc hC ?_; first | rw [c1] | rw [c2] | rw [c3])
    | wp_step)
  show Rs _ _
  rw [Heap.size_push]
  exact hq
theorem kw_type (F : ExcBaseFacts B newId initId bmB) (hT : ∀ Y : String, bm.contains (.type Y) = bmB.contains (.type Y)) {fI : Addr} {Q : Fin → Shared → Prop}
    (hC : hp.get? C = some (excClassObj nm qn C N bs bm hdct sn sub ab col dd k0 k1 k2 k3 k5 newId)) (hl : us.length ≤ sizeLine)
    (hi : W.Looks (model pg wd) hp (typeLookup (.ref C) "__init__") (some (.ref fI))) (hb : ∀ o, W.Looks (model pg wd) hp (bindSpecial (.ref fI) o) (.ref fI, [o]))
    (hq : codeAny (model pg wd) Ar (.call (.ref fI) ⟨.ref (hp.objs.size + 1) :: us, kw⟩) (fun r s' => match r with
        | .ok (.ret v) => v = .none ∧ Q (.done (.ret (.ref (hp.objs.size + 1)))) s'
        | .ok _ => False
        | .error e => Ex e s') ⟨(hp.push (W.kdv_tup us)).push (excO C hp.objs.size), gs, dr, tk, oS⟩) :
    wpAny (model pg wd) Ar (Builtin.«type.__call__» ⟨.ref C :: us, kw⟩) Q Ex ⟨hp, gs, dr, tk, oS⟩ := by
  repeat (first
    | with_reducible refine wpAny_loadPart_at hC ?_
    | with_reducible refine wpAny_madeBy_exc hC ?_
    | wp_step)
  refine codeAny_call_builtin_code (Code.quiet_builtin _ F.quiet) (kw_check F hT hC ?_)
  refine kw_new F hT hC hl ?_
  show wpAny _ _ _ _ _ _
  have up : ∀ b o, hp.get? b = some o → ((hp.push (W.kdv_tup us)).push (excO C hp.objs.size)).get? b = some o := fun b o e => Heap.get?_push_of_some _ (Heap.get?_push_of_some _ e)
  have hC1 := up _ _ hC
  have at1 : ((hp.push (W.kdv_tup us)).push (excO C hp.objs.size)).get? (hp.objs.size + 1) = some (excO C hp.objs.size) := by
    heap_get
  have cc : (Value.ref C :: bm).contains (.ref C) = true := by
    simp
  have i1 := hi.keeps up
  have b1 := (hb (.ref (hp.objs.size + 1))).keeps up
  unfold isInstance
  repeat (first
    | with_reducible refine wpAny_loadPart_at at1 ?_
    | (with_reducible refine wpAny_isSubtype_exc hC1 ?_; rw [cc])
    | wp_step)
  show wpAny _ _ (typeLookup (.ref C) _) _ _ _
  refine i1.at ?_
  refine wpAny_holding (wpAny_bind (b1.at ?_))
  refine wpAny_bind (wpAny_call (codeAny_mono hq fun r s' z => ?_))
  rcases r with e | (v | _ | _ | _) <;> first | exact z | exact z.elim | skip
  obtain ⟨rfl, z⟩ := z
  first
    | exact wpAny_pure (wpAny_pure z)
    | (wp_walk; exact z)
theorem kw_own (F : ExcBaseFacts B newId initId bmB) (hT : ∀ Y : String, bm.contains (.type Y) = bmB.contains (.type Y)) {fI : Addr}
    (hC : hp.get? C = some (excClassObj nm qn C N bs bm hdct sn sub ab col dd k0 k1 k2 k3 k5 newId)) (hl : us.length ≤ sizeLine)
    (hi : W.Looks (model pg wd) hp (typeLookup (.ref C) "__init__") (some (.ref fI))) (hb : ∀ o, W.Looks (model pg wd) hp (bindSpecial (.ref fI) o) (.ref fI, [o]))
    (hq : codeAny (model pg wd) (Ar.under (.builtin "type.__call__" ⟨.ref C :: us, kw⟩)) (.call (.ref fI) ⟨.ref (hp.objs.size + 1) :: us, kw⟩) (W.InitBack (hp.objs.size + 1) Rs)
      ⟨(hp.push (W.kdv_tup us)).push (excO C hp.objs.size), gs, dr, tk, oS⟩) :
    codeAny (model pg wd) Ar (.call (.ref C) ⟨us, kw⟩) Rs ⟨hp, gs, dr, tk, oS⟩ := by
  have f1 := tc_lookup
  have f2 := tc_bind (.ref C)
  have ty : (⟨hp, gs, dr, tk, oS⟩ : Shared).TypeIs (.ref C) "type" := ⟨_, hC, rfl⟩
  refine codeAny_of_tree ?_
  show wpAny _ _ (callAny (.ref C) _) _ _ _
  repeat (any_goals (first
    | assumption
    | with_reducible refine wpAny_loadPart_at hC ?_
    | wp_step))
  refine ⟨rfl, ?_⟩
  refine codeAny_call_builtin_at (Code.quiet_builtin _ (by decide +kernel)) entry_typeCall (wpAny_check_type_call_sub hC (kw_type F hT hC hl hi hb ?_))
  refine codeAny_mono hq fun r s' z => ?_
  rcases r with e | (v | _ | _ | _) <;> exact z
end
end FrKw
end PySem
namespace Fr
open PySem PySem.Spec PyProof.Rows L2 HotX
open Evl (Ex)
/-! # a def that is called within an except suite and told of the exception there -/
structure FnP (P : Program) (w : World) (K : PySem.W.Frag) (mg : Str → Option Value) (base : Heap) (CX : CXT) (k : Nat) (f : Addr) (fd : FuncData) (ps : List Str) (sp : Addr → Value → Option Addr → Sp) : Prop where
  len : ∀ a c d vs H Q E, sp a c d vs H Q E → vs.length = ps.length
  run : ∀ (A : Around) (outer : List PySem.Env) (s : Shared) (H : Hp) (args : Args) (us : List Value) (vs : List V) (Q : VK) (E : XK) (p : Addr × Obj) (c : Value) (d : Option Addr), L2H.RoomH k A → L2H.Hot1 A p → L2H.PinOk outer H s p → Zc c d p.2 →
    Env0 P w K mg base A outer s H → BindsTo s fd args (ps.zip us) → Vals vs us → sp p.1 c d vs H Q E → codeAny (model P w) A (.call (.ref f) args) (CR CX outer P w H s Q E) s
section
variable {CX : CXT} {P : Program} {w : World} {K : PySem.W.Frag} {mg : Str → Option Value} {base : Heap}
theorem fnP_of {k : Nat} {x qual : Str} {st : Stmt} {f : Addr} {fd : FuncData} {N ps : List Str} {sp : Addr → Value → Option Addr → Sp} (F : Fun K x qual st f fd) (S : FnScope N ps (defScope st)) (len : ∀ a c d vs H Q E, sp a c d vs H Q E → vs.length = ps.length)
    (hbody : ∀ (cdv : Value) (A : Around) (outer : List PySem.Env) (s : Shared) (H : Hp) (vs : List V) (Q : VK) (E : XK) (p : Addr × Obj) (c : Value) (d : Option Addr), L2H.Hot1 A p → Zc c d p.2 → L2H.RoomH k (A.deeper (envOfC qual (defScope st) s.heap.objs.size f cdv)) → sp p.1 c d vs H Q E →
      ∃ t, PSs (L2H.cxH CX P w K mg base N qual (defScope st) f cdv A outer s H E p) (defBody st) t ∧ t { nx := fun _ H' => Q .non H', rt := Q } (L2.start N vs) H) :
    FnP P w K mg base CX (k + 1) f fd ps sp := by
  obtain ⟨oc, od, kV, doc, pm, an, cdv, ct, osl, rfl, lk, hcd⟩ := F.ex
  refine ⟨len, fun A outer s H args us vs Q E p c d hr hot hp hz e0 hb r hsp => ?_⟩
  have l0 := len _ _ _ _ _ _ _ hsp
  have kin : K.In s.heap := e0.mod.kin.keeps fun b o e => (e0.bs b o e).1
  have kinds : ∀ y ∈ ps.zip us, (defScope st).names.lookup y.1 = some .local ∨
      ((defScope st).names.lookup y.1 = some .cell ∧ ((cellsFrom (s.heap.objs.size + 1) (defScope st).names []).lookup y.1).isSome = true) := by
    rintro ⟨n, v⟩ hy
    rcases S.par n (List.of_mem_zip hy).1 with q | q
    · exact .inl q
    · exact .inr ⟨q, PySem.W.cellsFrom_some _ _ _ (.inl q)⟩
  refine codeAny_call_function hr.depth (kin _ _ lk) rfl S.co S.gen rfl (PySem.W.codeRec_of kin hcd) (hb _ _ _ _ ?_)
  refine wpAny_newFunctionEnv_cells S.kind kinds fun env he s1 x => ?_
  subst he
  have nl : s.heap.NoLimit := e0.mod.nolimit.keeps fun b o e => (e0.bs b o e).1
  refine ⟨nl.keeps x.toInCall.keep, codeAny_func ?_⟩
  obtain ⟨t, ht, hq⟩ := hbody cdv A outer s H vs Q E p c d hot hz (hr.deeper _) hsp
  refine wpAny_mono (ht.run [] s1 (L2.start N vs) H _ (L2H.inv_startH S hp e0 l0 r x) hq) (fun fl s' hs => ?_) fun e s' hs => hs
  cases fl with
  | ret u =>
    obtain ⟨v, _, H', J, rv, q⟩ := hs
    exact ⟨v, H', J.os, J.bare, J.base, J.hok, rv, q⟩
  | next =>
    obtain ⟨_, H', J, q⟩ := hs
    exact ⟨.non, H', J.os, J.bare, J.base, J.hok, rfl, q⟩
  | brk =>
    obtain ⟨_, _, _, q⟩ := hs
    exact q.elim
  | cont =>
    obtain ⟨_, _, _, q⟩ := hs
    exact q.elim
end
/-- f(e, ..) there -/
def tCallP (a : Addr) (c : Value) (d : Option Addr) (sp : Addr → Value → Option Addr → Sp) (t : TA) : TE := fun σ H Q => t σ H fun vs H1 => sp a c d vs H1 Q (fun _ _ _ => False)
section
variable {X : Cx} {CX : CXT} {k : Nat} {f : Addr} {fd : FuncData} {ps : List Str} {sp : Addr → Value → Option Addr → Sp} {x : Str} {q pos : Pos} {c : Value} {d : Option Addr} {e : Expr} {es : List Expr} {t : TA}
theorem pe_callP {p : Addr × Obj} (F : FnP X.prog X.w X.K X.mg X.base CX k f fd ps sp) (hr : L2H.RoomH k X.A) (hot : L2H.Hot1 X.A p) (hz : Zc c d p.2) (hp : p ∈ X.pn) (hg : Gl X x) (hm : X.mg x = some (.ref f)) (hk : PySem.W.keepIn X.K (.ref f) = true) (hb : Binds X.K fd ps [])
    (hx : ∀ σ, PassesAt CX X σ (fun _ _ _ => False)) (ha : PA X (e :: es) t) (hdb : (x == ("__debug__" : Str)) = false := by decide) (he : starEach (e :: es) X.env = (false, eval e X.env) :: starEach es X.env := by rfl) (hpl : (backTo pos (starEach es X.env)).any (·.1) = false := by rfl) :
    PE X (.Call (.Name x q) (e :: es) [] pos) (tCallP p.1 c d sp t) := by
  refine ⟨fun pins s σ H Q I h => ?_⟩
  refine wpAny_Call_Name_kw (ld_glob I hg hm ?_ hdb)
  refine PySem.W.callWith_K (h₀ := X.base) I.ok.mod.kin hk (thn (ha.run pos pins s σ H _ I h) ?_) he hpl
  rintro us s1 ⟨vs, H1, I1, r, z⟩
  refine ⟨I1.kIn, ?_⟩
  have l1 : us.length = ps.length := r.length.symm.trans (F.len _ _ _ _ _ _ _ z)
  have b := hb s1 us I1.kIn (by rw [List.append_nil]; exact l1)
  rw [List.append_nil] at b
  obtain ⟨p1, p2, p3, p4, p5⟩ := I1.pin p (List.mem_append_left _ hp)
  have pin : L2H.PinOk X.stack H1 s1 p := ⟨p1, p2, fun hm => (List.mem_cons.mp (I1.stkSub p.1 hm)).elim p3 p4, p5⟩
  refine wpAny_call (codeAny_mono (F.run X.A X.stack s1 H1 ⟨us, []⟩ us vs Q (fun _ _ _ => False) p c d hr hot pin hz I1.env0 b r z) fun r s' hq => ?_)
  cases r with
  | error e => exact hx σ pins H1 s1 e s' I1 hq
  | ok fl =>
    cases fl with
    | ret u => exact I1.after hq
    | next => exact False.elim hq
    | brk => exact False.elim hq
    | cont => exact False.elim hq
end
/-! # isinstance of an exception that is pinned -/
/-- its dict, if it has one, is tracked -/
def XD (H : Hp) (d : Option Addr) : Prop := d = none ∨ ∃ dd fs, d = some dd ∧ H dd = some (.xd fs)
theorem XD.up {H H' : Hp} {d : Option Addr} (h : XD H d) (e : Ex H H') : XD H' d := by
  rcases h with h | ⟨dd, fs, h1, h2⟩
  · exact .inl h
  · exact .inr ⟨dd, fs, h1, e _ _ h2⟩
/-- what isinstance asks of an exception's class -/
structure ExcD (K : PySem.W.Frag) (D : Addr) : Prop where
  c : ExcC K D
  cl : (PySem.W.clsIn K D).isSome = true
def rIsP (K : PySem.W.Frag) (a : Addr) (cls : Value) (d : Option Addr) : List V → Hp → VK → Prop := fun xs H Q => ∃ D, cls = .ref D ∧ ExcD K D ∧ XD H d ∧ ∃ (c : V) (cv : Value) (b : Bool), xs = [.ref a, c] ∧ (∀ u, RelV c u → u = cv) ∧ PySem.W.kitOne K (.ref D) cv = some b ∧ Q (.bl b) H
theorem call_isP {X : Cx} {p : Addr × Obj} {cls : Value} {d : Option Addr} (hp : p ∈ X.pn) (hz : Zc cls d p.2) (hf : ∃ vs, p.2.data = .fields vs) : CallR X (.builtin "isinstance") (rIsP X.K p.1 cls d) := by
  intro pins s σ H xs us Q I r h
  obtain ⟨D, rfl, C, xd, c, cv, b, rfl, hcv, e, q⟩ := h
  obtain ⟨v0, u0, rfl, rx, rt⟩ := vals2 r
  have e1 : v0 = Value.ref p.1 := rx
  subst e1
  have ec : u0 = cv := hcv _ rt
  obtain ⟨at0, _⟩ := I.pin p (List.mem_append.mpr (.inl hp))
  obtain ⟨vs, hv⟩ := hf
  obtain ⟨a, oe⟩ := p
  rw [ec]
  have fin : ∀ od, PySem.W.InstAt s.heap a oe D od → wpAny (model X.prog X.w) X.A (call (.builtin "isinstance") [.ref a, cv]) (EP X pins σ Q) X.xe s := fun od J =>
    PySem.W.kia_one (PySem.W.kitx_exc C.cl C.c.hg C.c.hk C.c.hs C.c.ha C.c.hn C.c.ht C.c.hm) I.kIn J e (fun z => nomatch z) fun tk => ⟨.bl b, H, I.kept (t' := tk) fun _ _ z => z, rfl, q⟩
  have hno : PySem.W.notCls oe = true := by
    show PySem.W.notCls oe = true
    unfold PySem.W.notCls
    rw [hv]
  have hdd : oe.dict = d := hz.2
  rcases xd with rfl | ⟨dd, fs, rfl, hd⟩
  · refine fin none ⟨at0, hz.1, hno, ?_⟩
    rw [hdd]
    trivial
  · have ok : ObjOk X.prog X.w H s.heap dd (.xd fs) := I.hok dd _ hd
    obtain ⟨mA, hns, hr⟩ := ok
    obtain ⟨od, ho, _⟩ := lookIn_ns hns
    refine fin (some od) ⟨at0, hz.1, hno, ?_⟩
    rw [hdd]
    exact ho
theorem call_isPK {X : Cx} {K : PySem.W.Frag} (eK : X.K = K) {p : Addr × Obj} {cls : Value} {d : Option Addr} (hp : p ∈ X.pn) (hz : Zc cls d p.2) (hf : ∃ vs, p.2.data = .fields vs) : CallR X (.builtin "isinstance") (rIsP K p.1 cls d) := eK ▸ call_isP hp hz hf
theorem hot_of {A : Around} {a : Addr} {oe : Obj} {cls : Value} {d : Option Addr} (hz : L2N.Zn cls d oe) (hf : ∃ vs, oe.data = .fields vs) : L2H.Hot1 (A.mark (some (.ref a))) (a, oe) := by
  obtain ⟨vs, h⟩ := hf
  exact ⟨rfl, vs, h, hz.2.2 vs h⟩
theorem roomH_mark {k : Nat} {A : Around} {v : Option Value} (r : Room k A) : L2H.RoomH k (A.mark v) := ⟨r.dp, r.un⟩
theorem takes0N {X : Cx} : L2N.Takes X (fun _ _ _ _ => False) := fun _ _ x => by
  obtain ⟨_, _, _, _, _, _, _, _, _, _, _, _, _, _, _, _, z⟩ := x
  exact z.elim
end Fr

set_option Elab.async false
set_option linter.all false
set_option maxRecDepth 100000
set_option maxHeartbeats 4000000
namespace Fr
open PySem PySem.Spec PyProof.Rows L2
open Evl (Ex)
/-! # a store: lists and instances that change, by their addresses -/
inductive Cell where
  | lst (xs : List Dat) | ins (C dx : Addr) (fs : List (Str × Dat))
abbrev Sto := Addr → Option Cell
def Sto.put (S : Sto) (p : Addr) (c : Cell) : Sto := fun a => if a = p then some c else S a
theorem Sto.put_same {S : Sto} {p : Addr} {c : Cell} : S.put p c p = some c := if_pos rfl
theorem Sto.put_ne {S : Sto} {p a : Addr} {c : Cell} (h : a ≠ p) : S.put p c a = S a := if_neg h
/-- a cell lies in the base's heap, hidden; what it holds is data by now -/
def CellOk (A0 H0 A : Hp) (p : Addr) : Cell → Prop
  | .lst xs => ∃ vs, H0 p = some (.lst vs) ∧ A0 p = none ∧ Reps A vs xs
  | .ins C dx fs => ∃ kvs, H0 p = some (.ins C dx kvs) ∧ A0 p = none ∧ RepsF A kvs fs
def StS (S : Sto) (A0 H0 A : Hp) : Prop := ∀ p c, S p = some c → CellOk A0 H0 A p c
theorem CellOk.some {A0 H0 A : Hp} {p : Addr} {c : Cell} (h : CellOk A0 H0 A p c) : ∃ o, H0 p = some o ∧ NT o ∧ A0 p = none := by
  cases c with
  | lst xs =>
    obtain ⟨vs, a, b, _⟩ := h
    exact ⟨_, a, True.intro, b⟩
  | ins C dx fs =>
    obtain ⟨kvs, a, b, _⟩ := h
    exact ⟨_, a, True.intro, b⟩
theorem CellOk.at {A0 H0 A A1 H1 B : Hp} {p : Addr} {c : Cell} (h : CellOk A0 H0 A p c) (e : H1 p = H0 p) (n : A1 p = none) (v : Ex A B) : CellOk A1 H1 B p c := by
  cases c with
  | lst xs =>
    obtain ⟨vs, a, b, r⟩ := h
    exact ⟨vs, e.trans a, n, r.mono v⟩
  | ins C dx fs =>
    obtain ⟨kvs, a, b, r⟩ := h
    exact ⟨kvs, e.trans a, n, r.mono v⟩
theorem StS.mono {S : Sto} {A0 H0 A B : Hp} (h : StS S A0 H0 A) (v : Ex A B) : StS S A0 H0 B := fun p c e =>
  (h p c e).at rfl (h p c e).some.choose_spec.2.2 v
/-- how base and store go on -/
structure Evo (S : Sto) (H0 : Hp) (T : Sto) (H1 : Hp) : Prop where
  same : ∀ a, S a = none → T a = none → H1 a = H0 a
  keep : ∀ a, T a = none → S a = none
  new : ∀ a, S a = none → T a ≠ none → H0 a = none
theorem Evo.refl {S : Sto} {H0 : Hp} : Evo S H0 S H0 := ⟨fun _ _ _ => rfl, fun _ h => h, fun _ h n => absurd h n⟩
theorem Evo.trans {S T U : Sto} {H0 H1 H2 : Hp} (a : Evo S H0 T H1) (b : Evo T H1 U H2) : Evo S H0 U H2 := by
  refine ⟨fun x s u => ?_, fun x u => a.keep x (b.keep x u), fun x s u => ?_⟩
  · have t := b.keep x u
    exact (b.same x t u).trans (a.same x s t)
  · cases t : T x with
    | none => exact (a.same x s t).symm.trans (b.new x t u)
    | some c => exact a.new x s (by rw [t]; exact fun z => nomatch z)
theorem Gr.rebase {A0 H0 A H : Hp} (g : Gr A0 H0 A H) : Gr A H0 A H := ⟨g.up, Ex.refl A, g.sub, fun _ _ _ _ h => h⟩
theorem Gr.unbase {A0 H0 A H B H' : Hp} (g : Gr A0 H0 A H) (h : Gr A H0 B H') : Gr A0 H0 B H' := ⟨h.up, g.view.trans h.view, h.sub, fun a o e m n => h.hid a o e m (g.hid a o e m n)⟩
/-- the store, as one who is called finds it -/
theorem StS.enter {S : Sto} {A0 H0 A H : Hp} (h : StS S A0 H0 A) (g : Gr A0 H0 A H) : StS S A H A := fun p c e => by
  obtain ⟨o, h1, nt, h2⟩ := (h p c e).some
  exact (h p c e).at ((g.up p o h1).trans h1.symm) (g.hid p o h1 nt h2) (Ex.refl A)
/-- the base behind a call -/
def back (T : Sto) (H0 H1 : Hp) : Hp := fun a => match T a with
  | some _ => H1 a
  | none => H0 a
theorem back_none {T : Sto} {H0 H1 : Hp} {a : Addr} (h : T a = none) : back T H0 H1 a = H0 a := by unfold back; rw [h]
theorem back_some {T : Sto} {H0 H1 : Hp} {a : Addr} {c : Cell} (h : T a = some c) : back T H0 H1 a = H1 a := by unfold back; rw [h]
section
variable {S T : Sto} {A0 H0 A H H1 B H' : Hp} {σ : L2.St} {γ : Gam}
theorem Evo.leave (g : Gr A0 H0 A H) (e : Evo S H T H1) : Evo S H0 T (back T H0 H1) :=
  ⟨fun a s t => back_none t, e.keep, fun a s t => Evl.fresh_back g.up (e.new a s t)⟩
theorem Gr.leave (g : Gr A0 H0 A H) (e : Evo S H T H1) (b : Gr A H1 B H') (st : StS T A H1 B) : Gr A0 (back T H0 H1) B H' := by
  refine ⟨fun a o h => ?_, g.view.trans b.view, b.sub, fun a o h nt n => ?_⟩
  · cases t : T a with
    | some c =>
      rw [back_some t] at h
      exact b.up a o h
    | none =>
      rw [back_none t] at h
      exact b.up a o ((e.same a (e.keep a t) t).trans (g.up a o h))
  · cases t : T a with
    | some c =>
      rw [back_some t] at h
      exact b.hid a o h nt (st a c t).some.choose_spec.2.2
    | none =>
      rw [back_none t] at h
      exact b.hid a o ((e.same a (e.keep a t) t).trans (g.up a o h)) nt (g.hid a o h nt n)
theorem StS.leave (g : Gr A0 H0 A H) (st : StS T A H1 B) : StS T A0 (back T H0 H1) B := fun p c e => (st p c e).at (back_some e) (by
  have n := (st p c e).some.choose_spec.2.2
  exact Evl.fresh_back g.view n) (Ex.refl B)
theorem Ok.leave (k : Ok H0 A H σ γ) (s : StS S A0 H0 A) (e : Evo S H T H1) (b : Gr A H1 B H') : Ok (back T H0 H1) B H' σ γ := by
  have far : ∀ (l : Addr) (o : HO), NT o → H0 l = none → A l = none → H l = some o → back T H0 H1 l = none ∧ B l = none ∧ H' l = some o := fun l o nt h0 hA h => by
    have sl : S l = none := by
      cases q : S l with
      | none => rfl
      | some c =>
        obtain ⟨o', h1, _⟩ := (s l c q).some
        rw [h0] at h1
        cases h1
    have tl : T l = none := by
      cases q : T l with
      | none => rfl
      | some c =>
        have := e.new l sl (by rw [q]; exact fun z => nomatch z)
        rw [h] at this
        cases this
    have h1 : H1 l = some o := (e.same l sl tl).trans h
    exact ⟨(back_none tl).trans h0, b.hid l o h1 nt hA, b.up l o h1⟩
  refine ⟨b.sub, k.len, fun i x h => ?_, fun i xs h => ?_, fun i es h => ?_, fun i c xs h => ?_, fun i K ns h => ?_, k.sep⟩
  · obtain ⟨v, a, r⟩ := k.get i x h
    exact ⟨v, a, r.mono b.view⟩
  · obtain ⟨l, vs, a, h0, c, d, r⟩ := k.own i xs h
    obtain ⟨x1, x2, x3⟩ := far l (.lst vs) True.intro h0 c d
    exact ⟨l, vs, a, x1, x2, x3, r.mono b.view⟩
  · obtain ⟨l, vs, a, h0, c, d, r⟩ := k.ownD i es h
    obtain ⟨x1, x2, x3⟩ := far l (.dT vs) True.intro h0 c d
    exact ⟨l, vs, a, x1, x2, x3, r.mono b.view⟩
  · obtain ⟨vs, a, h0, c', d, r⟩ := k.bor i c xs h
    obtain ⟨x1, x2, x3⟩ := far c (.lst vs) True.intro h0 c' d
    exact ⟨vs, a, x1, x2, x3, r.mono b.view⟩
  · obtain ⟨a, h1, h2⟩ := k.scr i K ns h
    exact ⟨a, h1, Evl.ex_l b.view h2⟩
end
/-! ## the judgements -/
/-- what holds at a place: base, view, heap, slots, store -/
structure At (A0 H0 A H : Hp) (σ : L2.St) (γ : Gam) (S : Sto) : Prop where
  g : Gr A0 H0 A H
  k : Ok H0 A H σ γ
  s : StS S A0 H0 A
/-- from one place to another one of the same frame -/
structure Way (A0 : Hp) (S : Sto) (H0 A : Hp) (T : Sto) (H1 B : Hp) : Prop where
  e : Evo S H0 T H1
  v : Ex A B
theorem Way.refl {A0 : Hp} {S : Sto} {H0 A : Hp} : Way A0 S H0 A S H0 A := ⟨Evo.refl, Ex.refl A⟩
theorem Way.trans {A0 : Hp} {S T U : Sto} {H0 A H1 B H2 C : Hp} (a : Way A0 S H0 A T H1 B) (b : Way A0 T H1 B U H2 C) : Way A0 S H0 A U H2 C := ⟨a.e.trans b.e, a.v.trans b.v⟩
def RunS (ts : TS) (γ : Gam) (S : Sto) (N : Gam → Sto → Prop) (R : Dat → Sto → Prop) : Prop := ∀ A0 H0 A H σ, At A0 H0 A H σ γ S → ∀ D : Ends,
  (∀ δ T H1 B H' σ', N δ T → Way A0 S H0 A T H1 B → At A0 H1 B H' σ' δ T → D.nx σ' H') →
  (∀ v x T H1 B H', R x T → Way A0 S H0 A T H1 B → Gr A0 H1 B H' → StS T A0 H1 B → Rep B v x → D.rt v H') → ts D σ H
/-- a value, and the store behind it -/
def ExS (te : TE) (γ : Gam) (S : Sto) (P : Dat → Sto → Prop) : Prop := ∀ A0 H0 A H σ, At A0 H0 A H σ γ S → ∀ Q : VK,
  (∀ v x T H1 B H', P x T → Way A0 S H0 A T H1 B → At A0 H1 B H' σ γ T → Rep B v x → Q v H') → te σ H Q
def ExSA (ta : TA) (γ : Gam) (S : Sto) (P : List Dat → Sto → Prop) : Prop := ∀ A0 H0 A H σ, At A0 H0 A H σ γ S → ∀ Q : List V → Hp → Prop,
  (∀ vs xs T H1 B H', P xs T → Way A0 S H0 A T H1 B → At A0 H1 B H' σ γ T → Reps B vs xs → Q vs H') → ta σ H Q
/-- a test, and the store behind it -/
def ExST (tt : TT) (γ : Gam) (S : Sto) (P : Bool → Sto → Prop) : Prop := ∀ A0 H0 A H σ, At A0 H0 A H σ γ S → ∀ Q : Bool → Hp → Prop,
  (∀ b T H1 B H', P b T → Way A0 S H0 A T H1 B → At A0 H1 B H' σ γ T → Q b H') → tt σ H Q
section
variable {K : PySem.W.Frag} {γ δ : Gam} {S T : Sto} {te ta tb : TE} {tr : TA} {tt : TT} {ts tu tw : TS} {x y : Dat} {xs ys : List Dat} {N M : Gam → Sto → Prop} {R : Dat → Sto → Prop} {P : Dat → Sto → Prop} {PA : List Dat → Sto → Prop} {PT : Bool → Sto → Prop} {i : Nat}
theorem At.grow {A0 H0 A H B H' : Hp} {σ : L2.St} (a : At A0 H0 A H σ γ S) (g : Gr A H B H') : At A0 H0 B H' σ γ S := ⟨a.g.trans g, a.k.mono g, a.s.mono g.view⟩
/-- what leaves the store alone -/
theorem run_lift {N' : Gam → Prop} {R' : Dat → Gam → Prop} (h : Run tu γ N' R') (hn : ∀ δ, N' δ → N δ S) (hr : ∀ x δ, R' x δ → R x S) : RunS tu γ S N R := fun A0 H0 A H σ a D dn dr =>
  h A H0 A H σ a.g.rebase a.k D (fun δ B H' σ' n g v k => dn δ S H0 B H' σ' (hn δ n) ⟨Evo.refl, v⟩ ⟨a.g.unbase g, k, a.s.mono v⟩)
    fun v B H' x σ' δ r g k rx => dr v x S H0 B H' (hr x δ r) ⟨Evo.refl, g.view⟩ (a.g.unbase g) (a.s.mono g.view) rx
theorem runS_seq (h : RunS tu γ S M R) (hk : ∀ δ T, M δ T → RunS tw δ T N R) : RunS (tSeq tu tw) γ S N R := fun A0 H0 A H σ a D dn dr =>
  h A0 H0 A H σ a { D with nx := tw D } (fun δ T H1 B H' σ' m w a' => hk δ T m A0 H1 B H' σ' a' D (fun δ2 T2 H2 B2 H3 σ2 n w2 a2 => dn δ2 T2 H2 B2 H3 σ2 n (w.trans w2) a2)
    fun v x T2 H2 B2 H3 r w2 g2 s2 rx => dr v x T2 H2 B2 H3 r (w.trans w2) g2 s2 rx) dr
/-- a statement that leaves the store alone and goes one way on -/
theorem runS_l (h : Run tu γ (fun ε => ε = δ) (fun _ _ => False)) (hk : RunS tw δ S N R) : RunS (tSeq tu tw) γ S N R :=
  runS_seq (M := fun ε U => ε = δ ∧ U = S) (run_lift h (fun _ e => ⟨e, rfl⟩) fun _ _ z => z.elim) fun ε U ⟨e1, e2⟩ => by subst e1 e2; exact hk
theorem runS_next (h : N γ S) : RunS tNext γ S N R := fun A0 H0 A H σ a D dn dr => dn γ S H0 A H σ h Way.refl a
theorem es_of (h : EvD te γ x) (hp : P x S) : ExS te γ S P := fun A0 H0 A H σ a Q q => h H0 A H σ a.k _ fun v B H' g r => q v x S H0 B H' hp ⟨Evo.refl, g.view⟩ (a.grow g) r
theorem esa_nil (h : PA [] S) : ExSA tNil γ S PA := fun A0 H0 A H σ a Q q => q [] [] S H0 A H h Way.refl a .nil
theorem esa_cons (h : ExS te γ S fun x T => ExSA tr γ T fun xs U => PA (x :: xs) U) : ExSA (tCons te tr) γ S PA := fun A0 H0 A H σ a Q q =>
  h A0 H0 A H σ a _ fun v x T H1 B H' hx w a1 r => hx A0 H1 B H' σ a1 _ fun vs xs U H2 C H'' p w2 a2 r2 => q _ _ U H2 C H'' p (w.trans w2) a2 (.cons (r.mono w2.v) r2)
theorem esa_of (h : EvA tr γ xs) (hp : PA xs S) : ExSA tr γ S PA := fun A0 H0 A H σ a Q q => h H0 A H σ a.k _ fun v B H' g r => q v xs S H0 B H' hp ⟨Evo.refl, g.view⟩ (a.grow g) r
theorem est_of {b : Bool} (h : EvT tt γ b) (hp : PT b S) : ExST tt γ S PT := fun A0 H0 A H σ a Q q => h H0 A H σ a.k _ fun B H' g => q b S H0 B H' hp ⟨Evo.refl, g.view⟩ (a.grow g)
theorem ExS.weak {P' : Dat → Sto → Prop} (h : ExS te γ S P) (hp : ∀ x T, P x T → P' x T) : ExS te γ S P' := fun A0 H0 A H σ a Q q => h A0 H0 A H σ a Q fun v x T H1 B H' p => q v x T H1 B H' (hp x T p)
theorem runS_asg (h : ExS te γ S fun x T => N (γ.set i (.d x)) T) : RunS (tAsg te (gName i)) γ S N R := fun A0 H0 A H σ a D dn dr =>
  h A0 H0 A H σ a _ fun v x T H1 B H' n w a1 r => dn _ T H1 B H' _ n w ⟨a1.g, a1.k.setD r i, a1.s⟩
theorem runS_drop (h : ExS te γ S fun _ T => N γ T) : RunS (tDrop te) γ S N R := fun A0 H0 A H σ a D dn dr => h A0 H0 A H σ a _ fun v x T H1 B H' n w a1 r => dn γ T H1 B H' σ n w a1
theorem runS_ret (h : ExS te γ S R) : RunS (tRet te) γ S N R := fun A0 H0 A H σ a D dn dr => h A0 H0 A H σ a _ fun v x T H1 B H' p w a1 r => dr v x T H1 B H' p w a1.g a1.s r
theorem runS_if (h : ExST tt γ S fun b T => (b = true → RunS tu γ T N R) ∧ (b = false → RunS tw γ T N R)) : RunS (tIfS tt tu tw) γ S N R := fun A0 H0 A H σ a D dn dr =>
  h A0 H0 A H σ a _ fun b T H1 B H' p w a1 => by
    have dn' : ∀ δ U H2 C H3 σ', N δ U → Way A0 T H1 B U H2 C → At A0 H2 C H3 σ' δ U → D.nx σ' H3 := fun δ U H2 C H3 σ' n w2 a2 => dn δ U H2 C H3 σ' n (w.trans w2) a2
    have dr' : ∀ v x U H2 C H3, R x U → Way A0 T H1 B U H2 C → Gr A0 H2 C H3 → StS U A0 H2 C → Rep C v x → D.rt v H3 := fun v x U H2 C H3 r w2 g2 s2 rx => dr v x U H2 C H3 r (w.trans w2) g2 s2 rx
    cases b with
    | true => exact p.1 rfl A0 H1 B H' σ a1 D dn' dr'
    | false => exact p.2 rfl A0 H1 B H' σ a1 D dn' dr'
theorem RunS.weak {N' : Gam → Sto → Prop} {R' : Dat → Sto → Prop} (h : RunS tu γ S N R) (hn : ∀ δ T, N δ T → N' δ T) (hr : ∀ x T, R x T → R' x T) : RunS tu γ S N' R' := fun A0 H0 A H σ a D dn dr =>
  h A0 H0 A H σ a D (fun δ T H1 B H' σ' n => dn δ T H1 B H' σ' (hn δ T n)) fun v x T H1 B H' r => dr v x T H1 B H' (hr x T r)
end
end Fr

set_option Elab.async false
set_option linter.all false
set_option maxRecDepth 100000
set_option maxHeartbeats 4000000
namespace Fr
open PySem PySem.Spec PyProof.Rows L2
open Evl (Ex)
/-! # what changes a store -/
section
variable {S T : Sto} {A0 H0 A H H1 B H' : Hp} {σ : L2.St} {γ : Gam}
theorem At.leave (a : At A0 H0 A H σ γ S) (e : Evo S H T H1) (b : Gr A H1 B H') (st : StS T A H1 B) : At A0 (back T H0 H1) B H' σ γ T ∧ Way A0 S H0 A T (back T H0 H1) B :=
  ⟨⟨a.g.leave e b st, a.k.leave a.s e b, StS.leave a.g st⟩, ⟨e.leave a.g, b.view⟩⟩
theorem At.cell {p : Addr} {c : Cell} (a : At A0 H0 A H σ γ S) (e : S p = some c) : CellOk A H A p c := a.s.enter a.g p c e
/-- a cell changes -/
theorem At.put {p : Addr} {c c' : Cell} {o : HO} (a : At A0 H0 A H σ γ S) (e : S p = some c) (hc : ∀ H1 : Hp, H1 p = some o → CellOk A H1 A p c') :
    ∃ H2, At A0 H2 A (upd H p o) σ γ (S.put p c') ∧ Way A0 S H0 A (S.put p c') H2 A := by
  obtain ⟨o', h1, nt, n⟩ := (a.cell e).some
  have ev : Evo S H (S.put p c') (upd H p o) := ⟨fun x s t => by
      have ne : x ≠ p := fun z => by rw [z, Sto.put_same] at t; cases t
      exact upd_ne ne, fun x t => by
      have ne : x ≠ p := fun z => by rw [z, Sto.put_same] at t; cases t
      rw [Sto.put_ne ne] at t
      exact t, fun x s t => by
      by_cases q : x = p
      · rw [q, e] at s
        cases s
      · rw [Sto.put_ne q] at t
        exact absurd s t⟩
  have st : StS (S.put p c') A (upd H p o) A := fun x d q => by
    by_cases z : x = p
    · subst z
      rw [Sto.put_same] at q
      cases q
      exact hc _ upd_same
    · rw [Sto.put_ne z] at q
      obtain ⟨_, _, _, n'⟩ := (a.cell q).some
      exact (a.cell q).at (upd_ne z) n' (Ex.refl A)
  exact ⟨_, a.leave ev (Gr.refl (a.g.sub.mut n)) st⟩
/-- a new object becomes a cell -/
theorem At.new {p : Addr} {c : Cell} {o : HO} (a : At A0 H0 A H σ γ S) (hH : H p = some o) (h0 : H0 p = none) (hA : A p = none) (hf : ∀ (i : Nat) (s : Slot), γ[i]? = some s → s.mine = true → σ[i]? ≠ some (some (V.ref p))) (hc : ∀ H1 : Hp, H1 p = some o → ∀ A1 : Hp, A1 p = none → CellOk A1 H1 A p c) :
    ∃ H2, At A0 H2 A H σ γ (S.put p c) ∧ Way A0 S H0 A (S.put p c) H2 A := by
  have sp : S p = none := by
    cases q : S p with
    | none => rfl
    | some d =>
      obtain ⟨o', h1, _⟩ := (a.s p d q).some
      rw [h0] at h1
      cases h1
  have aN : A0 p = none := Evl.fresh_back a.g.view hA
  have e0 : ∀ x, x ≠ p → upd H0 p o x = H0 x := fun x n => upd_ne n
  refine ⟨upd H0 p o, ⟨⟨fun x u e => ?_, a.g.view, a.g.sub, fun x u e nt n => ?_⟩, ?_, fun x d q => ?_⟩, ⟨⟨fun x s t => ?_, fun x t => ?_, fun x s t => ?_⟩, Ex.refl A⟩⟩
  · by_cases z : x = p
    · subst z
      rw [upd_same] at e
      rw [hH]
      exact e
    · rw [upd_ne z] at e
      exact a.g.up x u e
  · by_cases z : x = p
    · subst z
      exact hA
    · rw [upd_ne z] at e
      exact a.g.hid x u e nt n
  · have k := a.k
    have nep : ∀ (i : Nat) (s : Slot) (l : Addr), γ[i]? = some s → s.mine = true → σ[i]? = some (some (V.ref l)) → l ≠ p := fun i s l h m e z => hf i s h m (by rw [e, z])
    refine ⟨k.sub, k.len, k.get, fun i xs h => ?_, fun i es h => ?_, fun i c xs h => ?_, k.scr, k.sep⟩
    · obtain ⟨l, vs, x1, x2, x3⟩ := k.own i xs h
      exact ⟨l, vs, x1, by rw [e0 l (nep i _ l h rfl x1)]; exact x2, x3⟩
    · obtain ⟨l, vs, x1, x2, x3⟩ := k.ownD i es h
      exact ⟨l, vs, x1, by rw [e0 l (nep i _ l h rfl x1)]; exact x2, x3⟩
    · obtain ⟨vs, x1, x2, x3⟩ := k.bor i c xs h
      exact ⟨vs, x1, by rw [e0 c (nep i _ c h rfl x1)]; exact x2, x3⟩
  · by_cases z : x = p
    · subst z
      rw [Sto.put_same] at q
      cases q
      exact hc _ upd_same _ aN
    · rw [Sto.put_ne z] at q
      have w := a.s x d q
      exact w.at (upd_ne z) w.some.choose_spec.2.2 (Ex.refl A)
  · have ne : x ≠ p := fun z => by rw [z, Sto.put_same] at t; cases t
    exact upd_ne ne
  · have ne : x ≠ p := fun z => by rw [z, Sto.put_same] at t; cases t
    rw [Sto.put_ne ne] at t
    exact t
  · by_cases z : x = p
    · subst z
      exact h0
    · rw [Sto.put_ne z] at t
      exact absurd s t
theorem At.far (a : At A0 H0 A H σ γ S) {p : Addr} (h : H p = none) : ∀ (i : Nat) (s : Slot), γ[i]? = some s → s.mine = true → σ[i]? ≠ some (some (V.ref p)) := fun i s hi m e => by
  obtain ⟨l, o, e2, _, _, e3⟩ := a.k.addr hi m
  rw [e2] at e
  cases e
  rw [h] at e3
  cases e3
end
theorem RepsF.at {A : Hp} {f : Str} {x : Dat} : ∀ {kvs : List (Str × V)} {fs : List (Str × Dat)}, RepsF A kvs fs → fs.lookup f = some x → ∃ v, kvs.lookup f = some v ∧ Rep A v x
  | _, _, .nil, h => nomatch h
  | _, _, @RepsF.cons _ g u d us ds a b, h => by
    by_cases q : f = g
    · subst q
      rw [List.lookup_cons_self] at h ⊢
      cases h
      exact ⟨u, rfl, a⟩
    · have e : (f == g) = false := by simp [q]
      simp only [List.lookup, e] at h ⊢
      exact RepsF.at b h
theorem RepsF.no {A : Hp} {f : Str} : ∀ {kvs : List (Str × V)} {fs : List (Str × Dat)}, RepsF A kvs fs → fs.lookup f = none → kvs.lookup f = none
  | _, _, .nil, h => rfl
  | _, _, @RepsF.cons _ g u d us ds a b, h => by
    by_cases q : f = g
    · subst q
      rw [List.lookup_cons_self] at h
      cases h
    · have e : (f == g) = false := by simp [q]
      simp only [List.lookup, e] at h ⊢
      exact RepsF.no b h
/-- what a def with a store promises: Pre says which posts hold -/
def PrM (Pre : Sto → List Dat → (Dat → Sto → Prop) → Prop) : Sp := fun vs H Q _ => ∃ A S xs P, Ex A H ∧ Reps A vs xs ∧ StS S A H A ∧ Pre S xs P ∧ ∀ y T B H1 H' v, P y T → Evo S H T H1 → Gr A H1 B H' → StS T A H1 B → Rep B v y → Q v H'
section
variable {K : PySem.W.Frag} {γ δ : Gam} {S T : Sto} {te ta tb : TE} {tr : TA} {tt : TT} {ts tu tw : TS} {x y : Dat} {xs ys : List Dat} {N M : Gam → Sto → Prop} {R : Dat → Sto → Prop} {P : Dat → Sto → Prop} {i : Nat} {C : Addr} {f m : Str}
/-- o.f -/
theorem es_fld (h : ExS ta γ S fun x T => ∃ p dx fs y, x = .hnd p ∧ T p = some (.ins C dx fs) ∧ Cls K C ∧ NoAttr K C f ∧ fs.lookup f = some y ∧ P y T) : ExS (tFld K ta f) γ S P := fun A0 H0 A H σ a Q q =>
  h A0 H0 A H σ a _ fun v x T H1 B H' ⟨p, dx, fs, y, e, ep, c, n, l, py⟩ w a1 r => by
    subst e
    cases r
    obtain ⟨kvs, h1, hn, rf⟩ := a1.cell ep
    obtain ⟨u, lu, ru⟩ := RepsF.at rf l
    exact ⟨p, C, dx, kvs, u, rfl, h1, c, n, lu, q u y T H1 B H' py w a1 ru⟩
/-- o.f = e -/
theorem runS_fld (h : ExS te γ S fun y T => ExS ta γ T fun x U => ∃ p dx fs, x = .hnd p ∧ U p = some (.ins C dx fs) ∧ Cls K C ∧ NoAttr K C f ∧ fs.length < 1000 ∧ N γ (U.put p (.ins C dx (putD f y fs)))) : RunS (sFld K ta te f) γ S N R := fun A0 H0 A H σ a D dn dr =>
  h A0 H0 A H σ a _ fun v y T H1 B H' hy w a1 ry => hy A0 H1 B H' σ a1 _ fun vx x U H2 C' H'' ⟨p, dx, fs, e, ep, c, n, l, hN⟩ w2 a2 rx => by
    subst e
    cases rx
    obtain ⟨kvs, h1, hn, rf⟩ := a2.cell ep
    refine ⟨p, C, dx, kvs, rfl, h1, c, n, by rw [rf.len]; exact l, ?_⟩
    obtain ⟨H3, a3, w3⟩ := a2.put (o := .ins C dx (putF f v kvs)) (c' := .ins C dx (putD f y fs)) ep fun Hn e => ⟨_, e, hn, RepsF.put (ry.mono w2.v) rf⟩
    exact dn γ _ H3 C' _ σ hN ((w.trans w2).trans w3) a3
/-- o.f = a new list -/
theorem runS_fldN (h : EvN te γ xs) (hx : ∀ l, S l = none → ExS ta γ (S.put l (.lst xs)) fun x U => ∃ p dx fs, x = .hnd p ∧ U p = some (.ins C dx fs) ∧ Cls K C ∧ NoAttr K C f ∧ fs.length < 1000 ∧ N γ (U.put p (.ins C dx (putD f (.hnd l) fs)))) : RunS (sFld K ta te f) γ S N R := fun A0 H0 A H σ a D dn dr =>
  h H0 A H σ a.k _ fun l vs B H1 g1 hl hB h1 r1 => by
    have a1 := a.grow g1
    have l0 : H0 l = none := Evl.fresh_back a.g.up hl
    have far : ∀ (i : Nat) (s : Slot), γ[i]? = some s → s.mine = true → σ[i]? ≠ some (some (V.ref l)) := a.far hl
    obtain ⟨H2, a2, w2⟩ := a1.new (c := .lst xs) h1 l0 hB far fun Hn e An n => ⟨vs, e, n, r1⟩
    have sl : S l = none := by
      cases q : S l with
      | none => rfl
      | some d =>
        obtain ⟨o', e1, _⟩ := (a.s l d q).some
        rw [l0] at e1
        cases e1
    have w1 : Way A0 S H0 A S H0 B := ⟨Evo.refl, g1.view⟩
    refine hx l sl A0 H2 B H1 σ a2 _ fun vx x U H3 C' H'' ⟨p, dx, fs, e, ep, c, n, lf, hN⟩ w3 a3 rx => ?_
    subst e
    cases rx
    obtain ⟨kvs, e1, hn, rf⟩ := a3.cell ep
    refine ⟨p, C, dx, kvs, rfl, e1, c, n, by rw [rf.len]; exact lf, ?_⟩
    obtain ⟨H4, a4, w4⟩ := a3.put (o := .ins C dx (putF f (.ref l) kvs)) (c' := .ins C dx (putD f (.hnd l) fs)) ep fun Hn e => ⟨_, e, hn, RepsF.put (.hnd l) rf⟩
    exact dn γ _ H4 C' _ σ hN (((w1.trans w2).trans w3).trans w4) a4
/-- l.append(e) -/
theorem runS_app (h : ExS ta γ S fun x T => ∃ l ys, x = .hnd l ∧ T l = some (.lst ys) ∧ ExS te γ T fun y U => ∃ xs, U l = some (.lst xs) ∧ xs.length < sizeLine ∧ N γ (U.put l (.lst (xs ++ [y])))) : RunS (tDrop (tBM K "list" rAppend ta (tCons te tNil))) γ S N R := fun A0 H0 A H σ a D dn dr =>
  h A0 H0 A H σ a _ fun v x T H1 B H' ⟨l, ys, e, el, hy⟩ w a1 r => by
    subst e
    cases r
    obtain ⟨us, h1, _, _⟩ := a1.cell el
    refine ⟨.inl ⟨rfl, us, SqL.of h1⟩, hy A0 H1 B H' σ a1 _ fun v2 y U H2 C' H'' ⟨xs, eu, hz, hN⟩ w2 a2 r2 => ?_⟩
    obtain ⟨vs, h2, hn, rs⟩ := a2.cell eu
    refine ⟨l, vs, v2, rfl, rfl, h2, by rw [rs.len]; exact hz, ?_⟩
    obtain ⟨H3, a3, w3⟩ := a2.put (o := .lst (vs ++ [v2])) (c' := .lst (xs ++ [y])) eu fun Hn e => ⟨_, e, hn, rs.app (Reps.one r2)⟩
    exact dn γ _ H3 C' _ σ hN ((w.trans w2).trans w3) a3
/-- f(e, ..) -/
theorem es_call {Pre : Sto → List Dat → (Dat → Sto → Prop) → Prop} {E : XK} (h : ExSA tr γ S fun xs T => Pre T xs P) : ExS (tCall (PrM Pre) [] E tr) γ S P := fun A0 H0 A H σ a Q q =>
  h A0 H0 A H σ a _ fun vs xs T H1 B H' hp w a1 r => ⟨B, T, xs, P, a1.g.sub, by rw [List.append_nil]; exact r, a1.s.enter a1.g, hp, fun y U C' H2 H3 v py ev g st rv => by
    obtain ⟨a2, w2⟩ := a1.leave ev g st
    exact q v y U _ C' H3 py (w.trans w2) a2 rv⟩
/-- o.m(e, ..) -/
theorem es_meth {Pre : Sto → List Dat → (Dat → Sto → Prop) → Prop} {E : XK} (h : ExS ta γ S fun x T => ∃ p dx fs, x = .hnd p ∧ T p = some (.ins C dx fs) ∧ fs.lookup m = none ∧ ExSA tr γ T fun xs U => Pre U (.hnd p :: xs) P) : ExS (tMeth C m (PrM Pre) [] E ta tr) γ S P := fun A0 H0 A H σ a Q q =>
  h A0 H0 A H σ a _ fun v x T H1 B H' ⟨p, dx, fs, e, ep, l, hx⟩ w a1 r => by
    subst e
    cases r
    obtain ⟨kvs, h1, hn, rf⟩ := a1.cell ep
    refine ⟨p, dx, kvs, rfl, h1, RepsF.no rf l, hx A0 H1 B H' σ a1 _ fun vs xs U H2 C' H'' hp w2 a2 r2 => ?_⟩
    refine ⟨C', U, .hnd p :: xs, P, a2.g.sub, by rw [List.append_nil]; exact .cons (.hnd p) r2, a2.s.enter a2.g, hp, fun y V' D' H3 H4 v py ev g st rv => ?_⟩
    obtain ⟨a3, w3⟩ := a2.leave ev g st
    exact q v y V' _ D' H4 py ((w.trans w2).trans w3) a3 rv
/-- o.p, a property that leaves the store or changes it -/
theorem es_prop {Pre : Sto → List Dat → (Dat → Sto → Prop) → Prop} {E : XK} (h : ExS ta γ S fun x T => ∃ p dx fs, x = .hnd p ∧ T p = some (.ins C dx fs) ∧ Pre T [.hnd p] P) : ExS (tProp C (PrM Pre) [] E ta) γ S P := fun A0 H0 A H σ a Q q =>
  h A0 H0 A H σ a _ fun v x T H1 B H' ⟨p, dx, fs, e, ep, hp⟩ w a1 r => by
    subst e
    cases r
    obtain ⟨kvs, h1, hn, rf⟩ := a1.cell ep
    refine ⟨p, dx, kvs, rfl, h1, B, T, [.hnd p], P, a1.g.sub, .cons (.hnd p) .nil, a1.s.enter a1.g, hp, fun y V' D' H3 H4 v py ev g st rv => ?_⟩
    obtain ⟨a3, w3⟩ := a1.leave ev g st
    exact q v y V' _ D' H4 py (w.trans w3) a3 rv
end
section
variable {P : Program} {w0 : World} {K : PySem.W.Frag} {mg : Str → Option Value} {base : Heap}
theorem fn_prM {x qual : Str} {st : Stmt} {f : Addr} {fd : FuncData} {N ps : List Str} {k : Nat} {Pre : Sto → List Dat → (Dat → Sto → Prop) → Prop} (F : Fun K x qual st f fd) (S : FnScope N ps (defScope st)) (hlen : ∀ S xs P, Pre S xs P → xs.length = ps.length)
    (hbody : ∀ (cdv : Value) (A : Around) (outer : List PySem.Env) (s : Shared) (H : Hp) (E : XK), Room k (A.deeper (envOfC qual (defScope st) s.heap.objs.size f cdv)) →
      ∃ t, PSs (cxOf CX0 P w0 K mg base N qual (defScope st) f cdv A outer s H E).nox (defBody st) t ∧ ∀ S xs P, Pre S xs P → RunS t (entry N xs) S (fun _ T => P .non T) P) : FnOk P w0 K mg base CX0 (k + 1) f fd ps (PrM Pre) := by
  refine F.ok S (fun vs H Q E h => ?_) fun cdv A outer s H vs Q E hr h => ?_
  · obtain ⟨A, S, xs, P, _, r, _, hp, _⟩ := h
    rw [r.len]
    exact hlen S xs P hp
  · obtain ⟨B, S, xs, P, sub, r, st, hp, q⟩ := h
    obtain ⟨t, h1, h2⟩ := hbody cdv A outer s H E hr
    refine ⟨t, h1, h2 S xs P hp B H B H _ ⟨Gr.refl sub, ok_entry sub N r, st⟩ _ (fun δ T H1 C H' σ' hn w a => ?_) fun v x T H1 C H' hx w g s2 rx => ?_⟩
    · exact q .non T C H1 H' .non hn w.e a.g a.s .non
    · exact q x T C H1 H' v hx w.e g s2 rx
end
end Fr

set_option Elab.async false
set_option linter.all false
set_option maxRecDepth 100000
set_option maxHeartbeats 4000000
namespace Fr
open PySem PySem.Spec PyProof.Rows L2
open Evl (Ex)
/-! # a store that is read: its cells are shown for a while -/
/-- data whose values hold no list, dict or instance -/
inductive Flat : Dat → Prop where
  | non : Flat .non
  | bl (b : Bool) : Flat (.bl b)
  | int (i : Int) : Flat (.int i)
  | str (x : Str) : Flat (.str x)
  | hnd (p : Addr) : Flat (.hnd p)
  | tup {ds : List Dat} : (∀ d ∈ ds, Flat d) → Flat (.tup ds)
section
variable {B C : Hp} (keep : ∀ a xs, B a = some (.tup xs) → C a = some (.tup xs))
include keep
mutual
theorem Rep.flat : ∀ {v : V} {d : Dat}, Rep B v d → Flat d → Rep C v d
  | _, _, .non, _ => .non
  | _, _, .bl b, _ => .bl b
  | _, _, .int i, _ => .int i
  | _, _, .str x, _ => .str x
  | _, _, .hnd p, _ => .hnd p
  | _, _, .tup h r, .tup f => .tup (keep _ _ h) (Reps.flat r f)
theorem Reps.flat : ∀ {vs : List V} {ds : List Dat}, Reps B vs ds → (∀ d ∈ ds, Flat d) → Reps C vs ds
  | _, _, .nil, _ => .nil
  | _, _, .cons h r, f => .cons (Rep.flat h (f _ List.mem_cons_self)) (Reps.flat r fun d hd => f d (List.mem_cons_of_mem _ hd))
end
end
theorem flat_w (ns : List Int) : Flat (w ns) := .tup fun d hd => by
  obtain ⟨i, _, rfl⟩ := List.mem_map.mp hd
  exact .int i
def noHp : Hp := fun _ => none
open Classical in
noncomputable def shown (D : Addr → Prop) (H A : Hp) : Hp := fun a => if D a then H a else A a
open Classical in
noncomputable def unshown (D : Addr → Prop) (B : Hp) : Hp := fun a => if D a then none else B a
section
variable {D : Addr → Prop} {S : Sto} {A0 H0 A H B H' : Hp} {σ : L2.St} {γ γ' : Gam} {a : Addr}
theorem shown_y (h : D a) : shown D H A a = H a := by unfold shown; rw [if_pos h]
theorem shown_n (h : ¬ D a) : shown D H A a = A a := by unfold shown; rw [if_neg h]
theorem unshown_y (h : D a) : unshown D B a = none := by unfold unshown; rw [if_pos h]
theorem unshown_n (h : ¬ D a) : unshown D B a = B a := by unfold unshown; rw [if_neg h]
/-- what is shown is in the store -/
theorem At.hidden (t : At A0 H0 A H σ γ S) (hD : ∀ a, D a → S a ≠ none) (h : D a) : ∃ o, H a = some o ∧ NT o ∧ A a = none ∧ H0 a ≠ none := by
  cases q : S a with
  | none => exact absurd q (hD a h)
  | some c =>
    obtain ⟨o, h1, nt, n⟩ := (t.cell q).some
    obtain ⟨o2, h2, _⟩ := (t.s a c q).some
    exact ⟨o, h1, nt, n, by rw [h2]; exact fun z => nomatch z⟩
theorem shown_ex (t : At A0 H0 A H σ γ S) (hD : ∀ a, D a → S a ≠ none) : Ex A (shown D H A) := fun x u e => by
  by_cases q : D x
  · obtain ⟨_, _, _, n, _⟩ := t.hidden hD q
    rw [n] at e
    cases e
  · rw [shown_n q]
    exact e
theorem shown_sub (t : At A0 H0 A H σ γ S) : Ex (shown D H A) H := fun x u e => by
  by_cases q : D x
  · rw [shown_y q] at e
    exact e
  · rw [shown_n q] at e
    exact t.k.sub x u e
theorem At.unshow (t : At A0 H0 A H σ γ S) (hD : ∀ a, D a → S a ≠ none) (g : Gr (shown D H A) H B H') : Gr A H (unshown D B) H' ∧ ∀ x xs, B x = some (.tup xs) → unshown D B x = some (.tup xs) := by
  refine ⟨⟨g.up, fun x u e => ?_, fun x u e => ?_, fun x u e nt n => ?_⟩, fun x xs e => ?_⟩
  · by_cases q : D x
    · obtain ⟨_, _, _, n, _⟩ := t.hidden hD q
      rw [n] at e
      cases e
    · rw [unshown_n q]
      exact g.view x u (by rw [shown_n q]; exact e)
  · by_cases q : D x
    · rw [unshown_y q] at e
      cases e
    · rw [unshown_n q] at e
      exact g.sub x u e
  · by_cases q : D x
    · exact unshown_y q
    · rw [unshown_n q]
      exact g.hid x u e nt (by rw [shown_n q]; exact n)
  · by_cases q : D x
    · obtain ⟨o, h1, nt, _⟩ := t.hidden hD q
      have := g.view x o (by rw [shown_y q]; exact h1)
      rw [e] at this
      cases this
      exact nt.elim
    · rw [unshown_n q]
      exact e
/-- the slots, some of them seen otherwise -/
def Sees (D : Addr → Prop) (S : Sto) (γ γ' : Gam) : Prop := ∀ A0 H0 A H σ, At A0 H0 A H σ γ S → Ok H0 (shown D H A) H σ γ → Ok noHp (shown D H A) H σ γ'
theorem At.shownOk (t : At A0 H0 A H σ γ S) (hD : ∀ a, D a → S a ≠ none) : Ok H0 (shown D H A) H σ γ := by
  have k := t.k
  have v := shown_ex t hD
  have nl : ∀ l, H0 l = none → A l = none → shown D H A l = none := fun l h0 hA => by
    by_cases q : D l
    · obtain ⟨_, _, _, _, n⟩ := t.hidden hD q
      exact absurd h0 n
    · rw [shown_n q]
      exact hA
  refine ⟨shown_sub t, k.len, fun i x h => ?_, fun i xs h => ?_, fun i es h => ?_, fun i c xs h => ?_, fun i K ns h => ?_, k.sep⟩
  · obtain ⟨u, e, r⟩ := k.get i x h
    exact ⟨u, e, r.mono v⟩
  · obtain ⟨l, vs, x1, x2, x3, x4, x5⟩ := k.own i xs h
    exact ⟨l, vs, x1, x2, nl l x2 x3, x4, x5.mono v⟩
  · obtain ⟨l, vs, x1, x2, x3, x4, x5⟩ := k.ownD i es h
    exact ⟨l, vs, x1, x2, nl l x2 x3, x4, x5.mono v⟩
  · obtain ⟨vs, x1, x2, x3, x4, x5⟩ := k.bor i c xs h
    exact ⟨vs, x1, x2, nl c x2 x3, x4, x5.mono v⟩
  · obtain ⟨b, h1, h2⟩ := k.scr i K ns h
    exact ⟨b, h1, Evl.ex_l v h2⟩
theorem Ok.noBase (k : Ok H0 A H σ γ) : Ok noHp A H σ γ := by
  refine ⟨k.sub, k.len, k.get, fun i xs h => ?_, fun i es h => ?_, fun i c xs h => ?_, k.scr, k.sep⟩
  · obtain ⟨l, vs, x1, x2, x3⟩ := k.own i xs h
    exact ⟨l, vs, x1, rfl, x3⟩
  · obtain ⟨l, vs, x1, x2, x3⟩ := k.ownD i es h
    exact ⟨l, vs, x1, rfl, x3⟩
  · obtain ⟨vs, x1, x2, x3⟩ := k.bor i c xs h
    exact ⟨vs, x1, rfl, x3⟩
end
section
variable {K : PySem.W.Frag} {D : Addr → Prop} {γ γ' : Gam} {S : Sto} {te : TE} {tt : TT} {tr : TA} {y : Dat} {ys : List Dat} {P : Dat → Sto → Prop} {PT : Bool → Sto → Prop} {PL : List Dat → Sto → Prop}
theorem es_view (hD : ∀ a, D a → S a ≠ none) (hs : Sees D S γ γ') (h : EvD te γ' y) (fl : Flat y) (hp : P y S) : ExS te γ S P := fun A0 H0 A H σ t Q q =>
  h noHp (shown D H A) H σ (hs A0 H0 A H σ t (t.shownOk hD)) _ fun v B H' g r => by
    obtain ⟨g2, kp⟩ := t.unshow hD g
    exact q v y S H0 _ H' hp ⟨Evo.refl, g2.view⟩ (t.grow g2) (r.flat kp fl)
theorem esa_view (hD : ∀ a, D a → S a ≠ none) (hs : Sees D S γ γ') (h : EvA tr γ' ys) (fl : ∀ y ∈ ys, Flat y) (hp : PL ys S) : ExSA tr γ S PL := fun A0 H0 A H σ t Q q =>
  h noHp (shown D H A) H σ (hs A0 H0 A H σ t (t.shownOk hD)) _ fun v B H' g r => by
    obtain ⟨g2, kp⟩ := t.unshow hD g
    exact q v ys S H0 _ H' hp ⟨Evo.refl, g2.view⟩ (t.grow g2) (Reps.flat kp r fl)
theorem est_view {b : Bool} (hD : ∀ a, D a → S a ≠ none) (hs : Sees D S γ γ') (h : EvT tt γ' b) (hp : PT b S) : ExST tt γ S PT := fun A0 H0 A H σ t Q q =>
  h noHp (shown D H A) H σ (hs A0 H0 A H σ t (t.shownOk hD)) _ fun B H' g => by
    obtain ⟨g2, kp⟩ := t.unshow hD g
    exact q b S H0 _ H' hp ⟨Evo.refl, g2.view⟩ (t.grow g2)
/-- a new list of flat data: from here on it is data that stands still -/
theorem es_viewL (hD : ∀ a, D a → S a ≠ none) (hs : Sees D S γ γ') (h : EvN te γ' ys) (fl : ∀ y ∈ ys, Flat y) (hp : P (.lst ys) S) : ExS te γ S P := fun A0 H0 A H σ t Q q =>
  h noHp (shown D H A) H σ (hs A0 H0 A H σ t (t.shownOk hD)) _ fun l us B H' g hl hB h1 r => by
    obtain ⟨g2, kp⟩ := t.unshow hD g
    have hB2 : unshown D B l = none := by
      by_cases q : D l
      · exact unshown_y q
      · rw [unshown_n q]
        exact hB
    have g3 := g2.show h1 hl hB2
    exact q _ _ S H0 _ H' hp ⟨Evo.refl, g3.view⟩ (t.grow g3) (.lst upd_same ((Reps.flat kp r fl).mono (Ex.new hB2)))
/-- a new list of flat data: from here on it is a cell -/
theorem es_viewN (hD : ∀ a, D a → S a ≠ none) (hs : Sees D S γ γ') (h : EvN te γ' ys) (fl : ∀ y ∈ ys, Flat y) (hp : ∀ l, S l = none → P (.hnd l) (S.put l (.lst ys))) : ExS te γ S P := fun A0 H0 A H σ t Q q =>
  h noHp (shown D H A) H σ (hs A0 H0 A H σ t (t.shownOk hD)) _ fun l us B H' g hl hB h1 r => by
    obtain ⟨g2, kp⟩ := t.unshow hD g
    have hB2 : unshown D B l = none := by
      by_cases q : D l
      · exact unshown_y q
      · rw [unshown_n q]
        exact hB
    have l0 : H0 l = none := Evl.fresh_back t.g.up hl
    have sl : S l = none := by
      cases q : S l with
      | none => rfl
      | some d =>
        obtain ⟨o', e1, _⟩ := (t.s l d q).some
        rw [l0] at e1
        cases e1
    obtain ⟨H2, t2, w2⟩ := (t.grow g2).new (c := .lst ys) h1 l0 hB2 (t.far hl) fun Hn e An n => ⟨us, e, n, Reps.flat kp r fl⟩
    exact q _ _ _ H2 _ H' (hp l sl) ⟨w2.e, g2.view⟩ t2 (.hnd l)
/-- the fields of an instance, its lists shown -/
inductive Frz (S : Sto) (D : Addr → Prop) : List (Str × Dat) → List (Str × Dat) → Prop where
  | nil : Frz S D [] []
  | keep {n : Str} {x : Dat} {fs gs : List (Str × Dat)} : Frz S D fs gs → Frz S D ((n, x) :: fs) ((n, x) :: gs)
  | list {n : Str} {l : Addr} {xs : List Dat} {fs gs : List (Str × Dat)} : D l → S l = some (.lst xs) → Frz S D fs gs → Frz S D ((n, .hnd l) :: fs) ((n, .lst xs) :: gs)
theorem Frz.rep {A0 H0 A H : Hp} {σ : L2.St} (t : At A0 H0 A H σ γ S) (hD : ∀ a, D a → S a ≠ none) : ∀ {fs gs : List (Str × Dat)} {kvs : List (Str × V)}, Frz S D fs gs → RepsF A kvs fs → RepsF (shown D H A) kvs gs
  | _, _, _, .nil, .nil => .nil
  | _, _, _, .keep z, .cons r rs => .cons (r.mono (shown_ex t hD)) (Frz.rep t hD z rs)
  | _, _, _, .list d e z, .cons r rs => by
    cases r
    obtain ⟨vs, h1, _, r1⟩ := t.cell e
    exact .cons (.lst (by rw [shown_y d]; exact h1) (r1.mono (shown_ex t hD))) (Frz.rep t hD z rs)
/-- an instance behind a handle, shown in its slot -/
theorem sees_set {i : Nat} {p C dx : Addr} {fs gs : List (Str × Dat)} (hD : ∀ a, D a → S a ≠ none) (hi : γ[i]? = some (Slot.d (.hnd p))) (dp : D p) (ep : S p = some (.ins C dx fs)) (z : Frz S D fs gs) (h : Sees D S γ γ') (h2 : γ'[i]? = some (Slot.d (.hnd p))) : Sees D S γ (γ'.set i (.d (.obj C gs))) := fun A0 H0 A H σ t k => by
  have k1 := h A0 H0 A H σ t k
  obtain ⟨v, e, r⟩ := k1.get i _ h2
  cases r
  obtain ⟨kvs, h1, _, rf⟩ := t.cell ep
  have rr : Rep (shown D H A) (.ref p) (.obj C gs) := .obj (by rw [shown_y dp]; exact h1) (Frz.rep t hD z rf)
  have k2 := k1.setD rr i
  have e2 : σ.set i (some (V.ref p)) = σ := by
    refine List.ext_getElem? fun j => ?_
    by_cases q : i = j
    · subst q
      rw [e, List.getElem?_set_self]
      rw [k1.len]
      exact (List.getElem?_eq_some_iff.mp h2).1
    · rw [List.getElem?_set_ne q]
  rw [e2] at k2
  exact k2
theorem sees_refl : Sees D S γ γ := fun A0 H0 A H σ t k => k.noBase
theorem sees_one {i : Nat} {p C dx : Addr} {fs gs : List (Str × Dat)} (hD : ∀ a, D a → S a ≠ none) (hi : γ[i]? = some (Slot.d (.hnd p))) (dp : D p) (ep : S p = some (.ins C dx fs)) (z : Frz S D fs gs) : Sees D S γ (γ.set i (.d (.obj C gs))) := sees_set hD hi dp ep z sees_refl hi
end
end Fr

set_option Elab.async false
set_option linter.all false
set_option maxRecDepth 100000
set_option maxHeartbeats 4000000
namespace Fr
open PySem PySem.Spec PyProof.Rows L2
open Evl (Ex)
/-! # len(o), o == p, o[k] of an own class -/
/-- the class has the name as a def -/
structure OwnSp (K : PySem.W.Frag) (C : Addr) (n : Str) (f : Addr) : Prop where
  at_ : PySem.W.findIn K (.ref C) n = some (some (.ref f))
  fn : PySem.W.isFn K (.ref f) = true
/-- the type of a value -/
def TyOf (X : Cx) (y : V) (H : Hp) (tb : Value) : Prop := ∀ (pins : List (Addr × Obj)) (σ : L2.St) (s : Shared) (u : Value), Inv X pins σ H s → RelV y u → PySem.W.Looks (model X.prog X.w) s.heap (typeOf u) tb
section
variable {X : Cx} {CX : CXT} {k : Nat} {C f : Addr} {fd : FuncData} {ps : List Str} {sp : Sp} {E : XK}
theorem ty_ins {b D dx : Addr} {fs : List (Str × V)} {H : Hp} (h : H b = some (.ins D dx fs)) : TyOf X (.ref b) H (.ref D) := fun pins σ s u I r => by
  cases (show u = Value.ref b from r)
  obtain ⟨mB, J, _⟩ := ins_get I.hok h
  obtain ⟨od, J, _⟩ := J.look
  exact J.type
def rLenOwn (C : Addr) (sp : Sp) (E : XK) : List V → Hp → VK → Prop := fun xs H Q => ∃ a dx fs, xs = [.ref a] ∧ H a = some (.ins C dx fs) ∧ sp [.ref a] H (fun v H' => ∃ n, v = .int n ∧ 0 ≤ n ∧ n < 2 ^ 63 ∧ Q (.int n) H') E
theorem run_own {pins : List (Addr × Obj)} {σ : L2.St} {s : Shared} {H : Hp} {A : Around} {vs : List V} {us : List Value} {Q : VK} {n : Nat} (I : Inv X pins σ H s) (e0 : Env0 X.prog X.w X.K X.mg X.base A X.stack s H) (F : FnOk X.prog X.w X.K X.mg X.base CX k f fd ps sp) (hr : Room k A) (hb : Binds X.K fd ps []) (hx : Passes CX X E)
    (r : Vals vs us) (h : sp vs H Q E) : wpAny (model X.prog X.w) A (call (.ref f) us) (fun u s' => ∃ v H', Inv X pins σ H' s' ∧ RelV v u ∧ Q v H') X.xe s := by
  have hl := F.len _ _ _ _ h
  refine wpAny_call (codeAny_mono (F.run A X.stack s H ⟨us, []⟩ us vs Q E hr e0 (by
    have := hb s us I.kIn (by rw [List.append_nil, ← r.length]; exact hl)
    simpa using this) r h) fun q s' hq => ?_)
  cases q with
  | error e => exact hx pins σ H s e s' I hq
  | ok fl =>
    cases fl with
    | ret w =>
      obtain ⟨z, H', I', rz, ez⟩ := I.after hq
      exact ⟨z, H', I', rz, ez⟩
    | next => exact False.elim hq
    | brk => exact False.elim hq
    | cont => exact False.elim hq
theorem call_lenOwn (F : FnOk X.prog X.w X.K X.mg X.base CX k f fd ps sp) (hr : Room (k + 1) X.A) (o : OwnSp X.K C "__len__" f) (hb : Binds X.K fd ps []) (hx : Passes CX X E) : CallR X (.builtin "len") (rLenOwn C sp E) := by
  intro pins s σ H xs us Q I r h
  obtain ⟨a, dx, fs, rfl, ha, hq⟩ := h
  obtain rfl := Vals.ref1 r
  obtain ⟨mA, J, _⟩ := ins_get I.hok ha
  obtain ⟨od, J, _⟩ := J.look
  obtain ⟨m, hF⟩ := I.fr
  refine PySem.W.len_K hF I.ok.mod.kin J o.at_ o.fn (wpAny_mono (run_own (n := 0) I I.env0.in1 F hr.in1 hb hx (vs := [.ref a]) (.cons rfl .nil) hq) (fun u s' hu => ?_) fun _ _ e => e)
  obtain ⟨v, H', I', rv, n, rfl, n0, n1, q⟩ := hu
  obtain ⟨t, rfl⟩ := rv
  exact ⟨⟨n0, n1⟩, .int n, H', I'.tok _, ⟨_, rfl⟩, q⟩
/-- o == y -/
def rEqOwn (X : Cx) (C : Addr) (sp : Sp) (E : XK) : R2 := fun x y H Q => ∃ a dx fs tb, x = .ref a ∧ H a = some (.ins C dx fs) ∧ TyOf X y H tb ∧ PySem.W.notFirst X.K C tb = true ∧ sp [.ref a, y] H (fun v H' => ∃ b, v = .bl b ∧ Q (.bl b) H') E
theorem op_eqOwn (F : FnOk X.prog X.w X.K X.mg X.base CX k f fd ps sp) (hr : Room k X.A) (hu : X.A.units < cLine) (o : OwnSp X.K C "__eq__" f) (hb : Binds X.K fd ps []) (hx : Passes CX X E) : OpR X (compareOp .Eq) (rEqOwn X C sp E) := by
  intro pins s σ H x y v u Q I rx ry h
  obtain ⟨a, dx, fs, tb, rfl, ha, ht, hn, hq⟩ := h
  cases (show v = Value.ref a from rx)
  obtain ⟨mA, J, _⟩ := ins_get I.hok ha
  obtain ⟨od, J, _⟩ := J.look
  obtain ⟨m, hF⟩ := I.fr
  refine PySem.W.cmp_K (op := .Eq) (tb := tb) hu hF I.ok.mod.kin J (ht pins σ s u I ry) hn o.at_ o.fn (wpAny_mono (run_own (n := 0) I I.env0 F hr hb hx (vs := [.ref a, y]) (.cons rfl (.cons ry .nil)) hq) (fun w s' hw => ?_) fun _ _ e => e)
  obtain ⟨v, H', I', rv, b, rfl, q⟩ := hw
  cases (show w = Value.bool b from rv)
  exact ⟨.bl b, H', I', rfl, q⟩
end
end Fr

set_option Elab.async false
set_option linter.all false
set_option maxRecDepth 100000
set_option maxHeartbeats 4000000
namespace Fr
open PySem PySem.Spec PyProof.Rows L2
open Evl (Ex)
/-! # instances that stand still: fields, properties, methods, len, == -/
section
variable {K : PySem.W.Frag} {γ : Gam} {ta tb te : TE} {tr : TA} {x y z : Dat} {xs ys : List Dat} {C : Addr} {f m : Str} {fs gs : List (Str × Dat)} {E : XK} {R : List Dat → Dat → Prop} {RN : List Dat → List Dat → Prop}
theorem ev_fldO (h : EvD ta γ (.obj C fs)) (c : Cls K C) (n : NoAttr K C f) (l : fs.lookup f = some y) : EvD (tFld K ta f) γ y := fun H0 A H σ k Q q =>
  h H0 A H σ k _ fun v B H1 g1 r1 => by
    cases r1 with
    | @obj a _ dx kvs _ h1 rf =>
      obtain ⟨u, lu, ru⟩ := RepsF.at rf l
      exact ⟨a, C, dx, kvs, u, rfl, g1.sub _ _ h1, c, n, lu, q u B H1 g1 ru⟩
theorem er_fldO (h : EvD ta γ (.obj C fs)) (c : Cls K C) (n : NoAttr K C f) (l : fs.lookup f = some (.lst ys)) : EvR (tFld K ta f) γ ys := er_ofD (ev_fldO h c n l)
theorem ev_prop (h : EvD ta γ (.obj C fs)) (hR : R [.obj C fs] y) : EvD (tProp C (Pr R) [] E ta) γ y := fun H0 A H σ k Q q =>
  h H0 A H σ k _ fun v B H1 g1 r1 => by
    cases r1 with
    | @obj a _ dx kvs _ h1 rf =>
      exact ⟨a, dx, kvs, rfl, g1.sub _ _ h1, B, [.obj C fs], y, g1.sub, .cons (.obj h1 rf) .nil, hR, fun v D H2 g2 r2 => q v D H2 (g1.trans g2) r2⟩
theorem en_prop (h : EvD ta γ (.obj C fs)) (hR : RN [.obj C fs] ys) : EvN (tProp C (PrN RN) [] E ta) γ ys := fun H0 A H σ k Q q =>
  h H0 A H σ k _ fun v B H1 g1 r1 => by
    cases r1 with
    | @obj a _ dx kvs _ h1 rf =>
      exact ⟨a, dx, kvs, rfl, g1.sub _ _ h1, B, [.obj C fs], ys, g1.sub, .cons (.obj h1 rf) .nil, hR, fun l us D H2 g2 hl hD h2 r2 => q l us D H2 (g1.trans g2) (Evl.fresh_back g1.up hl) hD h2 r2⟩
theorem ev_meth (h : EvD ta γ (.obj C fs)) (l : fs.lookup m = none) (ha : EvA tr γ xs) (hR : R (.obj C fs :: xs) y) : EvD (tMeth C m (Pr R) [] E ta tr) γ y := fun H0 A H σ k Q q =>
  h H0 A H σ k _ fun v B H1 g1 r1 => by
    cases r1 with
    | @obj a _ dx kvs _ h1 rf =>
      refine ⟨a, dx, kvs, rfl, g1.sub _ _ h1, RepsF.no rf l, ha H0 B H1 σ (k.mono g1) _ fun vs D H2 g2 r2 => ?_⟩
      exact ⟨D, .obj C fs :: xs, y, g2.sub, by rw [List.append_nil]; exact .cons (.obj (g2.view _ _ h1) (rf.mono g2.view)) r2, hR, fun v D' H3 g3 r3 => q v D' H3 ((g1.trans g2).trans g3) r3⟩
theorem ev_lenO {n : Int} (h : EvD ta γ (.obj C fs)) (hR : R [.obj C fs] (.int n)) (n0 : 0 ≤ n) (n1 : n < 2 ^ 63) : EvD (tCB (rLenOwn C (Pr R) E) (tCons ta tNil)) γ (.int n) := fun H0 A H σ k Q q =>
  h H0 A H σ k _ fun v B H1 g1 r1 => by
    cases r1 with
    | @obj a _ dx kvs _ h1 rf =>
      refine ⟨a, dx, kvs, rfl, g1.sub _ _ h1, B, [.obj C fs], .int n, g1.sub, .cons (.obj h1 rf) .nil, hR, fun v D H2 g2 r2 => ?_⟩
      cases r2
      exact ⟨n, rfl, n0, n1, q _ D H2 (g1.trans g2) (.int n)⟩
/-- o == p, of two classes -/
theorem r2_eqO {X : Cx} {D : Addr} {b : Bool} (eK : X.K = K) (hn : PySem.W.notFirst K C (.ref D) = true) (hR : R [.obj C fs, .obj D gs] (.bl b)) : R2D (rEqOwn X C (Pr R) E) (.obj C fs) (.obj D gs) (.bl b) := fun A H vx vy s r1 r2 Q q => by
  subst eK
  cases r1 with
  | @obj a _ dx kvs _ h1 rf =>
    cases r2 with
    | @obj a2 _ dx2 kvs2 _ h2 rf2 =>
      refine ⟨a, dx, kvs, .ref D, rfl, s _ _ h1, ty_ins (s _ _ h2), hn, A, [.obj C fs, .obj D gs], .bl b, s, .cons (.obj h1 rf) (.cons (.obj h2 rf2) .nil), hR, fun v B H2 g2 r2 => ?_⟩
      cases r2
      exact ⟨b, rfl, q _ B H2 g2 (.bl b)⟩
end
section
variable {K : PySem.W.Frag} {γ : Gam} {S : Sto} {tr : TA} {P : Dat → Sto → Prop} {C : Addr} {E : XK}
/-- C(e, ..), its instance a cell -/
theorem es_make {Pre : Sto → List Dat → (Dat → Sto → Prop) → Prop} (h : ExSA tr γ S fun xs T => ∀ x dx, T x = none → Pre (T.put x (.ins C dx [])) (.hnd x :: xs) (fun y U => y = .non ∧ P (.hnd x) U)) : ExS (tMake C (PrM Pre) [] E tr) γ S P := fun A0 H0 A H σ a Q q =>
  h A0 H0 A H σ a _ fun vs xs T H1 B H' hp w a1 r => fun x dx hx hdx ne => by
    have s1 : Ex B H' := a1.g.sub
    have bx : B x = none := Evl.fresh_back s1 hx
    have hx1 : upd H' dx (.own x) x = none := by rw [upd_ne (Ne.symm ne)]; exact hx
    have g1 : Gr B H' B (upd H' dx (.own x)) := Gr.newU s1 hdx
    have g2 : Gr B H' B (upd (upd H' dx (.own x)) x (.ins C dx [])) := g1.trans (Gr.newU g1.sub hx1)
    have a2 := a1.grow g2
    have h0 : H1 x = none := Evl.fresh_back a1.g.up hx
    obtain ⟨H3, a3, w3⟩ := a2.new (c := .ins C dx []) upd_same h0 bx (a1.far hx) fun Hn e An n => ⟨[], e, n, .nil⟩
    have tx : T x = none := by
      cases q : T x with
      | none => rfl
      | some d =>
        obtain ⟨o', e1, _⟩ := (a1.s x d q).some
        rw [h0] at e1
        cases e1
    refine ⟨B, T.put x (.ins C dx []), .hnd x :: xs, _, a3.g.sub, by rw [List.append_nil]; exact .cons (.hnd x) r, a3.s.enter a3.g, hp x dx tx, fun y U D' H4 H5 v py ev g st rv => ?_⟩
    obtain ⟨e1, py⟩ := py
    subst e1
    cases rv
    obtain ⟨a4, w4⟩ := a3.leave ev g st
    exact ⟨rfl, q (.ref x) (.hnd x) U _ D' H5 py ((w.trans w3).trans w4) a4 (.hnd x)⟩
end
end Fr

set_option Elab.async false
set_option linter.all false
set_option maxRecDepth 100000
set_option maxHeartbeats 4000000
namespace Fr
open PySem PySem.Spec PyProof.Rows L2
open Evl (Ex)
/-! # data that is equal to itself -/
inductive Tame : Nat → Dat → Prop where
  | non {n : Nat} : Tame n .non
  | bl {n : Nat} (b : Bool) : Tame n (.bl b)
  | int {n : Nat} (i : Int) : Tame n (.int i)
  | str {n : Nat} {x : Str} : PyData.strOk x = true → Tame n (.str x)
  | tup {n : Nat} {ds : List Dat} : (∀ d ∈ ds, Tame n d) → Tame (n + 1) (.tup ds)
  | lst {n : Nat} {ds : List Dat} : (∀ d ∈ ds, Tame n d) → Tame (n + 1) (.lst ds)
def TameOk (n : Nat) (d : Dat) : Prop := noDic d = true ∧ (py d).canLay0 = true ∧ (py d).depth ≤ n + 1
theorem tames {n : Nat} : ∀ {ds : List Dat}, (∀ d ∈ ds, TameOk n d) → noDics ds = true ∧ PyData.canLayAll0 (pys ds) = true ∧ PyData.depthAll (pys ds) ≤ n + 1
  | [], _ => ⟨rfl, by simp [pys, PyData.canLayAll0], by simp [pys, PyData.depthAll]⟩
  | d :: ds, h => by
    obtain ⟨a1, a2, a3⟩ := h d List.mem_cons_self
    obtain ⟨b1, b2, b3⟩ := tames fun e he => h e (List.mem_cons_of_mem _ he)
    refine ⟨Bool.and_eq_true_iff.mpr ⟨a1, b1⟩, ?_, ?_⟩
    · show PyData.canLayAll0 (py d :: pys ds) = true
      simp only [PyData.canLayAll0, a2, b2, Bool.and_self]
    · show PyData.depthAll (py d :: pys ds) ≤ n + 1
      simp only [PyData.depthAll]
      omega
theorem Tame.ok {n : Nat} {d : Dat} (h : Tame n d) : TameOk n d := by
  induction h with
  | non => exact ⟨rfl, by simp [py, PyData.canLay0], by simp [py, PyData.depth]⟩
  | bl b => exact ⟨rfl, by simp [py, PyData.canLay0], by simp [py, PyData.depth]⟩
  | int i => exact ⟨rfl, by simp [py, PyData.canLay0], by simp [py, PyData.depth]⟩
  | str h => exact ⟨rfl, by simp [py, PyData.canLay0, h], by simp [py, PyData.depth]⟩
  | tup _ ih =>
    obtain ⟨a1, a2, a3⟩ := tames ih
    refine ⟨a1, ?_, ?_⟩
    · show PyData.canLay0 (.tuple (pys _)) = true
      simp only [PyData.canLay0]
      exact a2
    · show PyData.depth (.tuple (pys _)) ≤ _
      simp only [PyData.depth]
      omega
  | lst _ ih =>
    obtain ⟨a1, a2, a3⟩ := tames ih
    refine ⟨a1, ?_, ?_⟩
    · show PyData.canLay0 (.list (pys _)) = true
      simp only [PyData.canLay0]
      exact a2
    · show PyData.depth (.list (pys _)) ≤ _
      simp only [PyData.depth]
      omega
theorem Tame.mono {n : Nat} {d : Dat} (h : Tame n d) : Tame (n + 1) d := by
  induction h with
  | non => exact .non
  | bl b => exact .bl b
  | int i => exact .int i
  | str h => exact .str h
  | tup _ ih => exact .tup ih
  | lst _ ih => exact .lst ih
theorem tame_w (ns : List Int) : Tame 1 (w ns) := .tup fun d hd => by
  obtain ⟨i, _, rfl⟩ := List.mem_map.mp hd
  exact .int i
section
variable {K : PySem.W.Frag} {d : Dat} {n : Nat}
theorem TameOk.shaped (h : TameOk n d) (hn : n ≤ 60) : SeqAt.shaped (py d) = true := by
  unfold SeqAt.shaped
  rw [h.2.1, decide_eq_true (show (py d).depth ≤ 64 by have := h.2.2; omega)]
  rfl
theorem r2_eqT (h : Tame n d) (hn : n ≤ 60) : R2D (rEqD K) d d (.bl true) := by
  have k := h.ok
  have e := r2_eqD (K := K) k.1 k.1 (k.shaped hn) (k.shaped hn)
  rw [show PyData.eqv (py d) (py d) = true from SeqAt.eqv_refl _ k.2.1] at e
  exact e
theorem r2_neT (h : Tame n d) (hn : n ≤ 60) : R2D (rNeD K) d d (.bl false) := by
  have k := h.ok
  have e := r2_neD (K := K) k.1 k.1 (k.shaped hn) (k.shaped hn)
  rw [show PyData.eqv (py d) (py d) = true from SeqAt.eqv_refl _ k.2.1] at e
  exact e
end
/-! # a crate that is a cell -/
section
variable {S : Sto} {γ : Gam} {ta tb te : TE} {tr : TA} {tt tu : TT} {x y : Dat} {P : Dat → Sto → Prop} {PT : Bool → Sto → Prop} {E : XK}
theorem es_lend {Rf : List Dat → List Dat → Dat → List Dat → Prop} {Pre : List Dat → List Dat → Prop} (h : ExS ta γ S fun x T => ∃ c, x = .hnd c ∧ ExSA tr γ T fun xs U => ∃ ds, U c = some (.lst ds) ∧ Pre ds xs ∧ ∀ y ds', Rf ds xs y ds' → P y (U.put c (.lst ds'))) :
    ExS (tCall (PrC Rf Pre) [] E (tCons ta tr)) γ S P := fun A0 H0 A H σ a Q q =>
  h A0 H0 A H σ a _ fun v x T H1 B H' ⟨c, e, hx⟩ w1 a1 r => by
    subst e
    cases r
    refine hx A0 H1 B H' σ a1 _ fun us xs U H2 C H'' ⟨ds, ec, hp, hS⟩ w2 a2 r2 => ?_
    obtain ⟨cs, h1, cn, rc⟩ := a2.cell ec
    refine ⟨C, c, cs, ds, us, xs, by rw [List.append_nil], a2.g.sub, cn, h1, rc, r2, hp, fun v D H3 y cs' ds' hR g hD h3 rd ry => ?_⟩
    have ev : Evo U H'' (U.put c (.lst ds')) (upd H'' c (.lst cs')) := ⟨fun z s t => by
        have ne : z ≠ c := fun q => by rw [q, Sto.put_same] at t; cases t
        exact upd_ne ne, fun z t => by
        have ne : z ≠ c := fun q => by rw [q, Sto.put_same] at t; cases t
        rw [Sto.put_ne ne] at t
        exact t, fun z s t => by
        by_cases q : z = c
        · rw [q, ec] at s
          cases s
        · rw [Sto.put_ne q] at t
          exact absurd s t⟩
    have gb : Gr C (upd H'' c (.lst cs')) D H3 := by
      refine ⟨fun z o e => ?_, g.view, g.sub, fun z o e nt n => ?_⟩
      · by_cases q : z = c
        · subst q
          rw [upd_same] at e
          rw [h3]
          exact e
        · rw [upd_ne q] at e
          exact g.up z o (by rw [hide_ne q]; exact e)
      · by_cases q : z = c
        · subst q
          exact hD
        · rw [upd_ne q] at e
          exact g.hid z o (by rw [hide_ne q]; exact e) nt n
    have st : StS (U.put c (.lst ds')) C (upd H'' c (.lst cs')) D := fun z d q => by
      by_cases e : z = c
      · subst e
        rw [Sto.put_same] at q
        cases q
        exact ⟨cs', upd_same, cn, rd⟩
      · rw [Sto.put_ne e] at q
        obtain ⟨_, _, _, n'⟩ := (a2.cell q).some
        exact (a2.cell q).at (upd_ne e) n' g.view
    obtain ⟨a3, w3⟩ := a2.leave ev gb st
    exact q v y _ _ D H3 (hS y ds' hR) ((w1.trans w2).trans w3) a3 ry
theorem es_var {i : Nat} (h : γ[i]? = some (Slot.d x)) (hp : P x S) : ExS (tVar i) γ S P := es_of (ev_var h) hp
/-- a op b -/
theorem es_op {r : R2} (h : ExS ta γ S fun x T => ExS tb γ T fun y U => ∃ z, R2D r x y z ∧ P z U) : ExS (tOp r ta tb) γ S P := fun A0 H0 A H σ a Q q =>
  h A0 H0 A H σ a _ fun v x T H1 B H' hx w1 a1 r1 => hx A0 H1 B H' σ a1 _ fun u y U H2 C H'' ⟨z, hr, hp⟩ w2 a2 r2 => hr C H'' v u a2.g.sub (r1.mono w2.v) r2 _ fun p D H3 g3 r3 => q p z U H2 D H3 hp ⟨(w1.trans w2).e, (w1.trans w2).v.trans g3.view⟩ (a2.grow g3) r3
/-- e1 if t else e2 -/
theorem es_if (h : ExST tt γ S fun b T => (b = true → ExS ta γ T P) ∧ (b = false → ExS tb γ T P)) : ExS (tIf tt ta tb) γ S P := fun A0 H0 A H σ a Q q =>
  h A0 H0 A H σ a _ fun b T H1 B H' hb w1 a1 => by
    cases b with
    | true => exact hb.1 rfl A0 H1 B H' σ a1 Q fun v x U H2 C H'' p w2 a2 r => q v x U H2 C H'' p (w1.trans w2) a2 r
    | false => exact hb.2 rfl A0 H1 B H' σ a1 Q fun v x U H2 C H'' p w2 a2 r => q v x U H2 C H'' p (w1.trans w2) a2 r
end
end Fr

set_option Elab.async false
set_option linter.all false
set_option maxRecDepth 100000
set_option maxHeartbeats 4000000
namespace Fr
open PySem PySem.Spec PyProof.Rows L2
open Evl (Ex)
/-! # more of a store: displays, tests, loops, pop -/
section
variable {K : PySem.W.Frag} {S : Sto} {γ δ : Gam} {ta tb te : TE} {tr : TA} {t u : TT} {ts tu tw : TS} {x y : Dat} {P : Dat → Sto → Prop} {PT : Bool → Sto → Prop} {PA : List Dat → Sto → Prop} {N M : Gam → Sto → Prop} {R : Dat → Sto → Prop} {E : XK} {i : Nat}
/-- [e, ..], data from here on -/
theorem es_lst (h : ExSA tr γ S fun xs T => xs.length ≤ sizeLine ∧ P (.lst xs) T) : ExS (tLst tr) γ S P := fun A0 H0 A H σ a Q q =>
  h A0 H0 A H σ a _ fun vs xs T H1 B H' ⟨hl, hp⟩ w a1 r => ⟨by rw [r.len]; exact hl, fun p hn => by
    have g := Gr.new (o := .lst vs) a1.g.sub hn
    exact q _ _ T H1 _ _ hp ⟨w.e, w.v.trans g.view⟩ (a1.grow g) (.lst upd_same (r.mono g.view))⟩
theorem es_tup (h : ExSA tr γ S fun xs T => xs.length ≤ sizeLine ∧ P (.tup xs) T) : ExS (tTup tr) γ S P := fun A0 H0 A H σ a Q q =>
  h A0 H0 A H σ a _ fun vs xs T H1 B H' ⟨hl, hp⟩ w a1 r => ⟨by rw [r.len]; exact hl, fun p hn => by
    have g := Gr.new (o := .tup vs) a1.g.sub hn
    exact q _ _ T H1 _ _ hp ⟨w.e, w.v.trans g.view⟩ (a1.grow g) (.tup upd_same (r.mono g.view))⟩
/-- [e, ..], a cell from here on -/
theorem es_lstN (h : ExSA tr γ S fun xs T => xs.length ≤ sizeLine ∧ ∀ l, T l = none → P (.hnd l) (T.put l (.lst xs))) : ExS (tLst tr) γ S P := fun A0 H0 A H σ a Q q =>
  h A0 H0 A H σ a _ fun vs xs T H1 B H' ⟨hl, hp⟩ w a1 r => ⟨by rw [r.len]; exact hl, fun p hn => by
    have g := Gr.newU (o := .lst vs) a1.g.sub hn
    have h0 : H1 p = none := Evl.fresh_back a1.g.up hn
    have hB : B p = none := Evl.fresh_back a1.g.sub hn
    have tp : T p = none := by
      cases q : T p with
      | none => rfl
      | some d =>
        obtain ⟨o', e1, _⟩ := (a1.s p d q).some
        rw [h0] at e1
        cases e1
    obtain ⟨H2, a2, w2⟩ := (a1.grow g).new (c := .lst xs) upd_same h0 hB (a1.far hn) fun Hn e An n => ⟨vs, e, n, r⟩
    exact q _ _ _ H2 _ _ (hp p tp) (w.trans w2) a2 (.hnd p)⟩
theorem est_B (h : ExS te γ S fun x T => ∃ b, x = .bl b ∧ PT b T) : ExST (tB te) γ S PT := fun A0 H0 A H σ a Q q =>
  h A0 H0 A H σ a _ fun v x T H1 B H' ⟨b, e, hp⟩ w a1 r => by
    subst e
    cases r
    exact ⟨b, rfl, q b T H1 B H' hp w a1⟩
theorem est_test (h : ExS te γ S fun x T => ∃ b, x = .bl b ∧ PT b T) : ExST (tTest te) γ S PT := est_B h
theorem est_not (h : ExST t γ S fun b T => PT (!b) T) : ExST (tNot t) γ S PT := fun A0 H0 A H σ a Q q => h A0 H0 A H σ a _ fun b T H1 B H' hp w a1 => q (!b) T H1 B H' hp w a1
theorem est_and (h : ExST t γ S fun b T => (b = true → ExST u γ T PT) ∧ (b = false → PT false T)) : ExST (tAnd t u) γ S PT := fun A0 H0 A H σ a Q q =>
  h A0 H0 A H σ a _ fun b T H1 B H' hb w a1 => by
    cases b with
    | true => exact hb.1 rfl A0 H1 B H' σ a1 Q fun c U H2 C H'' p w2 a2 => q c U H2 C H'' p (w.trans w2) a2
    | false => exact q false T H1 B H' (hb.2 rfl) w a1
theorem est_or (h : ExST t γ S fun b T => (b = true → PT true T) ∧ (b = false → ExST u γ T PT)) : ExST (tOr t u) γ S PT := fun A0 H0 A H σ a Q q =>
  h A0 H0 A H σ a _ fun b T H1 B H' hb w a1 => by
    cases b with
    | false => exact hb.2 rfl A0 H1 B H' σ a1 Q fun c U H2 C H'' p w2 a2 => q c U H2 C H'' p (w.trans w2) a2
    | true => exact q true T H1 B H' (hb.1 rfl) w a1
theorem ExST.weak {PT' : Bool → Sto → Prop} (h : ExST t γ S PT) (hp : ∀ b T, PT b T → PT' b T) : ExST t γ S PT' := fun A0 H0 A H σ a Q q => h A0 H0 A H σ a Q fun b T H1 B H' p => q b T H1 B H' (hp b T p)
/-- l.pop() -/
theorem es_pop (h : ExS ta γ S fun x T => ∃ l xs y, x = .hnd l ∧ T l = some (.lst (xs ++ [y])) ∧ P y (T.put l (.lst xs))) : ExS (tBM0 K "list" rPop ta) γ S P := fun A0 H0 A H σ a Q q =>
  h A0 H0 A H σ a _ fun v x T H1 B H' ⟨l, xs, y, e, el, hp⟩ w a1 r => by
    subst e
    cases r
    obtain ⟨us, h1, hn, rs⟩ := a1.cell el
    have hl : us.length = xs.length + 1 := by rw [rs.len, List.length_append]; rfl
    obtain ⟨v2, hv, rv⟩ := rs.get (i := xs.length) (d := y) (by rw [List.getElem?_append_right (Nat.le_refl _), Nat.sub_self]; rfl)
    refine ⟨.inl ⟨rfl, us, SqL.of h1⟩, l, us, v2, rfl, rfl, h1, by rw [hl]; exact hv, ?_⟩
    have rd : Reps B us.dropLast xs := by
      have : ∀ {ws : List V} {ds : List Dat}, Reps B ws (ds ++ [y]) → Reps B ws.dropLast ds := by
        intro ws ds
        induction ds generalizing ws with
        | nil =>
          intro h
          cases h with
          | cons a b =>
            cases b
            exact .nil
        | cons d ds ih =>
          intro h
          cases h with
          | cons a b =>
            have n : ∃ z zs, ∀ vs', Reps B vs' (ds ++ [y]) → vs'.length = ds.length + 1 := ⟨0, 0, fun vs' h => by rw [h.len, List.length_append]; rfl⟩
            rename_i v0 vs0
            cases vs0 with
            | nil =>
              have := b.len
              simp at this
            | cons v1 vs1 => exact .cons a (ih b)
      exact this rs
    obtain ⟨H3, a3, w3⟩ := a1.put (o := .lst us.dropLast) (c' := .lst xs) el fun Hn e => ⟨_, e, hn, rd⟩
    exact q v2 y _ H3 B _ hp (w.trans w3) a3 rv
/-! ### loops -/
theorem runS_forR {n : Int} {j : Nat} (h : EvA tr γ [.int n]) (hn : -(2 ^ 62) ≤ n ∧ n < 2 ^ 62) (I : Nat → Gam → Sto → Prop) (h0 : I 0 γ S)
    (hs : ∀ (i : Nat) δ T, (i : Int) < n → I i δ T → RunS tu (δ.set j (.d (.int (i : Int)))) T (I (i + 1)) R) (hd : ∀ δ T, I n.toNat δ T → N δ T) : RunS (tFor (iRng1 tr) (gName j) tu) γ S N R := fun A0 H0 A H σ a D dn dr =>
  h H0 A H σ a.k _ fun vs B H1 g1 r1 => by
    cases r1 with
    | cons r1 r2 =>
      cases r1
      cases r2
      have a1 := a.grow g1
      have w1 : Way A0 S H0 A S H0 B := ⟨Evo.refl, g1.view⟩
      refine ⟨n, rfl, hn.1, hn.2, for_range (lo := 0) (n := n.toNat) (fun i σ' H' => ∃ δ T H2 C, I i δ T ∧ Way A0 S H0 A T H2 C ∧ At A0 H2 C H' σ' δ T) ⟨γ, S, H0, B, h0, w1, a1⟩ ?_ ?_⟩
      · rintro i σ' H' hi ⟨δ, T, H2, C, hI, w2, a2⟩
        have e0 : (0 : Int) + (i : Int) = (i : Int) := Int.zero_add _
        rw [e0]
        have k3 := a2.k.setD (v := .int (i : Int)) (.int _) j
        exact hs i δ T (by omega) hI A0 H2 C H' _ ⟨a2.g, k3, a2.s⟩ { D with nx := _, ct := _, bk := D.nx } (fun δ' T' H3 C' H4 σ4 hN w3 a4 => ⟨δ', T', H3, C', hN, w2.trans w3, a4⟩) fun v x U H3 C' H4 r w3 g3 s3 rx => dr v x U H3 C' H4 r (w2.trans w3) g3 s3 rx
      · rintro σ' H' ⟨δ, T, H2, C, hI, w2, a2⟩
        exact dn δ T H2 C H' σ' (hd δ T hI) w2 a2
end
end Fr

set_option Elab.async false
set_option linter.all false
set_option maxRecDepth 100000
set_option maxHeartbeats 4000000
namespace Fr
open PySem PySem.Spec PyProof.Rows L2
open Evl (Ex)
/-! # a method that is called by keywords alone; o[k] of an own class -/
def KwOk1 (K : PySem.W.Frag) (fd : FuncData) (ps ks : List Str) (js : List Nat) : Prop := KBn K fd ps 1 ks (fun us ws => us ++ pick js ws) (fun vs zs => vs ++ pick js zs)
theorem kw_ok1 {K : PySem.W.Frag} {x qual : Str} {st : Stmt} {f : Addr} {fd : FuncData} {ps ks : List Str} {js : List Nat} (F : Fun K x qual st f fd)
    (h : ∀ (kV doc pm : Value) (an : Option Addr) (cdv ct u : Value) (ws : List Value), ws.length = ks.length → bindArgs (PySem.W.fnOf x qual (defArgs st) (defBody st) (defScope st) .none kV doc pm an cdv ct) ⟨[u], ks.zip ws⟩ = pure (ps.zip (u :: pick js ws))) : KwOk1 K fd ps ks js := by
  obtain ⟨oc, od, kV, doc, pm, an, cdv, ct, osl, rfl, lk, hcd⟩ := F.ex
  refine ⟨fun s us ws X l1 l2 => ?_, fun r1 r2 => r1.append (vals_pick r2 js)⟩
  obtain ⟨u, rfl⟩ := List.length_eq_one_iff.mp l1
  exact .of_eq (h kV doc pm an cdv ct u ws l2)
def tMethW (C : Addr) (m : Str) (js : List Nat) (n : Nat) (sp : Sp) (E : XK) (ta : TE) (tk : TA) : TE := fun σ H Q => ta σ H fun x H1 => ∃ a dx fs, x = .ref a ∧ H1 a = some (.ins C dx fs) ∧ fs.lookup m = none ∧ tk σ H1 fun zs H2 => zs.length = n ∧ sp (x :: pick js zs) H2 Q E
section
variable {X : Cx} {CX : CXT} {k : Nat} {C f : Addr} {m : Str} {fd : FuncData} {ps ks : List Str} {js : List Nat} {sp : Sp} {E : XK} {o e : Expr} {apos pos : Pos} {kws : List Keyword} {ta tb : TE} {tk : TA}
theorem pe_methK {pl : Sem Bool} (he : PE X o ta) (c : Cls X.K C) (hm : Meth X.K C m f) (F : FnOk X.prog X.w X.K X.mg X.base CX k f fd ps sp) (hr : Room k X.A) (hb : KwOk1 X.K fd ps ks js) (hx : Passes CX X E) (hkw : PK X kws tk)
    (hall : (backToKw pos (keywordEach kws X.env)).all (·.1.isSome) = true := by rfl) (hks : (backToKw pos (keywordEach kws X.env)).filterMap (·.1) = ks := by rfl)
    (hpl : ((backTo pos (starEach [] X.env)).any (·.1) || (backToKw pos (keywordEach kws X.env)).any (·.1.isNone)) = false := by rfl)
    (ht : eval (.Call (.Attribute o m apos) [] kws pos) X.env = (do
      let w ← eval o X.env
      standAt apos.atName
      let (g, first) ← holding [w] (getMethod w m pl)
      callWith pos g first (backTo pos (starEach [] X.env)) (backToKw pos (keywordEach kws X.env))) := by rfl) :
    PE X (.Call (.Attribute o m apos) [] kws pos) (tMethW C m js ks.length sp E ta tk) := by
  refine ⟨fun pins s σ H Q I h => ?_⟩
  refine PySem.W.methodCall_KW (pl := pl) (thn (he.run pins s σ H _ I h) fun u s1 ⟨x, H1, I1, rx, a, dx, fs, ex, ea, l, q⟩ => ?_) ht
  subst ex
  obtain rfl : u = Value.ref a := rx
  refine getmeth_ok I1 ea c hm l ?_
  refine PySem.W.callWith_KW0 (first := [.ref a]) (h₀ := X.base) I.ok.mod.kin hm.kp hall ?_ hpl
  refine thn (hkw.run pos pins s1 σ H1 _ I1 q) fun ws s2 ⟨zs, H2, I2, rz, l2, q2⟩ => ⟨I2.kIn, ?_⟩
  rw [hks]
  exact run_fnN (us := [.ref a]) (vs := [.ref a]) F hr hb hx I2 (.cons rfl .nil) rz rfl l2 q2
def rIxOwn (C : Addr) (sp : Sp) (E : XK) : R2 := fun x y H Q => ∃ a dx fs, x = .ref a ∧ H a = some (.ins C dx fs) ∧ sp [.ref a, y] H Q E
theorem pe_ixOwn (F : FnOk X.prog X.w X.K X.mg X.base CX k f fd ps sp) (hr : Room (k + 1) X.A) (s : OwnSp X.K C "__getitem__" f) (hfn : PySem.W.fnIn X.K f = true) (hb : Binds X.K fd ps []) (hx : Passes CX X E) (ha : PE X o ta) (hbb : PE X e tb)
    (hsl : ∀ v u : Value, subscripted e true v u = runValue (.builtin "lifetime.subscript" ⟨[v, u], []⟩) := by intro _ _; rfl) : PE X (.Subscript o e pos) (tOp (rIxOwn C sp E) ta tb) := by
  refine ⟨fun pins s0 σ H Q I h => ?_⟩
  refine Subscript_ (binT ha hbb I h fun v u s2 x y H2 I2 rx ry q => ?_)
  obtain ⟨a, dx, fs, rfl, ea, hq⟩ := q
  cases (show v = Value.ref a from rx)
  obtain ⟨mA, J, _⟩ := ins_get I2.hok ea
  obtain ⟨od, J, _⟩ := J.look
  obtain ⟨mm, hF⟩ := I2.fr
  exact PySem.W.sub_K hF I2.ok.mod.kin J s.at_ hfn s.fn (run_own (n := 0) I2 I2.env0.in1 F hr.in1 hb hx (vs := [.ref a, y]) (.cons rfl (.cons ry .nil)) hq) (hsl _ _)
end
section
variable {K : PySem.W.Frag} {γ : Gam} {S : Sto} {ta tb : TE} {tr : TA} {x y : Dat} {xs : List Dat} {C : Addr} {fs : List (Str × Dat)} {m : Str} {E : XK} {R : List Dat → Dat → Prop} {P : Dat → Sto → Prop} {js : List Nat}
theorem ev_ixO (h : EvD ta γ (.obj C fs)) (hb : EvD tb γ x) (hR : R [.obj C fs, x] y) : EvD (tOp (rIxOwn C (Pr R) E) ta tb) γ y := fun H0 A H σ k Q q =>
  h H0 A H σ k _ fun v B H1 g1 r1 => by
    cases r1 with
    | @obj a _ dx kvs _ h1 rf =>
      exact hb H0 B H1 σ (k.mono g1) _ fun u D H2 g2 r2 => ⟨a, dx, kvs, rfl, g2.sub _ _ (g2.view _ _ h1), D, [.obj C fs, x], y, g2.sub, .cons (.obj (g2.view _ _ h1) (rf.mono g2.view)) (.cons r2 .nil), hR, fun v D' H3 g3 r3 => q v D' H3 ((g1.trans g2).trans g3) r3⟩
theorem es_methK {Pre : Sto → List Dat → (Dat → Sto → Prop) → Prop} {n : Nat} (h : ExS ta γ S fun x T => ∃ p dx fs, x = .hnd p ∧ T p = some (.ins C dx fs) ∧ fs.lookup m = none ∧ ExSA tr γ T fun xs U => xs.length = n ∧ Pre U (.hnd p :: pick js xs) P) : ExS (tMethW C m js n (PrM Pre) E ta tr) γ S P := fun A0 H0 A H σ a Q q =>
  h A0 H0 A H σ a _ fun v x T H1 B H' ⟨p, dx, fs, e, ep, l, hx⟩ w a1 r => by
    subst e
    cases r
    obtain ⟨kvs, h1, hn, rf⟩ := a1.cell ep
    refine ⟨p, dx, kvs, rfl, h1, RepsF.no rf l, hx A0 H1 B H' σ a1 _ fun vs xs U H2 C' H'' ⟨hl, hp⟩ w2 a2 r2 => ⟨by rw [r2.len]; exact hl, ?_⟩⟩
    refine ⟨C', U, .hnd p :: pick js xs, P, a2.g.sub, .cons (.hnd p) (reps_pick r2 js), a2.s.enter a2.g, hp, fun y V' D' H3 H4 v py ev g st rv => ?_⟩
    obtain ⟨a3, w3⟩ := a2.leave ev g st
    exact q v y V' _ D' H4 py ((w.trans w2).trans w3) a3 rv
end
end Fr

set_option Elab.async false
set_option linter.all false
set_option maxRecDepth 100000
set_option maxHeartbeats 4000000
namespace Fr
open PySem PySem.Spec PyProof.Rows L2 HotX
open Evl (Ex)
/-! # C(e), C(f=e) of an own exception class with an __init__; what is behind is an exception in the air that may be noted -/
section
variable {X : Cx} {CX : CXT} {x : Str} {C fI : Addr} {k : Nat} {fd : FuncData} {ps ks : List Str} {js : List Nat} {sp : Sp} {p pos : Pos} {e : Expr} {es : List Expr} {kws : List Keyword} {ta tk : TA}
/-- the class is called: us by position, then kw by name; bs what __init__ gets behind self -/
theorem made_kw {pins : List (Addr × Obj)} {σ : L2.St} {H1 : Hp} {s1 : Shared} {Q : XK} {us bs : List Value} {zs : List V} {kw : List (Str × Value)} (T : OexC X.K C) (iC : PySem.W.findIn X.K (.ref C) "__init__" = some (some (.ref fI)))
    (tI : PySem.W.typeIn X.K (.ref fI) = some (.type "function")) (F1 : FnOk X.prog X.w X.K X.mg X.base CX k fI fd ps sp) (hr : Room (k + 1) X.A) (hx : Passes CX X (fun _ _ _ => False)) (I1 : Inv X pins σ H1 s1) (r : Vals zs bs) (hus : us.length ≤ sizeLine)
    (hb : ∀ (s : Shared) (a : Addr), X.K.In s.heap → (Value.ref a :: bs).length = ps.length → BindsTo s fd ⟨.ref a :: us, kw⟩ (ps.zip (.ref a :: bs)))
    (q1 : ∀ a, H1 a = none → sp (.ref a :: zs) (upd H1 a (exo a C none)) (fun v H2 => v = .non ∧ ∃ (d : Addr) (fs : List (Str × V)), H2 a = some (exo a C (some d)) ∧ H2 d = some (exd d fs) ∧ H1 d = none ∧ Q (.ref C) (some d) (upd (del H2 a) d (.xd fs))) (fun _ _ _ => False)) :
    wpAny (model X.prog X.w) X.A (call (.ref C) us kw) (L2N.MkP X pins σ Q) X.xe s1 := by
  obtain ⟨nm, qn, N, bl, bm, sn, sub, ab, col, dd, k0, k1, k2, k3, k5, hC, hbm⟩ := T.cls
  obtain ⟨hp, g, dr, tk, os⟩ := s1
  have gone : H1 (hp.objs.size + 1) = none := I1.hok.fresh (Nat.le_succ _)
  have hq := q1 _ gone
  have up : ∀ b o, hp.get? b = some o → ((hp.push (PySem.W.kdv_tup us)).push (PySem.HandSPX.excO C hp.objs.size)).get? b = some o :=
    fun b o e => Heap.get?_push_of_some _ (Heap.get?_push_of_some _ e)
  have at1 : ((hp.push (PySem.W.kdv_tup us)).push (PySem.HandSPX.excO C hp.objs.size)).get? (hp.objs.size + 1) = some (PySem.HandSPX.excO C hp.objs.size) := by
    heap_get
  have I2 := I1.laid (t' := tk) (a := hp.objs.size + 1) (o := exo (hp.objs.size + 1) C none) up (Nat.le_succ _) (exo_ok at1)
  have r2 : Vals (V.ref (hp.objs.size + 1) :: zs) (Value.ref (hp.objs.size + 1) :: bs) := .cons rfl r
  have hl : (Value.ref (hp.objs.size + 1) :: bs).length = ps.length := r2.length.symm.trans (F1.len _ _ _ _ hq)
  have base := PySem.FrKw.kw_own (kw := kw) F.excBase_ValueError (fun Y => PySem.HandSPX.refsVE_contains Y bm hbm) (I1.kIn _ _ hC) hus (PySem.W.looks_findIn I1.kIn iC) (fun o => PySem.W.bind_fn I1.kIn o tI)
    (pg := X.prog) (wd := X.w) (Ar := X.A) (gs := g) (dr := dr) (tk := tk) (oS := os) (Rs := fun r s' => match r with
      | .ok (.ret u) => L2N.MkP X pins σ Q u s'
      | .ok _ => False
      | .error e => X.xe e s')
  refine wpAny_call (codeAny_mono (base (codeAny_mono (F1.run _ X.stack _ _ _ _ _ _ (fun _ _ _ => False) (hr.make C us kw) (I2.env0.make C us kw) (hb _ _ I2.kIn hl) r2 hq) fun r s' hq' => ?_)) fun r s' z => ?_)
  · cases r with
    | error er => exact hx pins σ _ _ er s' I2 hq'
    | ok fl =>
      cases fl with
      | ret u =>
        obtain ⟨v, H2, os2, bare2, un2, hok2, rv, ev, d, fs, ea, ed, hd1, q2⟩ := hq'
        subst ev
        obtain ⟨h2, g2, d2, t2, os'⟩ := s'
        obtain ⟨t0, G, J, kG, ge, hoe, na⟩ := mk_end0 (d2 := d2) (t2 := t2) I1 (Nat.le_succ _) up un2 hok2 os2 bare2 ea ed hd1
        exact ⟨rv, _, _, _, _, _, .ref C, some d, rfl, J, kG, ge, hoe, ⟨rfl, rfl, fun vs e => by cases e; rfl⟩, rfl, rfl, na, rfl, bare2, raises_own T.exC T.tyC, q2⟩
      | next => exact False.elim hq'
      | brk => exact False.elim hq'
      | cont => exact False.elim hq'
  · cases r with
    | error er => exact z
    | ok fl => cases fl <;> exact z
/-- C(e, ..) -/
theorem pmkN_oex (T : OexC X.K C) (iC : PySem.W.findIn X.K (.ref C) "__init__" = some (some (.ref fI))) (tI : PySem.W.typeIn X.K (.ref fI) = some (.type "function")) (F1 : FnOk X.prog X.w X.K X.mg X.base CX k fI fd ps sp) (hr : Room (k + 1) X.A)
    (hb : Binds X.K fd ps []) (hx : Passes CX X (fun _ _ _ => False)) (hg : Gl X x) (hm : X.mg x = some (.ref C)) (ha : PA X (e :: es) ta)
    (hdb : (x == ("__debug__" : Str)) = false := by decide) (he : starEach (e :: es) X.env = (false, eval e X.env) :: starEach es X.env := by rfl) (hpl : (backTo pos (starEach es X.env)).any (·.1) = false := by rfl) :
    L2N.PMk X (.Call (.Name x p) (e :: es) [] pos) (tMkO C sp [] ta) := by
  intro pins s σ H Q I h
  refine wpAny_Call_Name_kw (ld_glob I hg hm ?_ hdb)
  refine PySem.W.callWith_K (h₀ := X.base) I.ok.mod.kin T.kC (thn (ha.run pos pins s σ H _ I h) ?_) he hpl
  rintro us s1 ⟨vs, H1, I1, r1, hz, q1⟩
  refine ⟨I1.kIn, made_kw (kw := []) T iC tI F1 hr hx I1 r1 ?_ (fun s a kin l => ?_) fun a ha => ?_⟩
  · show us.length ≤ sizeLine
    rw [← r1.length, sizeLine_eq]
    omega
  · have b := hb s (.ref a :: us) kin (by rw [List.append_nil]; exact l)
    rw [List.append_nil] at b
    exact b
  · have z := q1 a ha
    rw [List.append_nil] at z
    exact z
/-- C(f=e, ..) -/
def tMkW (C : Addr) (js : List Nat) (n : Nat) (sp : Sp) (tk : TA) : L2.St → Hp → XK → Prop := fun σ H Q => tk σ H fun zs H1 => zs.length = n ∧ ∀ a, H1 a = none → sp (.ref a :: pick js zs) (upd H1 a (exo a C none))
  (fun v H2 => v = .non ∧ ∃ (d : Addr) (fs : List (Str × V)), H2 a = some (exo a C (some d)) ∧ H2 d = some (exd d fs) ∧ H1 d = none ∧ Q (.ref C) (some d) (upd (del H2 a) d (.xd fs))) (fun _ _ _ => False)
theorem pmkN_oexK (T : OexC X.K C) (iC : PySem.W.findIn X.K (.ref C) "__init__" = some (some (.ref fI))) (tI : PySem.W.typeIn X.K (.ref fI) = some (.type "function")) (F1 : FnOk X.prog X.w X.K X.mg X.base CX k fI fd ps sp) (hr : Room (k + 1) X.A)
    (hb : KwOk1 X.K fd ps ks js) (hx : Passes CX X (fun _ _ _ => False)) (hg : Gl X x) (hm : X.mg x = some (.ref C)) (hkw : PK X kws tk)
    (hall : (backToKw pos (keywordEach kws X.env)).all (·.1.isSome) = true := by rfl) (hks : (backToKw pos (keywordEach kws X.env)).filterMap (·.1) = ks := by rfl) (hdb : (x == ("__debug__" : Str)) = false := by decide)
    (hpl : ((backTo pos (starEach [] X.env)).any (·.1) || (backToKw pos (keywordEach kws X.env)).any (·.1.isNone)) = false := by rfl) :
    L2N.PMk X (.Call (.Name x p) [] kws pos) (tMkW C js ks.length sp tk) := by
  intro pins s σ H Q I h
  refine wpAny_Call_Name_kw (ld_glob I hg hm ?_ hdb)
  refine PySem.W.callWith_KW0 (h₀ := X.base) I.ok.mod.kin T.kC hall ?_ hpl
  refine thn (hkw.run pos pins s σ H _ I h) ?_
  rintro ws s2 ⟨zs, H2, I2, rz, l2, q2⟩
  refine ⟨I2.kIn, ?_⟩
  rw [hks]
  have hr2 := KBn.rel hb (vs := [V.ref 0]) (us := [Value.ref 0]) (.cons rfl .nil) rz
  have rp : Vals (pick js zs) (pick js ws) := by
    cases hr2 with
    | cons _ r => exact r
  exact made_kw (us := []) (bs := pick js ws) T iC tI F1 hr hx I2 rp (Nat.zero_le _) (fun s a kin l => KBn.to hb s [.ref a] ws kin rfl (rz.length.symm.trans l2)) q2
/-- C() of one without an __init__ -/
theorem pmkN_own0 {bmB : List Value} {B newId initId : String} (F : ExcBaseFacts B newId initId bmB) (q : PySem.W.excIn X.K C bmB newId = true) (gC : X.mg x = some (.ref C)) (kC : PySem.W.keepIn X.K (.ref C) = true) (r : Raises X (.ref C)) (hg : Gl X x)
    (hdb : (x == ("__debug__" : Str)) = false := by decide) : L2N.PMk X (.Call (.Name x p) [] [] pos) (fun _ H Q => Q (.ref C) none H) := by
  intro pins s σ H Q I h
  refine wpAny_Call_Name_kw (ld_glob I hg gC ?_ hdb)
  refine PySem.W.callWith_K0 I.kIn kC ?_
  obtain ⟨bm, N, nm, qn, bs, hdct, sn, sub, ab, col, dd, k0, k1, k2, k3, k5, mN, hC, hN, hni, T⟩ := exc_obj I.kIn q
  show wpAny _ _ (call (.ref C) []) _ _ _
  refine wpAny_call_exc_subT F T hC hN hni (fun h' e hm => ?_) (Nat.zero_le _)
  exact L2N.mk_of I hm r h (I.hok.gone hm.new)
end
/-! # defs that raise, what they raise may have a dict -/
def PrEN (RE : List Dat → Value → Prop) : Sp := fun vs H Q E => ∃ A xs cls, Ex A H ∧ Reps A vs xs ∧ RE xs cls ∧ ∀ d B H', XD H' d → Gr A H B H' → E cls d H'
def RunEN (ts : TS) (W : WX) (γ : Gam) (cls : Value) : Prop := ∀ A0 H0 A H σ, Gr A0 H0 A H → Ok H0 A H σ γ → ∀ D : Ends, (∀ d B H' σ', XD H' d → Gr A0 H0 B H' → W cls d σ' H') → ts D σ H
def EvEN (te : TE) (W : WX) (γ : Gam) (cls : Value) : Prop := ∀ H0 A H σ, Ok H0 A H σ γ → ∀ Q : VK, (∀ d B H', XD H' d → Gr A H B H' → W cls d σ H') → te σ H Q
section
variable {γ δ : Gam} {te : TE} {t : TT} {xs : List Dat} {tu tw : TS} {W : WX} {cls : Value} {RE : List Dat → Value → Prop}
theorem ren_of (h : RunE tu W γ cls) : RunEN tu W γ cls := fun A0 H0 A H σ g k D d => h A0 H0 A H σ g k D fun B H' σ' => d none B H' σ' (.inl rfl)
theorem een_call {tr : TA} (h : EvA tr γ xs) (hR : RE xs cls) : EvEN (tCallS (PrEN RE) (WE W) tr) W γ cls := fun H0 A H σ k Q q =>
  h H0 A H σ k _ fun vs B H1 g1 r1 => ⟨B, xs, cls, g1.sub, r1, hR, fun d C H2 x g2 => q d C H2 x (g1.trans g2)⟩
theorem ren_drop (h : EvEN te W γ cls) : RunEN (tDrop te) W γ cls := fun A0 H0 A H σ g0 k D d => h H0 A H σ k _ fun d' B H' x g => d d' B H' σ x (g0.trans g)
theorem ren_ifT {b : Bool} (h : EvT t γ b) (h1 : b = true → RunEN tu W γ cls) (h2 : b = false → RunEN tw W γ cls) : RunEN (tIfS t tu tw) W γ cls := fun A0 H0 A H σ g0 k D d => h H0 A H σ k _ fun B H1 g1 => by
  cases b with
  | true => exact h1 rfl A0 H0 B H1 σ (g0.trans g1) (k.mono g1) D d
  | false => exact h2 rfl A0 H0 B H1 σ (g0.trans g1) (k.mono g1) D d
theorem ren_seq0 (h : RunEN tu W γ cls) : RunEN (tSeq tu tw) W γ cls := fun A0 H0 A H σ g0 k D d => h A0 H0 A H σ g0 k { D with nx := tw D } d
theorem ren_seq {R' : Dat → Gam → Prop} (h : Run tu γ (fun ε => ε = δ) (fun _ _ => False)) (hk : RunEN tw W δ cls) : RunEN (tSeq tu tw) W γ cls := fun A0 H0 A H σ g0 k D d =>
  h A0 H0 A H σ g0 k { D with nx := tw D } (fun ε B H' σ' e g' v k' => by subst e; exact hk A0 H0 B H' σ' g' k' D d) fun _ _ _ _ _ _ z _ _ => z.elim
end
section
variable {P : Program} {w0 : World} {K : PySem.W.Frag} {mg : Str → Option Value} {base : Heap}
theorem fn_prEN {x qual : Str} {st : Stmt} {f : Addr} {fd : FuncData} {N ps : List Str} {k : Nat} {RE : List Dat → Value → Prop} (F : Fun K x qual st f fd) (S : FnScope N ps (defScope st)) (hlen : ∀ xs c, RE xs c → xs.length = ps.length)
    (hbody : ∀ (cdv : Value) (A : Around) (outer : List PySem.Env) (s : Shared) (H : Hp) (E : XK), Room k (A.deeper (envOfC qual (defScope st) s.heap.objs.size f cdv)) →
      ∃ t, PSs (cxOf (L2N.CX P w0) P w0 K mg base N qual (defScope st) f cdv A outer s H E) (defBody st) t ∧ ∀ xs c, RE xs c → RunEN t (fun c d _ H => E c d H) (entry N xs) c) : FnOk P w0 K mg base (L2N.CX P w0) (k + 1) f fd ps (PrEN RE) := by
  obtain ⟨oc, od, kV, doc, pm, an, cdv, ct, osl, rfl, lk, hcd⟩ := F.ex
  refine fn_of lk hcd S (fun vs H Q E h => ?_) fun A outer s H vs Q E hr h => ?_
  · obtain ⟨A, xs, c, s, r, hR, _⟩ := h
    rw [r.len]
    exact hlen xs c hR
  · obtain ⟨B, xs, c, sub, r, hR, q⟩ := h
    obtain ⟨t, h1, h2⟩ := hbody cdv A outer s H E hr
    exact ⟨t, h1, h2 xs c hR B H B H _ (Gr.refl sub) (ok_entry sub N r) _ fun d C H' σ' x g => q d C H' x g⟩
end
end Fr

set_option Elab.async false
set_option linter.all false
set_option maxRecDepth 100000
set_option maxHeartbeats 4000000
namespace Fr
open PySem PySem.Spec PyProof.Rows L2
/-! # the head by one run, with facts and one test more -/
abbrev AlZ : Type := He.AlD × Bool
/-- which objects are looked at: defs by name, classes with those above them and their namespaces, methods; the code of each -/
structure Pick where
  defs : List Str
  clss : List Str
  meths : List (Str × Str)
def codeR (g : Addr → Option Obj) (a : Addr) : List Addr := match g a with
  | some ⟨_, _, .func fd, _⟩ => He.refV fd.code
  | _ => []
def clsR (g : Addr → Option Obj) (a : Addr) : List Addr := match g a with
  | some ⟨_, _, .cls cd, _⟩ => cd.ns :: cd.mro.flatMap fun v => match v with
    | .ref b => if b = a then [] else b :: (match g b with
      | some ⟨_, _, .cls ce, _⟩ => [ce.ns]
      | _ => [])
    | _ => []
  | _ => []
def withCode (g : Addr → Option Obj) (as : List Addr) : List Addr := as.flatMap fun a => a :: codeR g a
def withCls (g : Addr → Option Obj) (as : List Addr) : List Addr := as.flatMap fun a => a :: clsR g a
def asC (p : Pick) (g : Addr → Option Obj) : List Addr := withCls g (p.clss.map (He.ga (He.frG g [mainGlobals])))
def asM (p : Pick) (g : Addr → Option Obj) : List Addr := withCode g (p.meths.map fun q => He.ma (He.frG g (asC p g)) (He.ga (He.frG g [mainGlobals]) q.1) q.2)
def asQ (p : Pick) (g : Addr → Option Obj) : List Addr := mainGlobals :: (asC p g ++ (asM p g ++ withCode g (p.defs.map (He.ga (He.frG g [mainGlobals])))))
def obsZ (n : Pick) (fa : List He.Fa) (fn : List He.DefD) (ex : PySem.W.Frag → Bool) (g : Addr → Option Obj) : AlZ := (He.obsD fa fn (He.frG g (asQ n g)), ex (He.frG g (asQ n g)))
structure SaysZ (fa : List He.Fa) (fn : List He.DefD) (ex : PySem.W.Frag → Bool) (K : PySem.W.Frag) : Prop where
  d : He.SaysD fa fn K
  e : ex K = true
def hookZ (n : Pick) (fa : List He.Fa) (fn : List He.DefD) (ex : PySem.W.Frag → Bool) : PySem.W.Hook where
  α := AlZ
  obs := fun s => obsZ n fa fn ex s.heap.get?
  val := fun _ => (He.valD fn, true)
  says := fun _ h => ∃ K : PySem.W.Frag, K.In h ∧ SaysZ fa fn ex K
  of := fun _ _ e => ⟨_, He.frG_in, congrArg (fun z : AlZ => z.1) e, congrArg (fun z : AlZ => z.2) e⟩
  keeps := fun _ _ _ ⟨K, hK, c⟩ k => ⟨K, PySem.W.Frag.In.keeps hK k, c⟩
theorem obsZ_eq {n : Pick} {fa : List He.Fa} {fn : List He.DefD} {ex : PySem.W.Frag → Bool} {g : Addr → Option Obj} {s : Shared} (h : ∀ a, g a = s.heap.get? a) : obsZ n fa fn ex g = (hookZ n fa fn ex).obs s := by
  have e : g = s.heap.get? := funext h
  rw [e] <;> rfl
theorem fun_ofD {K : PySem.W.Frag} {x q : Str} {st : Stmt} {f : Addr} {fd : FuncData} (F : FunD K x q (defArgs st) (defBody st) (defScope st) [] [] f fd) : Fun K x q st f fd := by
  obtain ⟨oc, od, dV, kV, doc, pm, an, cdv, ct, osl, e, l, c, hd, _⟩ := F.ex
  rcases hd with ⟨_, rfl⟩ | ⟨z, _⟩
  · exact ⟨⟨oc, od, kV, doc, pm, an, cdv, ct, osl, e, l, c⟩, F.kp⟩
  · exact absurd rfl z
theorem kit_ref {K : PySem.W.Frag} {C : Addr} {T : String} {b : Bool} (hm : PySem.W.kitMeta T = true) (h : PySem.W.subIn K (.ref C) (.type T) = some b) : PySem.W.kitOne K (.ref C) (.type T) = some b := by
  unfold PySem.W.kitOne PySem.W.kitCls
  rw [if_neg (by intro z; cases z)]
  show (if PySem.W.kitMeta T = true then PySem.W.subIn K (.ref C) (.type T) else none) = some b
  rw [if_pos hm]
  exact h
/-- an own class's instances are none of the built-in kinds -/
def obB (K : PySem.W.Frag) (x : Str) : Bool := He.eqO (PySem.W.findIn K (.ref (He.ga K x)) "__class__") (some (some (.builtin "object.__class__"))) && (He.eqO (PySem.W.specialIn K (.builtin "object.__class__") "__get__") (some (some (.builtin "getset_descriptor.__get__"))) &&
  (decide (PySem.W.takesIn K (.builtin "object.__class__") = some true) && (decide (PySem.W.mroIn K (He.ga K x) (.type "object") = some true) && (decide (PySem.W.subIn K (.ref (He.ga K x)) (.type "int") = some false) && (decide (PySem.W.subIn K (.ref (He.ga K x)) (.type "bool") = some false) &&
  (decide (PySem.W.subIn K (.ref (He.ga K x)) (.type "tuple") = some false) && (decide (PySem.W.subIn K (.ref (He.ga K x)) (.type "list") = some false) && decide (PySem.W.subIn K (.ref (He.ga K x)) (.type "str") = some false))))))))
theorem obB_ok {K : PySem.W.Frag} {x : Str} (h : obB K x = true) (c : Cls K (He.ga K x)) : ObF K (He.ga K x) := by
  obtain ⟨h1, h⟩ := He.ba h
  obtain ⟨h2, h⟩ := He.ba h
  obtain ⟨h3, h⟩ := He.ba h
  obtain ⟨h4, h⟩ := He.ba h
  obtain ⟨h5, h⟩ := He.ba h
  obtain ⟨h6, h⟩ := He.ba h
  obtain ⟨h7, h⟩ := He.ba h
  obtain ⟨h8, h9⟩ := He.ba h
  exact ⟨c, He.eqO_ok h1, He.eqO_ok h2, of_decide_eq_true h3, of_decide_eq_true h4, kit_ref (by decide +kernel) (of_decide_eq_true h5), kit_ref (by decide +kernel) (of_decide_eq_true h6), kit_ref (by decide +kernel) (of_decide_eq_true h7), kit_ref (by decide +kernel) (of_decide_eq_true h8), kit_ref (by decide +kernel) (of_decide_eq_true h9)⟩
/-- an own exception class: what isinstance asks of it -/
def excCB (K : PySem.W.Frag) (x : Str) : Bool := He.eqO (PySem.W.findIn K (.ref (He.ga K x)) "__getattribute__") (some (some (.builtin "BaseException.__getattribute__"))) && (He.eqO (PySem.W.findIn K (.ref (He.ga K x)) "__getattr__") (some none) && (decide (PySem.W.subIn K (.ref (He.ga K x)) (.type "BaseException") = some true) && (PySem.W.hasDictIn K (He.ga K x) &&
  (He.eqO (PySem.W.findIn K (.ref (He.ga K x)) "__class__") (some (some (.builtin "object.__class__"))) && (He.eqO (PySem.W.specialIn K (.builtin "object.__class__") "__get__") (some (some (.builtin "getset_descriptor.__get__"))) && (decide (PySem.W.takesIn K (.builtin "object.__class__") = some true) && decide (PySem.W.mroIn K (He.ga K x) (.type "object") = some true)))))))
theorem excCB_ok {K : PySem.W.Frag} {x : Str} (h : excCB K x = true) : ExcC K (He.ga K x) := by
  obtain ⟨h1, h⟩ := He.ba h
  obtain ⟨h2, h⟩ := He.ba h
  obtain ⟨h3, h⟩ := He.ba h
  obtain ⟨h4, h⟩ := He.ba h
  obtain ⟨h5, h⟩ := He.ba h
  obtain ⟨h6, h⟩ := He.ba h
  obtain ⟨h7, h8⟩ := He.ba h
  exact ⟨He.eqO_ok h1, He.eqO_ok h2, of_decide_eq_true h3, h4, He.eqO_ok h5, He.eqO_ok h6, of_decide_eq_true h7, of_decide_eq_true h8⟩
theorem na1 {K : PySem.W.Frag} {C : Addr} {a : Str} (h : NoAttr K C a) : ∀ n ∈ [a], NoAttr K C n := fun n hn => by rw [List.mem_singleton.mp hn]; exact h
theorem naC {K : PySem.W.Frag} {C : Addr} {a : Str} {as : List Str} (h : NoAttr K C a) (t : ∀ n ∈ as, NoAttr K C n) : ∀ n ∈ a :: as, NoAttr K C n := fun n hn => (List.mem_cons.mp hn).elim (fun e => e ▸ h) (t n)
end Fr

set_option Elab.async false
set_option linter.all false
set_option maxRecDepth 100000
set_option maxHeartbeats 4000000
namespace Fr
open PySem PySem.Spec PyProof.Rows L2
/-! # the head by one run, with properties -/
def getterAt (K : PySem.W.Frag) (p : Addr) : Addr := match PySem.W.recIn K p "property" with
  | some (.ref g :: _) => g
  | _ => 0
def propAt (K : PySem.W.Frag) (x f : Str) : Addr := He.ma K (He.ga K x) f
def getAd (K : PySem.W.Frag) (q : Str × Str) : Addr := getterAt K (propAt K q.1 q.2)
/-- a def at an address, as it is looked at -/
def seenAt (K : PySem.W.Frag) (a : Addr) : He.FnV := match K.lookup a with
  | some ⟨_, _, .func u, _⟩ => some (u.name, u.qualname, u.params, u.body, u.scope, u.globals, u.closure, u.defaults, u.builtins)
  | _ => none
structure PropD where
  cls : Str
  name : Str
  qual : Str
  st : Stmt
def PropD.due (d : PropD) : He.FnV := some (d.name, d.qual, defArgs d.st, .stmts (defBody d.st), defScope d.st, mainGlobals, [], .none, builtinsNs)
def PropD.good (K : PySem.W.Frag) (d : PropD) : Bool := He.eqO (PySem.W.findIn K (.ref (He.ga K d.cls)) d.name) (some (some (.ref (propAt K d.cls d.name)))) && (He.eqO (PySem.W.specialIn K (.ref (propAt K d.cls d.name)) "__get__") (some (some (.builtin "property.__get__"))) &&
  (decide (PySem.W.takesIn K (.ref (propAt K d.cls d.name)) = some true) && ((match PySem.W.recIn K (propAt K d.cls d.name) "property" with
    | some (.ref _ :: _) => true
    | _ => false) && (PySem.W.keepIn K (.ref (getAd K (d.cls, d.name))) && (match K.lookup (getAd K (d.cls, d.name)) with
    | some ⟨_, _, .func u, _⟩ => PySem.W.codeIn K u.code d.qual
    | _ => false)))))
theorem PropD.is {K : PySem.W.Frag} {d : PropD} (h : d.good K = true) : PropOf K (He.ga K d.cls) d.name (propAt K d.cls d.name) (getAd K (d.cls, d.name)) := by
  obtain ⟨h1, h⟩ := He.ba h
  obtain ⟨h2, h⟩ := He.ba h
  obtain ⟨h3, h⟩ := He.ba h
  obtain ⟨h4, h⟩ := He.ba h
  refine ⟨He.eqO_ok h1, He.eqO_ok h2, of_decide_eq_true h3, ?_⟩
  show ∃ rest, _ = some (Value.ref (getterAt K (propAt K d.cls d.name)) :: rest)
  unfold getterAt
  split at h4
  · rename_i g rest e
    rw [e]
    exact ⟨rest, rfl⟩
  · cases h4
theorem PropD.fn {K : PySem.W.Frag} {d : PropD} (h : d.good K = true) (e : seenAt K (getAd K (d.cls, d.name)) = d.due) : ∃ fd, Fun K d.name d.qual d.st (getAd K (d.cls, d.name)) fd := by
  obtain ⟨_, h⟩ := He.ba h
  obtain ⟨_, h⟩ := He.ba h
  obtain ⟨_, h⟩ := He.ba h
  obtain ⟨_, h⟩ := He.ba h
  obtain ⟨kp, cd⟩ := He.ba h
  unfold seenAt at e
  cases q : K.lookup (getAd K (d.cls, d.name)) with
  | none => rw [q] at e; cases e
  | some o =>
    obtain ⟨o1, o2, dt, o4⟩ := o
    rw [q] at e cd
    cases dt with
    | func u =>
      obtain ⟨a1, a2, a3, a4, a5, a6, a7, a8, a9, a10, a11, a12, a13, a14, a15⟩ := u
      have e' : (some (a1, a2, a3, a4, a5, a6, a7, a8, a15) : He.FnV) = some (d.name, d.qual, defArgs d.st, .stmts (defBody d.st), defScope d.st, mainGlobals, [], .none, builtinsNs) := e
      simp only [Option.some.injEq, Prod.mk.injEq] at e'
      obtain ⟨rfl, rfl, rfl, rfl, rfl, rfl, rfl, rfl, rfl⟩ := e'
      exact ⟨_, fun_mk q cd kp⟩
    | _ => cases e
/-- the class has the name as a def -/
def ownB (K : PySem.W.Frag) (x m : Str) : Bool := He.eqO (PySem.W.findIn K (.ref (He.ga K x)) m) (some (some (.ref (propAt K x m)))) && PySem.W.isFn K (.ref (propAt K x m))
theorem ownB_ok {K : PySem.W.Frag} {x m : Str} (h : ownB K x m = true) : OwnSp K (He.ga K x) m (He.ma K (He.ga K x) m) := by
  obtain ⟨h1, h2⟩ := He.ba h
  exact ⟨He.eqO_ok h1, h2⟩
structure PickP where
  base : Pick
  props : List (Str × Str)
def asP (p : PickP) (g : Addr → Option Obj) : List Addr := asQ p.base g ++ (p.props.map fun q => propAt (He.frG g (asQ p.base g)) q.1 q.2)
def asPG (p : PickP) (g : Addr → Option Obj) : List Addr := asP p g ++ withCode g (p.props.map fun q => getAd (He.frG g (asP p g)) q)
abbrev AlP : Type := AlZ × (Bool × List He.FnV)
def lookP (fa : List He.Fa) (fn : List He.DefD) (ps : List PropD) (ex : PySem.W.Frag → Bool) (K : PySem.W.Frag) : AlP := ((He.obsD fa fn K, ex K), (ps.all fun d => d.good K, ps.map fun d => seenAt K (getAd K (d.cls, d.name))))
def obsP (n : PickP) (fa : List He.Fa) (fn : List He.DefD) (ps : List PropD) (ex : PySem.W.Frag → Bool) (g : Addr → Option Obj) : AlP := lookP fa fn ps ex (He.frG g (asPG n g))
structure SaysP (fa : List He.Fa) (fn : List He.DefD) (ps : List PropD) (ex : PySem.W.Frag → Bool) (K : PySem.W.Frag) : Prop where
  d : He.SaysD fa fn K
  e : ex K = true
  g : (ps.all fun d => d.good K) = true
  s : (ps.map fun d => seenAt K (getAd K (d.cls, d.name))) = ps.map PropD.due
def hookP (n : PickP) (fa : List He.Fa) (fn : List He.DefD) (ps : List PropD) (ex : PySem.W.Frag → Bool) : PySem.W.Hook where
  α := AlP
  obs := fun s => obsP n fa fn ps ex s.heap.get?
  val := fun _ => ((He.valD fn, true), (true, ps.map PropD.due))
  says := fun _ h => ∃ K : PySem.W.Frag, K.In h ∧ SaysP fa fn ps ex K
  of := fun _ _ e => ⟨_, He.frG_in, congrArg (fun z : AlP => z.1.1) e, congrArg (fun z : AlP => z.1.2) e, congrArg (fun z : AlP => z.2.1) e, congrArg (fun z : AlP => z.2.2) e⟩
  keeps := fun _ _ _ ⟨K, hK, c⟩ k => ⟨K, PySem.W.Frag.In.keeps hK k, c⟩
theorem obsP_eq {n : PickP} {fa : List He.Fa} {fn : List He.DefD} {ps : List PropD} {ex : PySem.W.Frag → Bool} {g : Addr → Option Obj} {s : Shared} (h : ∀ a, g a = s.heap.get? a) : obsP n fa fn ps ex g = (hookP n fa fn ps ex).obs s := by
  have e : g = s.heap.get? := funext h
  rw [e] <;> rfl
section
variable {fa : List He.Fa} {fn : List He.DefD} {ps : List PropD} {ex : PySem.W.Frag → Bool} {K : PySem.W.Frag}
theorem SaysP.prop (c : SaysP fa fn ps ex K) (i : Nat) {d : PropD} (h : ps[i]? = some d := by rfl) : PropOf K (He.ga K d.cls) d.name (propAt K d.cls d.name) (getAd K (d.cls, d.name)) ∧ ∃ fd, Fun K d.name d.qual d.st (getAd K (d.cls, d.name)) fd := by
  have g := List.all_eq_true.mp c.g d (List.mem_of_getElem? h)
  have e : (ps.map fun d => seenAt K (getAd K (d.cls, d.name)))[i]? = (ps.map PropD.due)[i]? := by rw [c.s]
  rw [List.getElem?_map, List.getElem?_map, h] at e
  exact ⟨PropD.is g, PropD.fn g (Option.some.inj e)⟩
end
end Fr

set_option Elab.async false
set_option linter.all false
set_option maxRecDepth 100000
set_option maxHeartbeats 4000000
namespace Fr
open PySem PySem.Spec PyProof.Rows L2
open Evl (Ex)
def topS (i : Nat) : Stmt := PySem.Challenge.pw_onlyflags_k00_error_classes.main.body.getD i (.Pass ⟨0, 0, 0, 0⟩)
local macro_rules | `(tactic| walk_at "fr r2") => `(tactic| first
  | exact r2_add | exact r2_sub | exact r2_lt | exact r2_le | exact r2_gt | exact r2_ge | exact r2_eqI | exact r2_neI | exact r2_eqW | exact r2_neW | exact r2_ltT | exact r2_inI | exact r2_isN | exact r2_notN | exact r2_and | (refine r2_modN ?_; omega) | (refine r2_shr ?_; omega))
local macro_rules | `(tactic| walk_at "fr ev") => `(tactic| first
  | exact ev_var rfl | exact ev_w0 | exact ev_int | exact ev_bl | exact ev_non | exact ev_str
  | (refine' ev_isInt ?frh ?frf; (case frh => walk_at "fr ev"); (case frf => first | exact True.intro | assumption)) | (refine' ev_isBool ?frh ?frf; (case frh => walk_at "fr ev"); (case frf => first | exact True.intro | assumption)) | (refine' ev_isTup ?frh ?frf; (case frh => walk_at "fr ev"); (case frf => first | exact True.intro | assumption)) | (refine' ev_isLst ?frh ?frf; (case frh => walk_at "fr ev"); (case frf => first | exact True.intro | assumption)) | (refine' ev_isStr ?frh ?frf; (case frh => walk_at "fr ev"); (case frf => first | exact True.intro | assumption))
  | (apply ev_op; (case ha => walk_at "fr ev"); (case hb => walk_at "fr ev"); (case hr => walk_at "fr r2"))
  | (apply ev_and; (case h1 => walk_at "fr ev"); (case h2 => intro _; walk_at "fr ev"))
  | (apply ev_or; (case h1 => walk_at "fr ev"); (case h2 => intro _; walk_at "fr ev"))
  | (apply ev_not; walk_at "fr ev")
  | (apply ev_lenW; walk_at "fr ev") | (apply ev_lenT; walk_at "fr ev") | (apply ev_sumW; walk_at "fr ev") | (apply ev_neg; walk_at "fr ev") | (apply ev_bits; walk_at "fr ev")
  | (apply ev_cut; (case h => walk_at "fr ev"); (case h1 => walk_at "fr eo"); (case h2 => walk_at "fr eo"))
  | (apply ev_slT; (case h => walk_at "fr ev"); (case h1 => walk_at "fr eo"); (case h2 => walk_at "fr eo"))
  | (apply ev_tup; (case h => walk_at "fr ea"); (case hl => (show _ ≤ sizeLine; decide)))
  | (apply ev_call; (case h => walk_at "fr ea"); (case hR => walk_at "fr call")))
local macro_rules | `(tactic| walk_at "fr ea") => `(tactic| first
  | exact ea_nil
  | (apply ea_cons; (case h => walk_at "fr ev"); (case hr => walk_at "fr ea")))
local macro_rules | `(tactic| walk_at "fr evr") => `(tactic| (refine' ev_is ?frh ?fre; (case frh => walk_at "fr ev"); (case fre => rfl)))
local macro_rules | `(tactic| walk_at "fr eo") => `(tactic| first
  | exact eo_none
  | (apply eo_some; walk_at "fr ev"))
abbrev s_is_rule : Stmt := topS 33
abbrev N_is_rule : List Str := ["value", "flag", "inserts", "check"]
theorem sc_is_rule : FnScope N_is_rule ["value"] (defScope s_is_rule) := ⟨rfl, rfl, rfl, by decide +kernel, rfl, by decide +kernel, by decide +kernel⟩
abbrev s_need_rule : Stmt := topS 36
abbrev N_need_rule : List Str := ["value"]
theorem sc_need_rule : FnScope N_need_rule ["value"] (defScope s_need_rule) := ⟨rfl, rfl, rfl, by decide +kernel, rfl, by decide +kernel, by decide +kernel⟩
abbrev s_tails : Stmt := topS 37
abbrev N_tails : List Str := ["rule", "flag", "inserts", "_", "table", "first", "found", "at", "bit", "tail"]
theorem sc_tails : FnScope N_tails ["rule"] (defScope s_tails) := ⟨rfl, rfl, rfl, by decide +kernel, rfl, by decide +kernel, by decide +kernel⟩
abbrev s__law_raised_one : Stmt := topS 39
abbrev N__law_raised_one : List Str := ["way"]
theorem sc__law_raised_one : FnScope N__law_raised_one ["way"] (defScope s__law_raised_one) := ⟨rfl, rfl, rfl, by decide +kernel, rfl, by decide +kernel, by decide +kernel⟩
abbrev s__law_raised_more : Stmt := topS 40
abbrev N__law_raised_more : List Str := ["way"]
theorem sc__law_raised_more : FnScope N__law_raised_more ["way"] (defScope s__law_raised_more) := ⟨rfl, rfl, rfl, by decide +kernel, rfl, by decide +kernel, by decide +kernel⟩
abbrev s__law_marks : Stmt := topS 41
abbrev N__law_marks : List Str := ["e", "marks"]
theorem sc__law_marks : FnScope N__law_marks ["e"] (defScope s__law_marks) := ⟨rfl, rfl, rfl, by decide +kernel, rfl, by decide +kernel, by decide +kernel⟩
abbrev s__law_way_right : Stmt := topS 42
abbrev N__law_way_right : List Str := ["way", "many", "marks", "under", "e"]
theorem sc__law_way_right : FnScope N__law_way_right ["way", "many"] (defScope s__law_way_right) := ⟨rfl, rfl, rfl, by decide +kernel, rfl, by decide +kernel, by decide +kernel⟩
abbrev s__law_kept_right : Stmt := topS 43
abbrev N__law_kept_right : List Str := ["kept", "marks", "kinds_here", "e"]
theorem sc__law_kept_right : FnScope N__law_kept_right [] (defScope s__law_kept_right) := ⟨rfl, rfl, rfl, by decide +kernel, rfl, by decide +kernel, by decide +kernel⟩
abbrev s_law : Stmt := topS 44
abbrev N_law : List Str := ["script", "many", "spot", "way"]
theorem sc_law : FnScope N_law ["script"] (defScope s_law) := ⟨rfl, rfl, rfl, by decide +kernel, rfl, by decide +kernel, by decide +kernel⟩
abbrev s_NotClean_init : Stmt := inClass (topS 19) 0
abbrev N_NotClean_init : List Str := ["self", "reason"]
theorem sc_NotClean_init : FnScope N_NotClean_init ["self", "reason"] (defScope s_NotClean_init) := ⟨rfl, rfl, rfl, by decide +kernel, rfl, by decide +kernel, by decide +kernel⟩
/-- an own exception class, without an __init__ of its own -/
structure ExcY (K : PySem.W.Frag) (C : Addr) : Prop where
  ex : PySem.W.excIn K C [.type "ValueError", .type "Exception", .type "BaseException", .type "object"] "ValueError.__new__" = true
  kp : PySem.W.keepIn K (.ref C) = true
  sub : PySem.W.subIn K (.ref C) (.type "BaseException") = some true
  ty : PySem.W.typeIn K (.ref C) = some (.type "type")
/-- the one that has an __init__, and a field -/
structure ExcZ (K : PySem.W.Frag) (C f : Addr) : Prop where
  t : OexC K C
  i : PySem.W.findIn K (.ref C) "__init__" = some (some (.ref f))
  f : PySem.W.typeIn K (.ref f) = some (.type "function")
  x : XfC K C
  no : PySem.W.findIn K (.ref C) "reason" = some none
structure CalN (P : Program) (w0 : World) (K : PySem.W.Frag) (mg : Str → Option Value) (base : Heap) (x : Str) (ps : List Str) (k : Nat) (RE : List Dat → Value → Prop) (f : Addr) (fd : FuncData) : Prop where
  ok : FnOk P w0 K mg base (L2N.CX P w0) k f fd ps (PrEN RE)
  bd : Binds K fd ps []
  at_ : mg x = some (.ref f)
  kp : PySem.W.keepIn K (.ref f) = true
structure CalP (P : Program) (w0 : World) (K : PySem.W.Frag) (mg : Str → Option Value) (base : Heap) (x : Str) (ps : List Str) (k : Nat) (sp : Addr → Value → Option Addr → Sp) (f : Addr) (fd : FuncData) : Prop where
  ok : FnP P w0 K mg base CX0 k f fd ps sp
  bd : Binds K fd ps []
  at_ : mg x = some (.ref f)
  kp : PySem.W.keepIn K (.ref f) = true
theorem hot_f {A : Around} {p : Addr × Obj} (h : L2H.Hot1 A p) : ∃ vs, p.2.data = .fields vs := by
  obtain ⟨_, vs, h, _⟩ := h
  exact ⟨vs, h⟩
/-- what is never reached -/
theorem pss_void {X : Cx} {sts : List Stmt} : PSs X sts (fun _ _ _ => False) := ⟨fun _ _ _ _ _ _ h => h.elim⟩
def errs : List Str := ["InvalidBits", "InvalidChange", "InvalidCheck", "InvalidFlag", "InvalidFraction", "InvalidIndex", "InvalidInsert", "InvalidKind", "InvalidLength", "InvalidNumber", "InvalidPayloads", "InvalidRule", "InvalidText", "NotClean", "NothingToUndo", "Spoilt", "TooLong", "Waiting"]
def errF (K : PySem.W.Frag) (i : Nat) : Value := .ref (He.ga K (errs.getD i ""))
section
variable {P : Program} {w0 : World} {K : PySem.W.Frag} {mg : Str → Option Value} {base : Heap}
def R_is_rule (xs : List Dat) (y : Dat) : Prop := xs = [.tup []] ∧ y = .bl false
def RE_need_rule (K : PySem.W.Frag) (xs : List Dat) (c : Value) : Prop := xs = [.tup []] ∧ c = .ref (He.ga K "InvalidRule")
def RE_one (K : PySem.W.Frag) (lo hi : Nat) (xs : List Dat) (c : Value) : Prop := ∃ w : Nat, lo ≤ w ∧ w < hi ∧ xs = [.int (w : Nat)] ∧ c = errF K w
theorem ok_is_rule {f : Addr} {fd : FuncData} (F : Fun K "is_rule" "is_rule" s_is_rule f fd) (T : Bs mg) : FnOk P w0 K mg base CX0 1 f fd ["value"] (Pr R_is_rule) := by
  refine fn_pr F sc_is_rule (fun xs y h => by rw [h.1]; rfl) fun cdv A outer s H E hr => ⟨_, (pss_cons (ps_if (PW.pt (pw_or (pt_not (pt_val (pe_callB (call_isiK' (K := K) rfl) (by rfl) T.isinstance (by decide +kernel) (pa_cons (pv 0) (pa_cons (pe_bltn (v := .ty "tuple") (by rfl) T.tuple (by decide +kernel) rfl) pa_nil))))) (pw_or1 (pt_cmpR op_ne (pe_callB (call_lenK (K := K) rfl) (by rfl) T.len PySem.boot_len (pa_cons (pv 0) pa_nil)) pe_int (nomark _))))) (pss_one (ps_ret pe_bl)) pss_nil)
      pss_void), ?_⟩
  rintro xs y ⟨rfl, rfl⟩
  exact run_seq (M := fun _ => False) (run_if (b := true) (et_or (a := false) (b := true) (et_not (a := true) (et_is (et_B (ev_isTup (ev_var rfl) True.intro)) rfl)) fun _ => et_is (et_test (ev_op (ev_lenT (ev_var rfl)) ev_int r2_neI)) rfl) (fun _ => run_ret ev_bl rfl) fun z => by cases z) fun _ z => z.elim
theorem ok_need_rule {f : Addr} {fd : FuncData} (F : Fun K "need_rule" "need_rule" s_need_rule f fd) {f_is_rule : Addr} {d_is_rule : FuncData} (C_is_rule : Cal P w0 K mg base "is_rule" ["value"] 1 R_is_rule f_is_rule d_is_rule) (X_InvalidRule : ExcY K (He.ga K "InvalidRule")) (G_InvalidRule : mg "InvalidRule" = some (.ref (He.ga K "InvalidRule"))) : FnOk P w0 K mg base (L2N.CX P w0) 2 f fd ["value"] (PrEN (RE_need_rule K)) := by
  refine fn_prEN F sc_need_rule (fun xs c h => by rw [h.1]; rfl) fun cdv A outer s H E hr => ⟨_, (pss_one (ps_if (pt_not (pt_val (pe_call C_is_rule.ok (hr.mono (by decide)) rfl C_is_rule.at_ C_is_rule.kp C_is_rule.bd .nil pass0 (pa_cons (pv 0) pa_nil)))) (pss_one (L2N.ps_raise rfl (L2N.takes_of rfl rfl rfl rfl) (pmkN_own0 PySem.F.excBase_ValueError X_InvalidRule.ex G_InvalidRule X_InvalidRule.kp (raises_own X_InvalidRule.sub X_InvalidRule.ty) (by rfl)))) pss_nil)), ?_⟩
  rintro xs c ⟨rfl, rfl⟩
  exact ren_of (re_ifT (b := true) (et_not (a := false) (et_is (et_B (ev_call (ea_cons (ev_var rfl) ea_nil) ⟨rfl, rfl⟩)) rfl)) (fun _ => fun A0 H0 A H σ g0 k D d => d A H σ g0) (fun z => by cases z))
theorem ok_tails {f : Addr} {fd : FuncData} (F : Fun K "tails" "tails" s_tails f fd) {f_need_rule : Addr} {d_need_rule : FuncData} (CN_need_rule : CalN P w0 K mg base "need_rule" ["value"] 2 (RE_need_rule K) f_need_rule d_need_rule) : FnOk P w0 K mg base (L2N.CX P w0) 3 f fd ["rule"] (PrEN (RE_need_rule K)) := by
  refine fn_prEN F sc_tails (fun xs c h => by rw [h.1]; rfl) fun cdv A outer s H E hr => ⟨_, (pss_cons (ps_expr (pe_callS CN_need_rule.ok (hr.mono (by decide)) rfl CN_need_rule.at_ CN_need_rule.kp CN_need_rule.bd (fun σ => L2N.passAt (L2N.takes_of rfl rfl rfl rfl) σ) (pa_cons (pv 0) pa_nil)))
      pss_void), ?_⟩
  rintro xs c ⟨rfl, rfl⟩
  exact ren_seq0 (ren_drop (een_call (ea_cons (ev_var rfl) ea_nil) ⟨rfl, rfl⟩))
end
end Fr

set_option Elab.async false
set_option linter.all false
set_option maxRecDepth 100000
set_option maxHeartbeats 4000000
namespace Fr
open PySem PySem.Spec PyProof.Rows L2
open Evl (Ex)
/-- NotClean.__init__ -/
def spNC (K : PySem.W.Frag) (C : Addr) : Sp := fun vs H Q _ => ∃ a v, vs = [.ref a, v] ∧ H a = some (exo a C none) ∧ ∀ dx, H dx = none → dx ≠ a → Q .non (upd (upd H dx (exd dx [("reason", v)])) a (exo a C (some dx)))
def spM (K : PySem.W.Frag) (a : Addr) (c : Value) (d : Option Addr) : Sp := fun vs H Q _ => ∃ (D : Addr) (b : Str → Bool), vs = [.ref a] ∧ c = .ref D ∧ ExcD K D ∧ XD H d ∧ (∀ x ∈ errs, PySem.W.kitOne K (.ref D) (.ref (He.ga K x)) = some (b x)) ∧
  ∀ l H', Ex H H' → H l = none → H' l = some (.lst ((errs.map b).map V.bl)) → Q (.ref l) H'
structure MI (a : Addr) (d : Option Addr) (H0 : Hp) (bs : List Bool) (σ : L2.St) (H : Hp) : Prop where
  e : σ[0]? = some (some (.ref a))
  up : Ex H0 H
  m : ∃ l, σ[1]? = some (some (.ref l)) ∧ H0 l = none ∧ H l = some (.lst (bs.map V.bl))
theorem is_step {K : PySem.W.Frag} {a D c : Addr} {d : Option Addr} {b : Bool} {σ : L2.St} {H : Hp} {t : TA} {Q : List V → Hp → Prop} (hs : σ[0]? = some (some (.ref a))) (hC : ExcD K D) (hx : XD H d) (hk : PySem.W.kitOne K (.ref D) (.ref c) = some b) (h : t σ H fun xs H1 => Q (.bl b :: xs) H1) :
    tCons (tCB (rIsP K a (.ref D) d) (tCons (tVar 0) (tCons (tC (.ref c)) tNil))) t σ H Q := ⟨.ref a, hs, D, rfl, hC, hx, .ref c, .ref c, b, rfl, fun _ h => h, hk, h⟩
theorem is3 {K : PySem.W.Frag} {a D c1 c2 c3 : Addr} {d : Option Addr} {b1 b2 b3 : Bool} {σ : L2.St} {H : Hp} {Q : VK} (hs : σ[0]? = some (some (.ref a))) (hC : ExcD K D) (hx : XD H d) (h1 : PySem.W.kitOne K (.ref D) (.ref c1) = some b1) (h2 : PySem.W.kitOne K (.ref D) (.ref c2) = some b2) (h3 : PySem.W.kitOne K (.ref D) (.ref c3) = some b3)
    (h : ∀ p, H p = none → Q (.ref p) (upd H p (.lst [.bl b1, .bl b2, .bl b3]))) :
    tLst (tCons (tCB (rIsP K a (.ref D) d) (tCons (tVar 0) (tCons (tC (.ref c1)) tNil))) (tCons (tCB (rIsP K a (.ref D) d) (tCons (tVar 0) (tCons (tC (.ref c2)) tNil))) (tCons (tCB (rIsP K a (.ref D) d) (tCons (tVar 0) (tCons (tC (.ref c3)) tNil))) tNil))) σ H Q :=
  is_step hs hC hx h1 (is_step hs hC hx h2 (is_step hs hC hx h3 ⟨by show 3 ≤ sizeLine; decide, h⟩))
theorem mi_first {a p : Addr} {d : Option Addr} {H : Hp} {σ : L2.St} {bs : List Bool} (hs : σ[0]? = some (some (.ref a))) (hl : 1 < σ.length) (hp : H p = none) : MI a d H bs (σ.set 1 (some (.ref p))) (upd H p (.lst (bs.map V.bl))) := by
  refine ⟨?_, Ex.new hp, p, List.getElem?_set_self hl, hp, upd_same⟩
  rw [List.getElem?_set_ne (by decide)]
  exact hs
theorem mi_more {a p q : Addr} {d : Option Addr} {H0 H : Hp} {σ : L2.St} {bs cs : List Bool} (h : MI a d H0 bs σ H) (hp : H p = none) (hq : upd H p (.lst (cs.map V.bl)) q = none) : MI a d H0 (bs ++ cs) (σ.set 1 (some (.ref q))) (upd (upd H p (.lst (cs.map V.bl))) q (.lst (bs.map V.bl ++ cs.map V.bl))) := by
  have up1 : Ex H (upd H p (.lst (cs.map V.bl))) := Ex.new hp
  have up2 := h.up.trans (up1.trans (Ex.new (o := .lst (bs.map V.bl ++ cs.map V.bl)) hq))
  obtain ⟨l, e, _, _⟩ := h.m
  refine ⟨?_, up2, q, List.getElem?_set_self (List.getElem?_eq_some_iff.mp e).1, Evl.fresh_back (h.up.trans up1) hq, ?_⟩
  · rw [List.getElem?_set_ne (by decide)]
    exact h.e
  · rw [List.map_append]
    exact upd_same
theorem more3 {K : PySem.W.Frag} {a D c1 c2 c3 : Addr} {d : Option Addr} {b1 b2 b3 : Bool} {bs : List Bool} {H0 H : Hp} {σ : L2.St} {D' : Ends} (m : MI a d H0 bs σ H) (hl : bs.length ≤ 100) (hC : ExcD K D) (hx : XD H0 d) (h1 : PySem.W.kitOne K (.ref D) (.ref c1) = some b1) (h2 : PySem.W.kitOne K (.ref D) (.ref c2) = some b2)
    (h3 : PySem.W.kitOne K (.ref D) (.ref c3) = some b3) (h : ∀ σ' H', MI a d H0 (bs ++ [b1, b2, b3]) σ' H' → D'.nx σ' H') :
    tAsg (tOp rCat (tVar 1) (tLst (tCons (tCB (rIsP K a (.ref D) d) (tCons (tVar 0) (tCons (tC (.ref c1)) tNil))) (tCons (tCB (rIsP K a (.ref D) d) (tCons (tVar 0) (tCons (tC (.ref c2)) tNil))) (tCons (tCB (rIsP K a (.ref D) d) (tCons (tVar 0) (tCons (tC (.ref c3)) tNil))) tNil))))) (gName 1) D' σ H := by
  obtain ⟨l, e, l0, hL⟩ := m.m
  refine ⟨.ref l, e, is3 m.e hC (hx.up m.up) h1 h2 h3 fun p hp => ?_⟩
  have ne : l ≠ p := ne_of_none hL hp
  refine ⟨l, p, bs.map V.bl, [.bl b1, .bl b2, .bl b3], rfl, rfl, by rw [upd_ne ne]; exact hL, upd_same, ?_, fun q hq => h _ _ (mi_more (cs := [b1, b2, b3]) m hp hq)⟩
  rw [List.length_map]
  show bs.length + 3 ≤ sizeLine
  rw [sizeLine_eq]
  omega
section
variable {P : Program} {w0 : World} {K : PySem.W.Frag} {mg : Str → Option Value} {base : Heap}
theorem ok_NotClean_init {C f : Addr} {fd : FuncData} (T : OexC K C) (no : PySem.W.findIn K (.ref C) "reason" = some none) (F : Fun K "__init__" "NotClean.__init__" s_NotClean_init f fd) : FnOk P w0 K mg base CX0 1 f fd ["self", "reason"] (spNC K C) := by
  refine F.ok sc_NotClean_init (fun vs H Q E h => by obtain ⟨_, _, rfl, _⟩ := h; rfl) fun cdv A outer s H vs Q E hr h => ⟨_, (pss_one (ps_ost (pv 0) (pv 1))), ?_⟩
  obtain ⟨a, v, rfl, ha, q⟩ := h
  exact ⟨v, rfl, .ref a, rfl, a, C, rfl, T, no, .inl ⟨ha, fun dx n ne => q dx n ne⟩⟩
/-- NotClean(e), as one raises it -/
theorem mk_nc {C : Addr} {γ : Gam} {ta : TA} {y : Dat} {H0 A H : Hp} {σ : L2.St} {Q : XK} (h : EvA ta γ [y]) (k : Ok H0 A H σ γ) (q : ∀ dx v B H', Gr A H B H' → H' dx = some (.xd [("reason", v)]) → Rep B v y → Q (.ref C) (some dx) H') : tMkO C (spNC K C) [] ta σ H Q :=
  h H0 A H σ k _ fun vs B H1 g1 r1 => by
    cases r1 with
    | cons r1 r2 =>
      cases r2
      rename_i v
      refine ⟨by show 1 ≤ 1000; decide, fun a ha => ⟨a, v, rfl, upd_same, fun dx n ne => ⟨rfl, dx, [("reason", v)], upd_same, ?_, ?_, ?_⟩⟩⟩
      · rw [upd_ne ne]
        exact upd_same
      · rw [upd_ne ne] at n
        exact n
      · have n1 : H1 dx = none := by
          rw [upd_ne ne] at n
          exact n
        have e : upd (del (upd (upd (upd H1 a (exo a C none)) dx (exd dx [("reason", v)])) a (exo a C (some dx))) a) dx (.xd [("reason", v)]) = upd H1 dx (.xd [("reason", v)]) := by
          funext b
          by_cases h1 : b = dx
          · rw [h1, upd_same, upd_same]
          · rw [upd_ne h1, upd_ne h1]
            by_cases h2 : b = a
            · rw [h2, del_same, ha]
            · rw [del_ne h2, upd_ne h2, upd_ne h1, upd_ne h2]
        rw [e]
        exact q dx v B _ (g1.trans (Gr.newU g1.sub n1)) upd_same r1
theorem mk_ncK {C : Addr} {γ : Gam} {ta : TA} {y : Dat} {H0 A H : Hp} {σ : L2.St} {Q : XK} (h : EvA ta γ [y]) (k : Ok H0 A H σ γ) (q : ∀ dx v B H', Gr A H B H' → H' dx = some (.xd [("reason", v)]) → Rep B v y → Q (.ref C) (some dx) H') : tMkW C [0] 1 (spNC K C) ta σ H Q :=
  h H0 A H σ k _ fun vs B H1 g1 r1 => by
    have z := mk_nc (K := K) (C := C) (Q := Q) h k q
    cases r1 with
    | cons r1 r2 =>
      cases r2
      rename_i v
      refine ⟨rfl, fun a ha => ⟨a, v, rfl, upd_same, fun dx n ne => ⟨rfl, dx, [("reason", v)], upd_same, ?_, ?_, ?_⟩⟩⟩
      · rw [upd_ne ne]
        exact upd_same
      · rw [upd_ne ne] at n
        exact n
      · have n1 : H1 dx = none := by
          rw [upd_ne ne] at n
          exact n
        have e : upd (del (upd (upd (upd H1 a (exo a C none)) dx (exd dx [("reason", v)])) a (exo a C (some dx))) a) dx (.xd [("reason", v)]) = upd H1 dx (.xd [("reason", v)]) := by
          funext b
          by_cases h1 : b = dx
          · rw [h1, upd_same, upd_same]
          · rw [upd_ne h1, upd_ne h1]
            by_cases h2 : b = a
            · rw [h2, del_same, ha]
            · rw [del_ne h2, upd_ne h2, upd_ne h1, upd_ne h2]
        rw [e]
        exact q dx v B _ (g1.trans (Gr.newU g1.sub n1)) upd_same r1
/-- if way == i: raise .. -/
theorem ren_step {w i : Nat} {γ : Gam} {W : WX} {cls : Value} {tu tw : TS} (h0 : γ[0]? = some (Slot.d (.int (w : Nat)))) (h1 : w = i → RunEN tu W γ cls) (h2 : w ≠ i → RunEN tw W γ cls) : RunEN (tSeq (tIfS (tTest (tOp rEq (tVar 0) (tC (.int (i : Nat))))) tu tNext) tw) W γ cls := by
  by_cases q : w = i
  · exact ren_seq0 (ren_ifT (b := true) (et_is (et_test (ev_op (ev_var h0) ev_int r2_eqI)) (decide_eq_true (by rw [q]))) (fun _ => h1 q) fun z => by cases z)
  · exact ren_seq (R' := fun _ _ => False) (run_if (b := false) (et_is (et_test (ev_op (ev_var h0) ev_int r2_eqI)) (decide_eq_false (by omega))) (fun z => by cases z) fun _ => run_next rfl) (h2 q)
/-- a raise of one without fields -/
theorem ren_raise {C : Addr} {γ : Gam} {W : WX} : RunEN (fun _ σ H => W (.ref C) none σ H) W γ (.ref C) := fun A0 H0 A H σ g0 k D d => d none A H σ (.inl rfl) g0
theorem ok__law_raised_more {f : Addr} {fd : FuncData} (F : Fun K "_law_raised_more" "_law_raised_more" s__law_raised_more f fd) (X_InvalidText : ExcY K (He.ga K "InvalidText")) (X_NothingToUndo : ExcY K (He.ga K "NothingToUndo")) (X_Spoilt : ExcY K (He.ga K "Spoilt")) (X_TooLong : ExcY K (He.ga K "TooLong")) (X_Waiting : ExcY K (He.ga K "Waiting")) (G_InvalidText : mg "InvalidText" = some (.ref (He.ga K "InvalidText"))) (G_NotClean : mg "NotClean" = some (.ref (He.ga K "NotClean"))) (G_NothingToUndo : mg "NothingToUndo" = some (.ref (He.ga K "NothingToUndo"))) (G_Spoilt : mg "Spoilt" = some (.ref (He.ga K "Spoilt"))) (G_TooLong : mg "TooLong" = some (.ref (He.ga K "TooLong"))) (G_Waiting : mg "Waiting" = some (.ref (He.ga K "Waiting"))) {f_NC : Addr} {d_NC : FuncData} (NX : ExcZ K (He.ga K "NotClean") f_NC) (CI : CalI P w0 K mg base ["self", "reason"] 1 (spNC K (He.ga K "NotClean")) f_NC d_NC) : FnOk P w0 K mg base (L2N.CX P w0) 3 f fd ["way"] (PrEN (RE_one K 12 18)) := by
  refine fn_prEN F sc__law_raised_more (fun xs c h => by obtain ⟨_, _, _, rfl, _⟩ := h; rfl) fun cdv A outer s H E hr => ⟨_, (pss_cons (ps_if (pt_cmpR op_eq (pv 0) pe_int (nomark _)) (pss_one (L2N.ps_raise rfl (L2N.takes_of rfl rfl rfl rfl) (pmkN_own0 PySem.F.excBase_ValueError X_InvalidText.ex G_InvalidText X_InvalidText.kp (raises_own X_InvalidText.sub X_InvalidText.ty) (by rfl)))) pss_nil)
      (pss_cons (ps_if (pt_cmpR op_eq (pv 0) pe_int (nomark _)) (pss_one (L2N.ps_raise rfl (L2N.takes_of rfl rfl rfl rfl) (pmkN_oex NX.t NX.i NX.f CI.ok (hr.mono (by decide)) CI.bd pass0 rfl G_NotClean (pa_cons (pe_lst (pa_cons (pe_tup (pa_cons pe_int pa_nil)) pa_nil)) pa_nil)))) pss_nil)
      (pss_cons (ps_if (pt_cmpR op_eq (pv 0) pe_int (nomark _)) (pss_one (L2N.ps_raise rfl (L2N.takes_of rfl rfl rfl rfl) (pmkN_own0 PySem.F.excBase_ValueError X_NothingToUndo.ex G_NothingToUndo X_NothingToUndo.kp (raises_own X_NothingToUndo.sub X_NothingToUndo.ty) (by rfl)))) pss_nil)
      (pss_cons (ps_if (pt_cmpR op_eq (pv 0) pe_int (nomark _)) (pss_one (L2N.ps_raise rfl (L2N.takes_of rfl rfl rfl rfl) (pmkN_own0 PySem.F.excBase_ValueError X_Spoilt.ex G_Spoilt X_Spoilt.kp (raises_own X_Spoilt.sub X_Spoilt.ty) (by rfl)))) pss_nil)
      (pss_cons (ps_if (pt_cmpR op_eq (pv 0) pe_int (nomark _)) (pss_one (L2N.ps_raise rfl (L2N.takes_of rfl rfl rfl rfl) (pmkN_own0 PySem.F.excBase_ValueError X_TooLong.ex G_TooLong X_TooLong.kp (raises_own X_TooLong.sub X_TooLong.ty) (by rfl)))) pss_nil)
      (pss_one (ps_if (pt_cmpR op_eq (pv 0) pe_int (nomark _)) (pss_one (L2N.ps_raise rfl (L2N.takes_of rfl rfl rfl rfl) (pmkN_own0 PySem.F.excBase_ValueError X_Waiting.ex G_Waiting X_Waiting.kp (raises_own X_Waiting.sub X_Waiting.ty) (by rfl)))) pss_nil))))))), ?_⟩
  rintro xs c ⟨w, h1, h2, rfl, rfl⟩
  refine ren_step (i := 12) rfl (fun e => by subst e; exact fun A0 H0 A H σ g0 k D d => d none A H σ (.inl rfl) g0) fun n12 => ?_
  refine ren_step (i := 13) rfl (fun e => by subst e; exact fun A0 H0 A H σ g0 k D d => mk_nc (ea_cons (ev_ofN (en_lst (ea_cons (ev_tup (ea_cons ev_int ea_nil) (by show 1 ≤ sizeLine; decide)) ea_nil) (by show 1 ≤ sizeLine; decide))) ea_nil) k fun dx v B H' g h _ => d (some dx) B H' σ (.inr ⟨dx, _, rfl, h⟩) (g0.trans g)) fun n13 => ?_
  refine ren_step (i := 14) rfl (fun e => by subst e; exact fun A0 H0 A H σ g0 k D d => d none A H σ (.inl rfl) g0) fun n14 => ?_
  refine ren_step (i := 15) rfl (fun e => by subst e; exact fun A0 H0 A H σ g0 k D d => d none A H σ (.inl rfl) g0) fun n15 => ?_
  refine ren_step (i := 16) rfl (fun e => by subst e; exact fun A0 H0 A H σ g0 k D d => d none A H σ (.inl rfl) g0) fun n16 => ?_
  have e : w = 17 := by omega
  subst e
  exact ren_ifT (b := true) (et_is (et_test (ev_op (ev_var rfl) ev_int r2_eqI)) rfl) (fun _ => fun A0 H0 A H σ g0 k D d => d none A H σ (.inl rfl) g0) fun z => by cases z
theorem ok__law_raised_one {f : Addr} {fd : FuncData} (F : Fun K "_law_raised_one" "_law_raised_one" s__law_raised_one f fd) (X_InvalidBits : ExcY K (He.ga K "InvalidBits")) (X_InvalidChange : ExcY K (He.ga K "InvalidChange")) (X_InvalidCheck : ExcY K (He.ga K "InvalidCheck")) (X_InvalidFlag : ExcY K (He.ga K "InvalidFlag")) (X_InvalidFraction : ExcY K (He.ga K "InvalidFraction")) (X_InvalidIndex : ExcY K (He.ga K "InvalidIndex")) (X_InvalidInsert : ExcY K (He.ga K "InvalidInsert")) (X_InvalidKind : ExcY K (He.ga K "InvalidKind")) (X_InvalidLength : ExcY K (He.ga K "InvalidLength")) (X_InvalidNumber : ExcY K (He.ga K "InvalidNumber")) (X_InvalidPayloads : ExcY K (He.ga K "InvalidPayloads")) (X_InvalidRule : ExcY K (He.ga K "InvalidRule")) (G_InvalidBits : mg "InvalidBits" = some (.ref (He.ga K "InvalidBits"))) (G_InvalidChange : mg "InvalidChange" = some (.ref (He.ga K "InvalidChange"))) (G_InvalidCheck : mg "InvalidCheck" = some (.ref (He.ga K "InvalidCheck"))) (G_InvalidFlag : mg "InvalidFlag" = some (.ref (He.ga K "InvalidFlag"))) (G_InvalidFraction : mg "InvalidFraction" = some (.ref (He.ga K "InvalidFraction"))) (G_InvalidIndex : mg "InvalidIndex" = some (.ref (He.ga K "InvalidIndex"))) (G_InvalidInsert : mg "InvalidInsert" = some (.ref (He.ga K "InvalidInsert"))) (G_InvalidKind : mg "InvalidKind" = some (.ref (He.ga K "InvalidKind"))) (G_InvalidLength : mg "InvalidLength" = some (.ref (He.ga K "InvalidLength"))) (G_InvalidNumber : mg "InvalidNumber" = some (.ref (He.ga K "InvalidNumber"))) (G_InvalidPayloads : mg "InvalidPayloads" = some (.ref (He.ga K "InvalidPayloads"))) (G_InvalidRule : mg "InvalidRule" = some (.ref (He.ga K "InvalidRule"))) {f_m : Addr} {d_m : FuncData} (CN__law_raised_more : CalN P w0 K mg base "_law_raised_more" ["way"] 3 (RE_one K 12 18) f_m d_m) : FnOk P w0 K mg base (L2N.CX P w0) 4 f fd ["way"] (PrEN (RE_one K 0 18)) := by
  refine fn_prEN F sc__law_raised_one (fun xs c h => by obtain ⟨_, _, _, rfl, _⟩ := h; rfl) fun cdv A outer s H E hr => ⟨_, (pss_cons (ps_if (pt_cmpR op_eq (pv 0) pe_int (nomark _)) (pss_one (L2N.ps_raise rfl (L2N.takes_of rfl rfl rfl rfl) (pmkN_own0 PySem.F.excBase_ValueError X_InvalidBits.ex G_InvalidBits X_InvalidBits.kp (raises_own X_InvalidBits.sub X_InvalidBits.ty) (by rfl)))) pss_nil)
      (pss_cons (ps_if (pt_cmpR op_eq (pv 0) pe_int (nomark _)) (pss_one (L2N.ps_raise rfl (L2N.takes_of rfl rfl rfl rfl) (pmkN_own0 PySem.F.excBase_ValueError X_InvalidChange.ex G_InvalidChange X_InvalidChange.kp (raises_own X_InvalidChange.sub X_InvalidChange.ty) (by rfl)))) pss_nil)
      (pss_cons (ps_if (pt_cmpR op_eq (pv 0) pe_int (nomark _)) (pss_one (L2N.ps_raise rfl (L2N.takes_of rfl rfl rfl rfl) (pmkN_own0 PySem.F.excBase_ValueError X_InvalidCheck.ex G_InvalidCheck X_InvalidCheck.kp (raises_own X_InvalidCheck.sub X_InvalidCheck.ty) (by rfl)))) pss_nil)
      (pss_cons (ps_if (pt_cmpR op_eq (pv 0) pe_int (nomark _)) (pss_one (L2N.ps_raise rfl (L2N.takes_of rfl rfl rfl rfl) (pmkN_own0 PySem.F.excBase_ValueError X_InvalidFlag.ex G_InvalidFlag X_InvalidFlag.kp (raises_own X_InvalidFlag.sub X_InvalidFlag.ty) (by rfl)))) pss_nil)
      (pss_cons (ps_if (pt_cmpR op_eq (pv 0) pe_int (nomark _)) (pss_one (L2N.ps_raise rfl (L2N.takes_of rfl rfl rfl rfl) (pmkN_own0 PySem.F.excBase_ValueError X_InvalidFraction.ex G_InvalidFraction X_InvalidFraction.kp (raises_own X_InvalidFraction.sub X_InvalidFraction.ty) (by rfl)))) pss_nil)
      (pss_cons (ps_if (pt_cmpR op_eq (pv 0) pe_int (nomark _)) (pss_one (L2N.ps_raise rfl (L2N.takes_of rfl rfl rfl rfl) (pmkN_own0 PySem.F.excBase_ValueError X_InvalidIndex.ex G_InvalidIndex X_InvalidIndex.kp (raises_own X_InvalidIndex.sub X_InvalidIndex.ty) (by rfl)))) pss_nil)
      (pss_cons (ps_if (pt_cmpR op_eq (pv 0) pe_int (nomark _)) (pss_one (L2N.ps_raise rfl (L2N.takes_of rfl rfl rfl rfl) (pmkN_own0 PySem.F.excBase_ValueError X_InvalidInsert.ex G_InvalidInsert X_InvalidInsert.kp (raises_own X_InvalidInsert.sub X_InvalidInsert.ty) (by rfl)))) pss_nil)
      (pss_cons (ps_if (pt_cmpR op_eq (pv 0) pe_int (nomark _)) (pss_one (L2N.ps_raise rfl (L2N.takes_of rfl rfl rfl rfl) (pmkN_own0 PySem.F.excBase_ValueError X_InvalidKind.ex G_InvalidKind X_InvalidKind.kp (raises_own X_InvalidKind.sub X_InvalidKind.ty) (by rfl)))) pss_nil)
      (pss_cons (ps_if (pt_cmpR op_eq (pv 0) pe_int (nomark _)) (pss_one (L2N.ps_raise rfl (L2N.takes_of rfl rfl rfl rfl) (pmkN_own0 PySem.F.excBase_ValueError X_InvalidLength.ex G_InvalidLength X_InvalidLength.kp (raises_own X_InvalidLength.sub X_InvalidLength.ty) (by rfl)))) pss_nil)
      (pss_cons (ps_if (pt_cmpR op_eq (pv 0) pe_int (nomark _)) (pss_one (L2N.ps_raise rfl (L2N.takes_of rfl rfl rfl rfl) (pmkN_own0 PySem.F.excBase_ValueError X_InvalidNumber.ex G_InvalidNumber X_InvalidNumber.kp (raises_own X_InvalidNumber.sub X_InvalidNumber.ty) (by rfl)))) pss_nil)
      (pss_cons (ps_if (pt_cmpR op_eq (pv 0) pe_int (nomark _)) (pss_one (L2N.ps_raise rfl (L2N.takes_of rfl rfl rfl rfl) (pmkN_own0 PySem.F.excBase_ValueError X_InvalidPayloads.ex G_InvalidPayloads X_InvalidPayloads.kp (raises_own X_InvalidPayloads.sub X_InvalidPayloads.ty) (by rfl)))) pss_nil)
      (pss_cons (ps_if (pt_cmpR op_eq (pv 0) pe_int (nomark _)) (pss_one (L2N.ps_raise rfl (L2N.takes_of rfl rfl rfl rfl) (pmkN_own0 PySem.F.excBase_ValueError X_InvalidRule.ex G_InvalidRule X_InvalidRule.kp (raises_own X_InvalidRule.sub X_InvalidRule.ty) (by rfl)))) pss_nil)
      (pss_one (ps_expr (pe_callS CN__law_raised_more.ok (hr.mono (by decide)) rfl CN__law_raised_more.at_ CN__law_raised_more.kp CN__law_raised_more.bd (fun σ => L2N.passAt (L2N.takes_of rfl rfl rfl rfl) σ) (pa_cons (pv 0) pa_nil)))))))))))))))), ?_⟩
  rintro xs c ⟨w, h1, h2, rfl, rfl⟩
  refine ren_step (i := 0) rfl (fun e => by subst e; exact fun A0 H0 A H σ g0 k D d => d none A H σ (.inl rfl) g0) fun n0 => ?_
  refine ren_step (i := 1) rfl (fun e => by subst e; exact fun A0 H0 A H σ g0 k D d => d none A H σ (.inl rfl) g0) fun n1 => ?_
  refine ren_step (i := 2) rfl (fun e => by subst e; exact fun A0 H0 A H σ g0 k D d => d none A H σ (.inl rfl) g0) fun n2 => ?_
  refine ren_step (i := 3) rfl (fun e => by subst e; exact fun A0 H0 A H σ g0 k D d => d none A H σ (.inl rfl) g0) fun n3 => ?_
  refine ren_step (i := 4) rfl (fun e => by subst e; exact fun A0 H0 A H σ g0 k D d => d none A H σ (.inl rfl) g0) fun n4 => ?_
  refine ren_step (i := 5) rfl (fun e => by subst e; exact fun A0 H0 A H σ g0 k D d => d none A H σ (.inl rfl) g0) fun n5 => ?_
  refine ren_step (i := 6) rfl (fun e => by subst e; exact fun A0 H0 A H σ g0 k D d => d none A H σ (.inl rfl) g0) fun n6 => ?_
  refine ren_step (i := 7) rfl (fun e => by subst e; exact fun A0 H0 A H σ g0 k D d => d none A H σ (.inl rfl) g0) fun n7 => ?_
  refine ren_step (i := 8) rfl (fun e => by subst e; exact fun A0 H0 A H σ g0 k D d => d none A H σ (.inl rfl) g0) fun n8 => ?_
  refine ren_step (i := 9) rfl (fun e => by subst e; exact fun A0 H0 A H σ g0 k D d => d none A H σ (.inl rfl) g0) fun n9 => ?_
  refine ren_step (i := 10) rfl (fun e => by subst e; exact fun A0 H0 A H σ g0 k D d => d none A H σ (.inl rfl) g0) fun n10 => ?_
  refine ren_step (i := 11) rfl (fun e => by subst e; exact fun A0 H0 A H σ g0 k D d => d none A H σ (.inl rfl) g0) fun n11 => ?_
  exact ren_drop (een_call (ea_cons (ev_var rfl) ea_nil) ⟨w, by omega, h2, rfl, rfl⟩)
end
end Fr

set_option Elab.async false
set_option linter.all false
set_option maxRecDepth 100000
set_option maxHeartbeats 4000000
namespace Fr
open PySem PySem.Spec PyProof.Rows L2
open Evl (Ex)
theorem first3 {K : PySem.W.Frag} {a D c1 c2 c3 : Addr} {d : Option Addr} {b1 b2 b3 : Bool} {H : Hp} {σ : L2.St} {D' : Ends} {tw : TS} (hs : σ[0]? = some (some (.ref a))) (hl : 1 < σ.length) (hC : ExcD K D) (hx : XD H d) (h1 : PySem.W.kitOne K (.ref D) (.ref c1) = some b1) (h2 : PySem.W.kitOne K (.ref D) (.ref c2) = some b2)
    (h3 : PySem.W.kitOne K (.ref D) (.ref c3) = some b3) (h : ∀ σ' H', MI a d H [b1, b2, b3] σ' H' → tw D' σ' H') :
    tSeq (tAsg (tLst (tCons (tCB (rIsP K a (.ref D) d) (tCons (tVar 0) (tCons (tC (.ref c1)) tNil))) (tCons (tCB (rIsP K a (.ref D) d) (tCons (tVar 0) (tCons (tC (.ref c2)) tNil))) (tCons (tCB (rIsP K a (.ref D) d) (tCons (tVar 0) (tCons (tC (.ref c3)) tNil))) tNil)))) (gName 1)) tw D' σ H := by
  show tLst _ σ H (fun x H1 => tw D' (σ.set 1 (some x)) H1)
  exact is3 hs hC hx h1 h2 h3 fun p hp => h _ _ (mi_first (bs := [b1, b2, b3]) hs hl hp)
theorem more3S {K : PySem.W.Frag} {a D c1 c2 c3 : Addr} {d : Option Addr} {b1 b2 b3 : Bool} {bs : List Bool} {H0 H : Hp} {σ : L2.St} {D' : Ends} {tw : TS} (m : MI a d H0 bs σ H) (hl : bs.length ≤ 100) (hC : ExcD K D) (hx : XD H0 d) (h1 : PySem.W.kitOne K (.ref D) (.ref c1) = some b1) (h2 : PySem.W.kitOne K (.ref D) (.ref c2) = some b2)
    (h3 : PySem.W.kitOne K (.ref D) (.ref c3) = some b3) (h : ∀ σ' H', MI a d H0 (bs ++ [b1, b2, b3]) σ' H' → tw D' σ' H') :
    tSeq (tAsg (tOp rCat (tVar 1) (tLst (tCons (tCB (rIsP K a (.ref D) d) (tCons (tVar 0) (tCons (tC (.ref c1)) tNil))) (tCons (tCB (rIsP K a (.ref D) d) (tCons (tVar 0) (tCons (tC (.ref c2)) tNil))) (tCons (tCB (rIsP K a (.ref D) d) (tCons (tVar 0) (tCons (tC (.ref c3)) tNil))) tNil))))) (gName 1)) tw D' σ H :=
  more3 (D' := { D' with nx := tw D' }) m hl hC hx h1 h2 h3 h
section
variable {P : Program} {w0 : World} {K : PySem.W.Frag} {mg : Str → Option Value} {base : Heap}
theorem ok__law_marks {f : Addr} {fd : FuncData} (F : Fun K "_law_marks" "_law_marks" s__law_marks f fd) (G_InvalidBits : mg "InvalidBits" = some (.ref (He.ga K "InvalidBits"))) (G_InvalidChange : mg "InvalidChange" = some (.ref (He.ga K "InvalidChange"))) (G_InvalidCheck : mg "InvalidCheck" = some (.ref (He.ga K "InvalidCheck"))) (G_InvalidFlag : mg "InvalidFlag" = some (.ref (He.ga K "InvalidFlag"))) (G_InvalidFraction : mg "InvalidFraction" = some (.ref (He.ga K "InvalidFraction"))) (G_InvalidIndex : mg "InvalidIndex" = some (.ref (He.ga K "InvalidIndex"))) (G_InvalidInsert : mg "InvalidInsert" = some (.ref (He.ga K "InvalidInsert"))) (G_InvalidKind : mg "InvalidKind" = some (.ref (He.ga K "InvalidKind"))) (G_InvalidLength : mg "InvalidLength" = some (.ref (He.ga K "InvalidLength"))) (G_InvalidNumber : mg "InvalidNumber" = some (.ref (He.ga K "InvalidNumber"))) (G_InvalidPayloads : mg "InvalidPayloads" = some (.ref (He.ga K "InvalidPayloads"))) (G_InvalidRule : mg "InvalidRule" = some (.ref (He.ga K "InvalidRule"))) (G_InvalidText : mg "InvalidText" = some (.ref (He.ga K "InvalidText"))) (G_NotClean : mg "NotClean" = some (.ref (He.ga K "NotClean"))) (G_NothingToUndo : mg "NothingToUndo" = some (.ref (He.ga K "NothingToUndo"))) (G_Spoilt : mg "Spoilt" = some (.ref (He.ga K "Spoilt"))) (G_TooLong : mg "TooLong" = some (.ref (He.ga K "TooLong"))) (G_Waiting : mg "Waiting" = some (.ref (He.ga K "Waiting"))) (T : Bs mg) : FnP P w0 K mg base CX0 1 f fd ["e"] (spM K) := by
  refine fnP_of F sc__law_marks (fun a c d vs H Q E h => by obtain ⟨_, _, rfl, _⟩ := h; rfl) fun cdv A outer s H vs Q E p c d hot hz hr h => ⟨_, (pss_cons (ps_set (i := 1) sc__law_marks.nd rfl (Or.inl rfl) (pe_lst (pa_cons (pe_callB (call_isPK (K := K) rfl List.mem_cons_self hz (hot_f hot)) (by rfl) T.isinstance (by decide +kernel) (pa_cons (pv 0) (pa_cons (pe_glob (v := .ref (He.ga K "InvalidBits")) (by rfl) G_InvalidBits rfl) pa_nil))) (pa_cons (pe_callB (call_isPK (K := K) rfl List.mem_cons_self hz (hot_f hot)) (by rfl) T.isinstance (by decide +kernel) (pa_cons (pv 0) (pa_cons (pe_glob (v := .ref (He.ga K "InvalidChange")) (by rfl) G_InvalidChange rfl) pa_nil))) (pa_cons (pe_callB (call_isPK (K := K) rfl List.mem_cons_self hz (hot_f hot)) (by rfl) T.isinstance (by decide +kernel) (pa_cons (pv 0) (pa_cons (pe_glob (v := .ref (He.ga K "InvalidCheck")) (by rfl) G_InvalidCheck rfl) pa_nil))) pa_nil)))))
      (pss_cons (ps_set (i := 1) sc__law_marks.nd rfl (Or.inl rfl) (pe_op op_cat (pv 1) (pe_lst (pa_cons (pe_callB (call_isPK (K := K) rfl List.mem_cons_self hz (hot_f hot)) (by rfl) T.isinstance (by decide +kernel) (pa_cons (pv 0) (pa_cons (pe_glob (v := .ref (He.ga K "InvalidFlag")) (by rfl) G_InvalidFlag rfl) pa_nil))) (pa_cons (pe_callB (call_isPK (K := K) rfl List.mem_cons_self hz (hot_f hot)) (by rfl) T.isinstance (by decide +kernel) (pa_cons (pv 0) (pa_cons (pe_glob (v := .ref (He.ga K "InvalidFraction")) (by rfl) G_InvalidFraction rfl) pa_nil))) (pa_cons (pe_callB (call_isPK (K := K) rfl List.mem_cons_self hz (hot_f hot)) (by rfl) T.isinstance (by decide +kernel) (pa_cons (pv 0) (pa_cons (pe_glob (v := .ref (He.ga K "InvalidIndex")) (by rfl) G_InvalidIndex rfl) pa_nil))) pa_nil))))))
      (pss_cons (ps_set (i := 1) sc__law_marks.nd rfl (Or.inl rfl) (pe_op op_cat (pv 1) (pe_lst (pa_cons (pe_callB (call_isPK (K := K) rfl List.mem_cons_self hz (hot_f hot)) (by rfl) T.isinstance (by decide +kernel) (pa_cons (pv 0) (pa_cons (pe_glob (v := .ref (He.ga K "InvalidInsert")) (by rfl) G_InvalidInsert rfl) pa_nil))) (pa_cons (pe_callB (call_isPK (K := K) rfl List.mem_cons_self hz (hot_f hot)) (by rfl) T.isinstance (by decide +kernel) (pa_cons (pv 0) (pa_cons (pe_glob (v := .ref (He.ga K "InvalidKind")) (by rfl) G_InvalidKind rfl) pa_nil))) (pa_cons (pe_callB (call_isPK (K := K) rfl List.mem_cons_self hz (hot_f hot)) (by rfl) T.isinstance (by decide +kernel) (pa_cons (pv 0) (pa_cons (pe_glob (v := .ref (He.ga K "InvalidLength")) (by rfl) G_InvalidLength rfl) pa_nil))) pa_nil))))))
      (pss_cons (ps_set (i := 1) sc__law_marks.nd rfl (Or.inl rfl) (pe_op op_cat (pv 1) (pe_lst (pa_cons (pe_callB (call_isPK (K := K) rfl List.mem_cons_self hz (hot_f hot)) (by rfl) T.isinstance (by decide +kernel) (pa_cons (pv 0) (pa_cons (pe_glob (v := .ref (He.ga K "InvalidNumber")) (by rfl) G_InvalidNumber rfl) pa_nil))) (pa_cons (pe_callB (call_isPK (K := K) rfl List.mem_cons_self hz (hot_f hot)) (by rfl) T.isinstance (by decide +kernel) (pa_cons (pv 0) (pa_cons (pe_glob (v := .ref (He.ga K "InvalidPayloads")) (by rfl) G_InvalidPayloads rfl) pa_nil))) (pa_cons (pe_callB (call_isPK (K := K) rfl List.mem_cons_self hz (hot_f hot)) (by rfl) T.isinstance (by decide +kernel) (pa_cons (pv 0) (pa_cons (pe_glob (v := .ref (He.ga K "InvalidRule")) (by rfl) G_InvalidRule rfl) pa_nil))) pa_nil))))))
      (pss_cons (ps_set (i := 1) sc__law_marks.nd rfl (Or.inl rfl) (pe_op op_cat (pv 1) (pe_lst (pa_cons (pe_callB (call_isPK (K := K) rfl List.mem_cons_self hz (hot_f hot)) (by rfl) T.isinstance (by decide +kernel) (pa_cons (pv 0) (pa_cons (pe_glob (v := .ref (He.ga K "InvalidText")) (by rfl) G_InvalidText rfl) pa_nil))) (pa_cons (pe_callB (call_isPK (K := K) rfl List.mem_cons_self hz (hot_f hot)) (by rfl) T.isinstance (by decide +kernel) (pa_cons (pv 0) (pa_cons (pe_glob (v := .ref (He.ga K "NotClean")) (by rfl) G_NotClean rfl) pa_nil))) (pa_cons (pe_callB (call_isPK (K := K) rfl List.mem_cons_self hz (hot_f hot)) (by rfl) T.isinstance (by decide +kernel) (pa_cons (pv 0) (pa_cons (pe_glob (v := .ref (He.ga K "NothingToUndo")) (by rfl) G_NothingToUndo rfl) pa_nil))) pa_nil))))))
      (pss_cons (ps_set (i := 1) sc__law_marks.nd rfl (Or.inl rfl) (pe_op op_cat (pv 1) (pe_lst (pa_cons (pe_callB (call_isPK (K := K) rfl List.mem_cons_self hz (hot_f hot)) (by rfl) T.isinstance (by decide +kernel) (pa_cons (pv 0) (pa_cons (pe_glob (v := .ref (He.ga K "Spoilt")) (by rfl) G_Spoilt rfl) pa_nil))) (pa_cons (pe_callB (call_isPK (K := K) rfl List.mem_cons_self hz (hot_f hot)) (by rfl) T.isinstance (by decide +kernel) (pa_cons (pv 0) (pa_cons (pe_glob (v := .ref (He.ga K "TooLong")) (by rfl) G_TooLong rfl) pa_nil))) (pa_cons (pe_callB (call_isPK (K := K) rfl List.mem_cons_self hz (hot_f hot)) (by rfl) T.isinstance (by decide +kernel) (pa_cons (pv 0) (pa_cons (pe_glob (v := .ref (He.ga K "Waiting")) (by rfl) G_Waiting rfl) pa_nil))) pa_nil))))))
      (pss_one (ps_ret (pv 1))))))))), ?_⟩
  obtain ⟨D, b, rfl, rfl, hC, hx, hk, q⟩ := h
  have K1 : ∀ x, x ∈ errs → PySem.W.kitOne K (.ref D) (.ref (He.ga K x)) = some (b x) := hk
  have st0 : (L2.start N__law_marks [V.ref p.1])[0]? = some (some (V.ref p.1)) := rfl
  have k_InvalidBits := K1 "InvalidBits" (by decide +kernel)
  have k_InvalidChange := K1 "InvalidChange" (by decide +kernel)
  have k_InvalidCheck := K1 "InvalidCheck" (by decide +kernel)
  have k_InvalidFlag := K1 "InvalidFlag" (by decide +kernel)
  have k_InvalidFraction := K1 "InvalidFraction" (by decide +kernel)
  have k_InvalidIndex := K1 "InvalidIndex" (by decide +kernel)
  have k_InvalidInsert := K1 "InvalidInsert" (by decide +kernel)
  have k_InvalidKind := K1 "InvalidKind" (by decide +kernel)
  have k_InvalidLength := K1 "InvalidLength" (by decide +kernel)
  have k_InvalidNumber := K1 "InvalidNumber" (by decide +kernel)
  have k_InvalidPayloads := K1 "InvalidPayloads" (by decide +kernel)
  have k_InvalidRule := K1 "InvalidRule" (by decide +kernel)
  have k_InvalidText := K1 "InvalidText" (by decide +kernel)
  have k_NotClean := K1 "NotClean" (by decide +kernel)
  have k_NothingToUndo := K1 "NothingToUndo" (by decide +kernel)
  have k_Spoilt := K1 "Spoilt" (by decide +kernel)
  have k_TooLong := K1 "TooLong" (by decide +kernel)
  have k_Waiting := K1 "Waiting" (by decide +kernel)
  clear K1 hk
  refine first3 st0 (by show 1 < 2; decide) hC hx k_InvalidBits k_InvalidChange k_InvalidCheck fun σ1 H1 m1 => ?_
  refine more3S m1 (by show 3 ≤ 100; decide) hC hx k_InvalidFlag k_InvalidFraction k_InvalidIndex fun σ1 H1 m2 => ?_
  refine more3S m2 (by show 6 ≤ 100; decide) hC hx k_InvalidInsert k_InvalidKind k_InvalidLength fun σ1 H1 m3 => ?_
  refine more3S m3 (by show 9 ≤ 100; decide) hC hx k_InvalidNumber k_InvalidPayloads k_InvalidRule fun σ1 H1 m4 => ?_
  refine more3S m4 (by show 12 ≤ 100; decide) hC hx k_InvalidText k_NotClean k_NothingToUndo fun σ1 H1 m5 => ?_
  refine more3S m5 (by show 15 ≤ 100; decide) hC hx k_Spoilt k_TooLong k_Waiting fun σ1 H1 m6 => ?_
  obtain ⟨l, e, l0, hL⟩ := m6.m
  exact ⟨.ref l, e, q l H1 m6.up l0 hL⟩
end
end Fr

set_option Elab.async false
set_option linter.all false
set_option maxRecDepth 100000
set_option maxHeartbeats 4000000
namespace Fr
open PySem PySem.Spec PyProof.Rows L2 HotX
open Evl (Ex)
/-! # suites that are told what is caught -/
/-- a suite from one place on -/
def RunAt (ts : TS) (A0 H0 B H1 : Hp) (σ : L2.St) (γ : Gam) (N : Gam → Prop) (R : Dat → Gam → Prop) : Prop := Gr A0 H0 B H1 → Ok H0 B H1 σ γ → ∀ D : Ends,
  (∀ δ C H' σ', N δ → Gr A0 H0 C H' → Ex B C → Ok H0 C H' σ' δ → D.nx σ' H') → (∀ v C H' x σ' δ, R x δ → Gr A0 H0 C H' → Ok H0 C H' σ' δ → Rep C v x → D.rt v H') → ts D σ H1
theorem runAt_of {ts : TS} {γ : Gam} {N : Gam → Prop} {R : Dat → Gam → Prop} {A0 H0 B H1 : Hp} {σ : L2.St} (h : Run ts γ N R) : RunAt ts A0 H0 B H1 σ γ N R := fun g k D dn dr => h A0 H0 B H1 σ g k D dn dr
section
variable {K : PySem.W.Frag} {γ : Gam} {te : TE} {ta tb tc : TE} {x y z : Dat} {xs : List Dat} {N : Gam → Prop} {R : Dat → Gam → Prop} {c cls : Value} {i j : Nat} {Wout : WX}
/-- the suite goes on: the name is unbound behind it -/
theorem wAs_in {ts : Addr → Value → Option Addr → TS} {D : Ends} {A0 H0 B H1 : Hp} {σ : L2.St} {d : Option Addr} (hx : PySem.W.exmOne K cls c = some true) (g : Gr A0 H0 B H1) (k : Ok H0 B H1 σ γ)
    (hs : ∀ a, H1 a = none → RunAt (ts a cls d) A0 H0 B H1 (σ.set i (some (.ref a))) (γ.set i (.d (.hnd a))) (fun δ => N (δ.set i .no)) R) (dn : ∀ δ C H' σ', N δ → Gr A0 H0 C H' → Ex B C → Ok H0 C H' σ' δ → D.nx σ' H')
    (dr : ∀ v C H' x σ' δ, R x δ → Gr A0 H0 C H' → Ok H0 C H' σ' δ → Rep C v x → D.rt v H') : wAs K c i ts Wout D cls d σ H1 :=
  ⟨true, hx, fun _ a ha => hs a ha g (k.setD (.hnd a) i) _ (fun δ C H2 σ' n g2 v2 k2 => dn _ C H2 _ n g2 v2 (k2.forget i none)) dr, fun z => nomatch z⟩
/-- a call that raises -/
theorem run_tryEN {te : WX → TE} {ts : Addr → Value → Option Addr → TS} (hE : ∀ W, EvEN (te W) W γ cls) (hx : PySem.W.exmOne K cls c = some true)
    (hs : ∀ a d A0 H0 B H1 (σ : L2.St), XD H1 d → H1 a = none → RunAt (ts a cls d) A0 H0 B H1 (σ.set i (some (.ref a))) (γ.set i (.d (.hnd a))) (fun δ => N (δ.set i .no)) R) :
    Run (fun D σ H => tDrop (te (wAs K c i ts Wout D)) D σ H) γ N R := fun A0 H0 A H σ g0 k D dn dr =>
  hE _ H0 A H σ k _ fun d B H1 xd g1 => wAs_in hx (g0.trans g1) (k.mono g1) (fun a ha => hs a d A0 H0 B H1 σ xd ha) (fun δ C H2 σ' n g2 v2 k2 => dn δ C H2 σ' n g2 (g1.view.trans v2) k2) dr
/-- raise X() -/
theorem run_tryR {C0 : Addr} {ts : Addr → Value → Option Addr → TS} (hx : PySem.W.exmOne K (.ref C0) c = some true) (hs : ∀ a A0 H0 B H1 (σ : L2.St), H1 a = none → RunAt (ts a (.ref C0) none) A0 H0 B H1 (σ.set i (some (.ref a))) (γ.set i (.d (.hnd a))) (fun δ => N (δ.set i .no)) R) :
    Run (fun D σ H => (fun cls d H' => wAs K c i ts Wout D cls d σ H') (.ref C0) none H) γ N R := fun A0 H0 A H σ g0 k D dn dr =>
  wAs_in hx g0 k (fun a ha => hs a A0 H0 A H σ ha) dn dr
/-- raise X(e), X keeps e in the field f; the suite: kept.append(err.f) -/
theorem run_tryK {C0 : Addr} {f : Str} {tm : L2.St → Hp → XK → Prop} (hx : PySem.W.exmOne K (.ref C0) c = some true)
    (hm : ∀ H0 A H σ, Ok H0 A H σ γ → ∀ Q : XK, (∀ dx v B H', Gr A H B H' → H' dx = some (.xd [(f, v)]) → Rep B v y → Q (.ref C0) (some dx) H') → tm σ H Q)
    (hj : γ[j]? = some (Slot.o xs)) (hij : i ≠ j) (hi : i < γ.length) (hl : xs.length < sizeLine) (hn : N ((γ.set j (.o (xs ++ [y]))).set i .no)) :
    Run (fun D σ H => tm σ H fun cls d H' => wAs K c i (fun a cls d => tDrop (tBM K "list" rAppend (tVar j) (tCons (tXf a cls d C0 f (tVar i)) tNil))) Wout D cls d σ H') γ N R := fun A0 H0 A H σ g0 k D dn dr =>
  hm H0 A H σ k _ fun dx v B H1 g1 hd rv => wAs_in hx (g0.trans g1) (k.mono g1) (fun a ha => fun g2 k2 D2 dn2 _ => by
    have hj2 : (γ.set i (.d (.hnd a)))[j]? = some (Slot.o xs) := by
      rw [List.getElem?_set_ne hij]
      exact hj
    obtain ⟨l, vs, e, h0, hA, hH, r⟩ := k2.own j xs hj2
    have hi2 : (σ.set i (some (V.ref a)))[i]? = some (some (V.ref a)) := List.getElem?_set_self (by rw [k.len]; exact hi)
    refine ⟨.ref l, e, .inl ⟨rfl, vs, SqL.of hH⟩, .ref a, hi2, rfl, rfl, dx, [(f, v)], v, rfl, hd, by rw [List.lookup_cons_self], l, vs, v, rfl, rfl, hH, by rw [r.len]; exact hl, ?_⟩
    exact dn2 _ B _ _ (by
      show N (((γ.set i (.d (.hnd a))).set j (.o (xs ++ [y]))).set i .no)
      rw [List.set_comm _ _ hij, List.set_set]
      exact hn) (g2.mut h0 hA) (Ex.refl B) (k2.change hj2 e (r.app (Reps.one rv)))) (fun δ C H2 σ' n g2 v2 k2 => dn δ C H2 σ' n g2 (g1.view.trans v2) k2) dr
/-- kept, x, y = [], .. -/
theorem run_par3O {l : Nat} (h1 : EvN ta γ xs) (h2 : EvD tb γ y) (h3 : EvD tc γ z) (hn : N (((γ.set i (.o xs)).set j (.d y)).set l (.d z))) : Run (tPar3 i j l (tCons ta (tCons tb (tCons tc tNil)))) γ N R := fun A0 H0 A H σ g0 k D dn dr =>
  h1 H0 A H σ k _ fun p vs B H1 g1 hl hB e1 r1 => h2 H0 B H1 σ (k.mono g1) _ fun v2 C H2 g2 r2 => h3 H0 C H2 σ ((k.mono g1).mono g2) _ fun v3 E H3 g3 r3 => by
    have g4 := g2.trans g3
    have k4 := (k.mono g1).mono g4
    have k5 := k4.setM (l := p) (s := .o xs) i (fun q t hq mt e => by
      obtain ⟨a, o, e2, _, _, e3⟩ := k.addr hq mt
      rw [e2] at e
      cases e
      rw [hl] at e3
      cases e3) (fun _ z => nomatch z) (fun _ _ z => nomatch z) (fun _ _ z => nomatch z) (fun _ z => by cases z; exact ⟨vs, Evl.fresh_back g0.up hl, g4.hid p _ e1 True.intro hB, g4.up _ _ e1, r1.mono g4.view⟩) fun _ z => nomatch z
    exact ⟨_, _, _, rfl, dn _ E H3 _ hn (g0.trans (g1.trans g4)) ((g1.view.trans g4.view)) ((k5.setD (r2.mono g3.view) j).setD r3 l)⟩
theorem reps_bl {H : Hp} : ∀ bs : List Bool, Reps H (bs.map V.bl) (bs.map Dat.bl)
  | [] => .nil
  | b :: bs => .cons (.bl b) (reps_bl bs)
/-- a new list of booleans that a call hands back is stored -/
theorem at_bools {A0 H0 B H1 H' : Hp} {σ : L2.St} {l : Addr} {bs : List Bool} (g : Gr A0 H0 B H1) (k : Ok H0 B H1 σ γ) (e : Ex H1 H') (n : H1 l = none) (h : H' l = some (.lst (bs.map V.bl))) :
    ∃ C, Gr B H1 C H' ∧ Ok H0 C H' (σ.set j (some (.ref l))) (γ.set j (.d (.lst (bs.map .bl)))) := by
  have g1 : Gr B H1 B H' := ⟨e, Ex.refl B, k.sub.trans e, fun _ _ _ _ h => h⟩
  have bl : B l = none := Evl.fresh_back k.sub n
  have g2 := g1.show h n bl
  exact ⟨_, g2, (k.mono g2).setD (.lst upd_same (reps_bl bs)) j⟩
end
theorem passAt0 {X : Cx} : ∀ σ, PassesAt CX0 X σ (fun _ _ _ => False) := fun _ _ _ _ _ _ _ h => h.elim
theorem pe_callQ {X : Cx} {CX : CXT} {k : Nat} {f : Addr} {fd : FuncData} {ps : List Str} {sp : Addr → Value → Option Addr → Sp} {x : Str} {q pos : Pos} {cls : Value} {d : Option Addr} {e : Expr} {es : List Expr} {t : TA} {a : Addr} {oe : Obj} (F : FnP X.prog X.w X.K X.mg X.base CX k f fd ps sp) (hr : L2H.RoomH k X.A) (hot : L2H.Hot1 X.A (a, oe)) (hz : Zc cls d oe) (hp : (a, oe) ∈ X.pn)
    (hg : Gl X x) (hm : X.mg x = some (.ref f)) (hk : PySem.W.keepIn X.K (.ref f) = true) (hb : Binds X.K fd ps []) (hx : ∀ σ, PassesAt CX X σ (fun _ _ _ => False)) (ha : PA X (e :: es) t) (hdb : (x == ("__debug__" : Str)) = false := by decide)
    (he : starEach (e :: es) X.env = (false, eval e X.env) :: starEach es X.env := by rfl) (hpl : (backTo pos (starEach es X.env)).any (·.1) = false := by rfl) : PE X (.Call (.Name x q) (e :: es) [] pos) (tCallP a cls d sp t) :=
  pe_callP (p := (a, oe)) F hr hot hz hp hg hm hk hb hx ha hdb he hpl
theorem call_isQ {X : Cx} {K : PySem.W.Frag} (eK : X.K = K) {a : Addr} {oe : Obj} {cls : Value} {d : Option Addr} (hp : (a, oe) ∈ X.pn) (hz : Zc cls d oe) (hf : ∃ vs, oe.data = .fields vs) : CallR X (.builtin "isinstance") (rIsP K a cls d) := call_isPK (p := (a, oe)) eK hp hz hf
end Fr

set_option Elab.async false
set_option linter.all false
set_option maxRecDepth 100000
set_option maxHeartbeats 4000000
namespace Fr
open PySem PySem.Spec PyProof.Rows L2
open Evl (Ex)
theorem ok_entryS {A H : Hp} {K : PySem.W.Frag} {a : Addr} {ns : List Int} (s : Ex A H) (hS : SqL K A a (ns.map V.int)) (N : List Str) {vs : List V} {xs : List Dat} (r : Reps A vs xs) (hN : vs.length < N.length) :
    Ok H A H (L2.start N (V.ref a :: vs)) (Slot.scr K ns :: entry (N.drop 1) xs) := by
  have q := ok_entry s (N.drop 1) r
  have e1 : L2.start N (V.ref a :: vs) = some (V.ref a) :: L2.start (N.drop 1) vs := by
    unfold L2.start
    rw [List.map_cons, List.cons_append, List.length_cons, List.length_drop]
    congr 3
    omega
  rw [e1]
  have no : ∀ (i : Nat) (t : Slot), (entry (N.drop 1) xs)[i]? = some t → t.mine = false ∧ ∀ K m, t ≠ .scr K m := fun i t h => by
    unfold entry at h
    by_cases hi : i < xs.length
    · rw [List.getElem?_append_left (by simpa using hi), List.getElem?_map] at h
      cases e : xs[i]? with
      | none => rw [e] at h; cases h
      | some a => rw [e] at h; cases h; exact ⟨rfl, fun _ _ z => nomatch z⟩
    · rw [List.getElem?_append_right (by simpa using hi), List.getElem?_replicate] at h
      split at h <;> cases h
      exact ⟨rfl, fun _ _ z => nomatch z⟩
  have nm : ∀ (i : Nat) (t : Slot), (Slot.scr K ns :: entry (N.drop 1) xs)[i]? = some t → t.mine = false := fun i t h => by
    cases i with
    | zero => cases h; rfl
    | succ i => exact (no i t h).1
  refine ⟨s, by rw [List.length_cons, List.length_cons, q.len], fun i x h => ?_, fun i ys h => ?_, fun i ys h => ?_, fun i d ys h => ?_, fun i K' m h => ?_, fun i j l t u h1 h2 h3 h4 h5 h6 => ?_⟩
  · cases i with
    | zero => cases h
    | succ i => exact q.get i x h
  · have := nm i _ h
    cases this
  · have := nm i _ h
    cases this
  · have := nm i _ h
    cases this
  · cases i with
    | zero =>
      cases h
      exact ⟨a, rfl, hS⟩
    | succ i => exact absurd rfl ((no i _ h).2 K' m)
  · rw [nm i t h1] at h3
    cases h3
def spLaw (K : PySem.W.Frag) : Sp := fun vs H Q _ => ∃ (a : Addr) (ns : List Int), vs = [V.ref a] ∧ SqL K H a (ns.map V.int) ∧ ns.length ≤ 63 ∧ ∀ H', Q (.bl true) H'
structure ErrsOk (K : PySem.W.Frag) : Prop where
  d : ∀ x ∈ errs, ExcD K (He.ga K x)
  m : ∀ x ∈ errs, PySem.W.exmOne K (.ref (He.ga K x)) (.ref (He.ga K "FrameError")) = some true
  k : ∀ x ∈ errs, ∀ y ∈ errs, PySem.W.kitOne K (.ref (He.ga K x)) (.ref (He.ga K y)) = some (decide (x = y))
  v : ∀ x ∈ errs, PySem.W.kitOne K (.ref (He.ga K x)) (.type "ValueError") = some true
  fd : ExcD K (He.ga K "FrameError")
  fm : PySem.W.exmOne K (.ref (He.ga K "FrameError")) (.ref (He.ga K "FrameError")) = some true
  fk : ∀ y ∈ errs, PySem.W.kitOne K (.ref (He.ga K "FrameError")) (.ref (He.ga K y)) = some false
  nm : PySem.W.exmOne K (.ref (He.ga K "NotClean")) (.ref (He.ga K "NotClean")) = some true
def errAt (w : Nat) : Str := errs.getD w ""
theorem errAt_in {w : Nat} (h : w < 18) : errAt w ∈ errs := by
  have hl : w < errs.length := h
  unfold errAt
  rw [List.getD_eq_getElem?_getD, List.getElem?_eq_getElem hl]
  exact List.getElem_mem hl
def marksAt (w : Nat) : List Bool := errs.map fun y => decide (errAt w = y)
theorem marks_all : ∀ w : Fin 18, (marksAt w.1).count true = 1 ∧ (marksAt w.1)[w.1]? = some true := by decide +kernel
theorem marks_at {w : Nat} (h : w < 18) : (marksAt w).count true = 1 ∧ (marksAt w)[w]? = some true := marks_all ⟨w, h⟩
theorem marks_len (w : Nat) : (marksAt w).length = 18 := by
  unfold marksAt
  rw [List.length_map]
  rfl
def R__law_way_right (xs : List Dat) (y : Dat) : Prop := ∃ w : Nat, w < 18 ∧ xs = [.int (w : Nat), .int 18] ∧ y = .bl true
def R__law_kept_right (xs : List Dat) (y : Dat) : Prop := xs = [] ∧ y = .bl true
/-- marks = _law_marks(e), in a suite -/
theorem suite_marks {K : PySem.W.Frag} {γ : Gam} {N : Gam → Prop} {R : Dat → Gam → Prop} {A0 H0 B H1 : Hp} {σ : L2.St} {a D : Addr} {d : Option Addr} {b : Str → Bool} {i j : Nat} {tw : TS} (xd : XD H1 d) (hi : γ[i]? = some (Slot.d (.hnd a))) (hC : ExcD K D) (hk : ∀ x ∈ errs, PySem.W.kitOne K (.ref D) (.ref (He.ga K x)) = some (b x))
    (hn : ∀ C H' σ', XD H' d → RunAt tw A0 H0 C H' σ' (γ.set j (.d (.lst ((errs.map b).map .bl)))) N R) : RunAt (tSeq (tAsg (tCallP a (.ref D) d (spM K) (tCons (tVar i) tNil)) (gName j)) tw) A0 H0 B H1 σ γ N R := fun g k D' dn dr => by
  obtain ⟨v, e, r⟩ := k.get i _ hi
  cases r
  refine ⟨.ref a, e, D, b, rfl, rfl, hC, xd, hk, fun l H' ex n hl => ?_⟩
  obtain ⟨C, g2, k2⟩ := at_bools (j := j) g k ex n hl
  exact hn C H' _ (xd.up ex) (g.trans g2) k2 D' (fun δ E H2 σ' m g3 v3 k3 => dn δ E H2 σ' m g3 (g2.view.trans v3) k3) dr
theorem suite_marks1 {K : PySem.W.Frag} {γ : Gam} {N : Gam → Prop} {R : Dat → Gam → Prop} {A0 H0 B H1 : Hp} {σ : L2.St} {a D : Addr} {d : Option Addr} {b : Str → Bool} {i j : Nat} (xd : XD H1 d) (hi : γ[i]? = some (Slot.d (.hnd a))) (hC : ExcD K D) (hk : ∀ x ∈ errs, PySem.W.kitOne K (.ref D) (.ref (He.ga K x)) = some (b x))
    (hn : N (γ.set j (.d (.lst ((errs.map b).map .bl))))) : RunAt (tAsg (tCallP a (.ref D) d (spM K) (tCons (tVar i) tNil)) (gName j)) A0 H0 B H1 σ γ N R := fun g k D' dn dr => by
  obtain ⟨v, e, r⟩ := k.get i _ hi
  cases r
  refine ⟨.ref a, e, D, b, rfl, rfl, hC, xd, hk, fun l H' ex n hl => ?_⟩
  obtain ⟨C, g2, k2⟩ := at_bools (j := j) g k ex n hl
  exact dn _ C H' _ hn (g.trans g2) g2.view k2
theorem suite_isV {K : PySem.W.Frag} {γ : Gam} {N : Gam → Prop} {R : Dat → Gam → Prop} {A0 H0 B H1 : Hp} {σ : L2.St} {a D : Addr} {d : Option Addr} {i j : Nat} (xd : XD H1 d) (hi : γ[i]? = some (Slot.d (.hnd a))) (hC : ExcD K D) (hk : PySem.W.kitOne K (.ref D) (.type "ValueError") = some true) (hn : N (γ.set j (.d (.bl true)))) :
    RunAt (tAsg (tCB (rIsP K a (.ref D) d) (tCons (tVar i) (tCons (tC (.ty "ValueError")) tNil))) (gName j)) A0 H0 B H1 σ γ N R := fun g k D' dn dr => by
  obtain ⟨v, e, r⟩ := k.get i _ hi
  cases r
  exact ⟨.ref a, e, D, rfl, hC, xd, .ty "ValueError", .type "ValueError", true, rfl, fun u h => h, hk, dn _ B H1 _ hn g (Ex.refl B) (k.setD (.bl true) j)⟩
theorem r2_inB {K : PySem.W.Frag} {bs : List Bool} (h : ∀ b ∈ bs, b = false) : R2D (rInD K) (.bl true) (.lst (bs.map .bl)) (.bl false) := fun A H vx vy s r1 r2 Q q => by
  have t1 : Tame 1 (.lst (bs.map .bl)) := .lst fun d hd => by
    obtain ⟨b, _, rfl⟩ := List.mem_map.mp hd
    exact .bl b
  have t2 : Tame 1 (.bl true) := .bl true
  refine ⟨.bool true, pys (bs.map .bl), r1.dp s rfl, r2.dp s t1.ok.1, t2.ok.shaped (by decide), t1.ok.shaped (by decide), ?_⟩
  have e : ∀ cs : List Bool, (∀ b ∈ cs, b = false) → ((pys (cs.map .bl)).any fun z => PyData.eqv z (.bool true)) = false := by
    intro cs
    induction cs with
    | nil => exact fun _ => rfl
    | cons c cs ih =>
      intro hc
      rw [hc c List.mem_cons_self]
      show (PyData.eqv (.bool false) (.bool true) || ((pys (cs.map .bl)).any fun z => PyData.eqv z (.bool true))) = false
      rw [ih fun b hb => hc b (List.mem_cons_of_mem _ hb)]
      rfl
  rw [e bs h]
  exact q _ A H (Gr.refl s) (.bl false)
/-- script != [] -/
theorem ev_neScr {K : PySem.W.Frag} {γ : Gam} {i : Nat} {ns : List Int} (h : γ[i]? = some (Slot.scr K ns)) : EvD (tOp (rNeD K) (tVar i) (tLst tNil)) γ (.bl (!ns.isEmpty)) := fun H0 A H σ k Q q => by
  obtain ⟨a, e, sq⟩ := k.scr i K ns h
  have t1 : Tame 1 (.lst (ns.map .int)) := .lst fun d hd => by
    obtain ⟨b, _, rfl⟩ := List.mem_map.mp hd
    exact .int b
  have t2 : Tame 1 (.lst []) := .lst fun d hd => nomatch hd
  refine ⟨.ref a, e, Nat.zero_le _, fun p hp => ?_⟩
  have g := Gr.new (o := .lst []) k.sub hp
  have sq2 := Evl.ex_l (g.view.trans g.sub) sq
  have dp : ∀ (H : Hp) (ms : List Int), DpAll K H (ms.map V.int) (pys (ms.map .int)) := fun H ms => by
    induction ms with
    | nil => exact .nil
    | cons m ms ih => exact .cons (.int m) ih
  refine ⟨.list (pys (ns.map .int)), .list [], .lst sq2 (dp _ ns), .lst (SqL.of upd_same) .nil, t1.ok.shaped (by decide), t2.ok.shaped (by decide), ?_⟩
  have ee : PyData.eqv (.list (pys (ns.map .int))) (.list []) = ns.isEmpty := by
    cases ns with
    | nil => rfl
    | cons n ns => rfl
  rw [ee]
  exact q _ _ _ g (.bl _)
theorem ev_ixScr {K : PySem.W.Frag} {γ : Gam} {i : Nat} {n : Int} {ns : List Int} (h : γ[i]? = some (Slot.scr K (n :: ns))) : EvD (tOp (rIxL K) (tVar i) (tC (.int 0))) γ (.int n) := fun H0 A H σ k Q q => by
  obtain ⟨a, e, sq⟩ := k.scr i K _ h
  exact ⟨.ref a, e, a, _, 0, .int n, rfl, rfl, Evl.ex_l k.sub sq, atI_nat (j := 0) rfl, q (.int n) A H (Gr.refl k.sub) (.int n)⟩
section
variable {P : Program} {w0 : World} {K : PySem.W.Frag} {mg : Str → Option Value} {base : Heap}
theorem ok__law_way_right {f : Addr} {fd : FuncData} (F : Fun K "_law_way_right" "_law_way_right" s__law_way_right f fd) (EK : ErrsOk K) {f_k : Addr} {d_k : FuncData} (CP : CalP P w0 K mg base "_law_marks" ["e"] 1 (spM K) f_k d_k) (G_FrameError : mg "FrameError" = some (.ref (He.ga K "FrameError"))) (TV : mg "ValueError" = none) {f_o : Addr} {d_o : FuncData} (CN__law_raised_one : CalN P w0 K mg base "_law_raised_one" ["way"] 4 (RE_one K 0 18) f_o d_o) (T : Bs mg) : FnOk P w0 K mg base CX0 5 f fd ["way", "many"] (Pr R__law_way_right) := by
  refine fn_pr F sc__law_way_right (fun xs y h => by obtain ⟨_, _, rfl, _⟩ := h; rfl) fun cdv A outer s H E hr => ⟨_, (pss_cons (ps_par (i := 2) (j := 3) (by rfl) sc__law_way_right.nd rfl rfl (by decide) rfl rfl (pa_cons (pe_lst pa_nil) (pa_cons pe_bl pa_nil)) (by rfl))
      (pss_cons (L2N.ps_try_as (i := 4) rfl rfl sc__law_way_right.nd rfl rfl ⟨rfl, by decide, .inl G_FrameError⟩ takes0N (fun W pn xe tk _ => (pss_one (ps_expr (pe_callS CN__law_raised_one.ok (hr.mono (by decide)) rfl CN__law_raised_one.at_ CN__law_raised_one.kp CN__law_raised_one.bd (fun σ => L2N.passAt tk σ) (pa_cons (pv 0) pa_nil))))) (fun a oe cls d pn hz hf => (pss_cons (ps_set (i := 2) sc__law_way_right.nd rfl (Or.inl rfl) (pe_callQ CP.ok (roomH_mark (hr.mono (by decide))) (hot_of hz hf) hz.zc List.mem_cons_self (by rfl) CP.at_ CP.kp CP.bd passAt0 (pa_cons (pv 4) pa_nil)))
      (pss_one (ps_set (i := 3) sc__law_way_right.nd rfl (Or.inl rfl) (pe_callB (call_isQ (K := K) rfl (oe := oe) List.mem_cons_self hz.zc hf) (by rfl) T.isinstance (by decide +kernel) (pa_cons (pv 4) (pa_cons (pe_bltn (v := .ty "ValueError") (by rfl) TV (by decide +kernel) rfl) pa_nil))))))))
      (pss_one (ps_ret (pe_and (pv 3) (pe_and (pe_cmpR op_eq (pe_bm PySem.F.plainAttrs_list PySem.F.slot_list_count PySem.F.type_list_count (mt_countFK (K := K) rfl) (pv 2) (pa_cons pe_bl pa_nil)) pe_int (nomark _)) (pe_and (pe_cmpR op_eq (pe_callB (call_lenK (K := K) rfl) (by rfl) T.len PySem.boot_len (pa_cons (pv 2) pa_nil)) (pv 1) (nomark _)) (pe_one (pe_ix (ix_listK (K := K) rfl) (pv 2) (pv 0) (fun _ _ => rfl)))))))))), ?_⟩
  rintro xs y ⟨w, hw, rfl, rfl⟩
  obtain ⟨c1, c2⟩ := marks_at hw
  have cl := marks_len w
  refine run_seq1 (run_par (ea_cons (ev_ofN (en_lst ea_nil (Nat.zero_le _))) (ea_cons ev_bl ea_nil)) rfl) ?_
  refine run_seq1 (δ := [.d (.int (w : Nat)), .d (.int 18), .d (.lst ((marksAt w).map .bl)), .d (.bl true), .no]) (run_tryEN (cls := errF K w) (fun W => een_call (ea_cons (ev_var rfl) ea_nil) ⟨w, Nat.zero_le _, hw, rfl, rfl⟩) (EK.m _ (errAt_in hw)) fun a d A0 H0 B H1 σ xd ha => ?_) ?_
  · exact suite_marks (b := fun y => decide (errAt w = y)) xd rfl (EK.d _ (errAt_in hw)) (EK.k _ (errAt_in hw)) fun C H' σ' xd' => suite_isV xd' rfl (EK.d _ (errAt_in hw)) (EK.v _ (errAt_in hw)) rfl
  refine run_ret (ev_and (a := true) (b := true) (ev_var rfl) fun _ => ev_and (a := true) (b := true) (ev_is (ev_op (ev_count (ev_var rfl) ev_bl) ev_int r2_eqI) (congrArg Dat.bl (decide_eq_true (by rw [c1]; rfl)))) fun _ => ev_and (a := true) (b := true) (ev_is (ev_op (ev_lenL (er_ofD (ev_var rfl))) (ev_var rfl) r2_eqI) (congrArg Dat.bl (decide_eq_true ?_))) fun _ => ev_ixL (er_ofD (ev_var rfl)) (ev_var rfl) (atI_nat ?_)) rfl
  · rw [List.length_map, cl]
    rfl
  · rw [List.getElem?_map, c2]
    rfl
theorem ok__law_kept_right {f : Addr} {fd : FuncData} (F : Fun K "_law_kept_right" "_law_kept_right" s__law_kept_right f fd) (EK : ErrsOk K) {f_k : Addr} {d_k : FuncData} (CP : CalP P w0 K mg base "_law_marks" ["e"] 1 (spM K) f_k d_k) (G_FrameError : mg "FrameError" = some (.ref (He.ga K "FrameError"))) (G_NotClean : mg "NotClean" = some (.ref (He.ga K "NotClean"))) (X_FrameError : ExcY K (He.ga K "FrameError")) {f_NC : Addr} {d_NC : FuncData} (NX : ExcZ K (He.ga K "NotClean") f_NC) (CI : CalI P w0 K mg base ["self", "reason"] 1 (spNC K (He.ga K "NotClean")) f_NC d_NC) (KI : KwOk1 K d_NC ["self", "reason"] ["reason"] [0]) {f_t : Addr} {d_t : FuncData} (CN_tails : CalN P w0 K mg base "tails" ["rule"] 3 (RE_need_rule K) f_t d_t) (T : Bs mg) : FnOk P w0 K mg base CX0 4 f fd [] (Pr R__law_kept_right) := by
  refine fn_pr F sc__law_kept_right (fun xs y h => by rw [h.1]; rfl) fun cdv A outer s H E hr => ⟨_, (pss_cons (ps_par3 (i := 0) (j := 1) (l := 2) (by rfl) sc__law_kept_right.nd rfl rfl rfl (by decide) (by decide) (by decide) rfl rfl rfl (pa_cons (pe_lst pa_nil) (pa_cons (pe_lst (pa_cons pe_bl pa_nil)) (pa_cons (pe_lst pa_nil) pa_nil))) (by rfl))
      (pss_cons (L2N.ps_try_as (i := 3) rfl rfl sc__law_kept_right.nd rfl rfl ⟨rfl, by decide, .inl G_NotClean⟩ takes0N (fun W pn xe tk _ => (pss_one (L2N.ps_raise rfl tk (pmkN_oexK NX.t NX.i NX.f CI.ok (hr.mono (by decide)) KI pass0 rfl G_NotClean (pk_cons (pe_lst (pa_cons (pe_tup (pa_cons pe_int (pa_cons pe_int pa_nil))) (pa_cons (pe_tup pa_nil) pa_nil))) pk_nil))))) (fun a oe cls d pn hz hf => (pss_one (ps_expr (pe_bmK (K := K) rfl PySem.F.plainAttrs_list PySem.F.slot_list_append PySem.F.type_list_append mt_appendR (pv 0) (pa_cons (pe_xf NX.x NX.no hz.zc hf (pv 3)) pa_nil))))))
      (pss_cons (L2N.ps_try_as (i := 3) rfl rfl sc__law_kept_right.nd rfl rfl ⟨rfl, by decide, .inl G_NotClean⟩ takes0N (fun W pn xe tk _ => (pss_one (L2N.ps_raise rfl tk (pmkN_oex NX.t NX.i NX.f CI.ok (hr.mono (by decide)) CI.bd pass0 rfl G_NotClean (pa_cons (pe_lst pa_nil) pa_nil))))) (fun a oe cls d pn hz hf => (pss_one (ps_expr (pe_bmK (K := K) rfl PySem.F.plainAttrs_list PySem.F.slot_list_append PySem.F.type_list_append mt_appendR (pv 0) (pa_cons (pe_xf NX.x NX.no hz.zc hf (pv 3)) pa_nil))))))
      (pss_cons (L2N.ps_try_as (i := 3) rfl rfl sc__law_kept_right.nd rfl rfl ⟨rfl, by decide, .inl G_FrameError⟩ takes0N (fun W pn xe tk _ => (pss_one (L2N.ps_raise rfl tk (pmkN_own0 PySem.F.excBase_ValueError X_FrameError.ex G_FrameError X_FrameError.kp (raises_own X_FrameError.sub X_FrameError.ty) (by rfl))))) (fun a oe cls d pn hz hf => (pss_one (ps_set (i := 1) sc__law_kept_right.nd rfl (Or.inl rfl) (pe_callQ CP.ok (roomH_mark (hr.mono (by decide))) (hot_of hz hf) hz.zc List.mem_cons_self (by rfl) CP.at_ CP.kp CP.bd passAt0 (pa_cons (pv 3) pa_nil))))))
      (pss_cons (L2N.ps_try_as (i := 3) rfl rfl sc__law_kept_right.nd rfl rfl ⟨rfl, by decide, .inl G_FrameError⟩ takes0N (fun W pn xe tk _ => (pss_one (ps_expr (pe_callS CN_tails.ok (hr.mono (by decide)) rfl CN_tails.at_ CN_tails.kp CN_tails.bd (fun σ => L2N.passAt tk σ) (pa_cons (pe_tup pa_nil) pa_nil))))) (fun a oe cls d pn hz hf => (pss_one (ps_set (i := 2) sc__law_kept_right.nd rfl (Or.inl rfl) (pe_callQ CP.ok (roomH_mark (hr.mono (by decide))) (hot_of hz hf) hz.zc List.mem_cons_self (by rfl) CP.at_ CP.kp CP.bd passAt0 (pa_cons (pv 3) pa_nil))))))
      (pss_cons (ps_if (PW.pt (pw_or (pt_cmpR (op_neK (K := K) rfl hr.units) (pv 0) (pe_lst (pa_cons (pe_lst (pa_cons (pe_tup (pa_cons pe_int (pa_cons pe_int pa_nil))) (pa_cons (pe_tup pa_nil) pa_nil))) (pa_cons (pe_lst pa_nil) pa_nil))) (nomark _)) (pw_or1 (pt_cmpR (op_inDK (K := K) rfl (units65 hr)) pe_bl (pv 1) (by rfl))))) (pss_one (ps_ret pe_bl)) pss_nil)
      (pss_one (ps_ret (pe_and (pe_cmpR op_eq (pe_bm PySem.F.plainAttrs_list PySem.F.slot_list_count PySem.F.type_list_count (mt_countFK (K := K) rfl) (pv 2) (pa_cons pe_bl pa_nil)) pe_int (nomark _)) (pe_one (pe_ix (ix_listK (K := K) rfl) (pv 2) pe_int (fun _ _ => rfl)))))))))))), ?_⟩
  rintro xs y ⟨rfl, rfl⟩
  have hF : ∀ x ∈ errs, PySem.W.kitOne K (.ref (He.ga K "FrameError")) (.ref (He.ga K x)) = some ((fun _ => false) x) := EK.fk
  have h11 : errAt 11 = "InvalidRule" := rfl
  have i11 : ("InvalidRule" : Str) ∈ errs := h11 ▸ errAt_in (by decide)
  have hR : ∀ x ∈ errs, PySem.W.kitOne K (.ref (He.ga K "InvalidRule")) (.ref (He.ga K x)) = some ((fun y => decide (errAt 11 = y)) x) := EK.k _ i11
  obtain ⟨c1, c2⟩ := marks_at (w := 11) (by decide)
  have sz : (2 : Nat) < sizeLine := by decide
  refine run_seq1 (run_par3O (en_lst ea_nil (Nat.zero_le _)) (ev_ofN (en_lst (ea_cons ev_bl ea_nil) (by show 1 ≤ sizeLine; decide))) (ev_ofN (en_lst ea_nil (Nat.zero_le _))) rfl) ?_
  refine run_seq1 (run_tryK (y := .lst [w [0, 1], w []]) (C0 := He.ga K "NotClean") EK.nm (fun H0 A H σ k Q q => mk_ncK (ea_cons (ev_ofN (en_lst (ea_cons (ev_tup (ea_cons ev_int (ea_cons ev_int ea_nil)) (by show 2 ≤ sizeLine; decide)) (ea_cons ev_w0 ea_nil)) (by show 2 ≤ sizeLine; decide))) ea_nil) k q) rfl (by decide) (by show 3 < 4; decide) (by show 0 < sizeLine; decide) rfl) ?_
  refine run_seq1 (run_tryK (y := .lst []) (C0 := He.ga K "NotClean") EK.nm (fun H0 A H σ k Q q => mk_nc (ea_cons (ev_ofN (en_lst ea_nil (Nat.zero_le _))) ea_nil) k q) rfl (by decide) (by show 3 < 4; decide) (by show 1 < sizeLine; decide) rfl) ?_
  refine run_seq1 (δ := [.o [.lst [w [0, 1], w []], .lst []], .d (.lst ((errs.map fun _ => false).map .bl)), .d (.lst []), .no]) (run_tryR (C0 := He.ga K "FrameError") EK.fm fun a A0 H0 B H1 σ ha => suite_marks1 (.inl rfl) rfl EK.fd hF rfl) ?_
  refine run_seq1 (δ := [.o [.lst [w [0, 1], w []], .lst []], .d (.lst ((errs.map fun _ => false).map .bl)), .d (.lst ((marksAt 11).map .bl)), .no]) (run_tryEN (cls := .ref (He.ga K "InvalidRule")) (fun W => een_call (ea_cons (ev_tup ea_nil (Nat.zero_le _)) ea_nil) ⟨rfl, rfl⟩) (EK.m _ i11) fun a d A0 H0 B H1 σ xd ha => suite_marks1 xd rfl (EK.d _ i11) hR rfl) ?_
  refine run_freeze (i := 0) rfl ?_
  refine run_seq1 (run_if (b := false) (et_or (a := false) (b := false) (et_is (et_test (ev_op (ev_var rfl) (ev_ofN (en_lst (ea_cons (ev_ofN (en_lst (ea_cons (ev_tup (ea_cons ev_int (ea_cons ev_int ea_nil)) (by show 2 ≤ sizeLine; decide)) (ea_cons ev_w0 ea_nil)) (by show 2 ≤ sizeLine; decide))) (ea_cons (ev_ofN (en_lst ea_nil (Nat.zero_le _))) ea_nil)) (by show 2 ≤ sizeLine; decide))) (r2_neT (n := 4) ?_ (by decide)))) rfl) fun _ => et_test (ev_op ev_bl (ev_var rfl) (r2_inB fun b hb => ?_))) (fun z => by cases z) fun _ => run_next rfl) ?_
  · refine .lst fun d hd => ?_
    rcases List.mem_cons.mp hd with rfl | hd
    · refine .lst fun e he => ?_
      rcases List.mem_cons.mp he with rfl | he
      · exact (tame_w _).mono
      · rw [List.mem_singleton.mp he]
        exact (tame_w _).mono
    · rw [List.mem_singleton.mp hd]
      exact .lst fun e he => nomatch he
  · obtain ⟨_, _, rfl⟩ := List.mem_map.mp hb
    rfl
  refine run_ret (ev_and (a := true) (b := true) (ev_is (ev_op (ev_count (ev_var rfl) ev_bl) ev_int r2_eqI) (congrArg Dat.bl (decide_eq_true (by rw [c1]; rfl)))) fun _ => ev_ixL (er_ofD (ev_var rfl)) ev_int (atI_nat (j := 11) ?_)) rfl
  rw [List.getElem?_map, c2]
  rfl
theorem ok_law {f : Addr} {fd : FuncData} (F : Fun K "law" "law" s_law f fd) {f_w : Addr} {d_w : FuncData} (C__law_way_right : Cal P w0 K mg base "_law_way_right" ["way", "many"] 5 R__law_way_right f_w d_w) {f_k : Addr} {d_k : FuncData} (C__law_kept_right : Cal P w0 K mg base "_law_kept_right" [] 4 R__law_kept_right f_k d_k) (T : Bs mg) : FnOk P w0 K mg base CX0 6 f fd ["script"] (spLaw K) := by
  refine F.ok sc_law (fun vs H Q E h => ?_) fun cdv A outer s H vs Q E hr h => ?_
  · obtain ⟨_, _, rfl, _⟩ := h
    rfl
  · obtain ⟨a, ns, rfl, hS, hl, q⟩ := h
    refine ⟨_, (pss_cons (ps_set (i := 1) sc_law.nd rfl (Or.inr rfl) pe_int)
      (pss_cons (ps_set (i := 2) sc_law.nd rfl (Or.inl rfl) (pe_ifExp (pt_cmpR (op_neK (K := K) rfl hr.units) (pv 0) (pe_lst pa_nil) (nomark _)) (pe_op op_modN (pe_callTy call_int1 (by rfl) T.int (by decide +kernel) (pa_cons (pe_ix (ix_listK (K := K) rfl) (pv 0) pe_int (fun _ _ => rfl)) pa_nil)) (pv 1)) pe_int))
      (pss_cons (ps_if (PW.pt (pw_or (pt_not (pt_val (pe_call C__law_way_right.ok (hr.mono (by decide)) rfl C__law_way_right.at_ C__law_way_right.kp C__law_way_right.bd .nil pass0 (pa_cons (pv 2) (pa_cons (pv 1) pa_nil))))) (pw_or1 (pt_not (pt_val (pe_call0 C__law_kept_right.ok (hr.mono (by decide)) rfl C__law_kept_right.at_ C__law_kept_right.kp C__law_kept_right.bd .nil pass0)))))) (pss_one (ps_ret pe_bl)) pss_nil)
      (pss_one (ps_ret (pe_cmpR (op_eqK (K := K) rfl hr.units) (pe_lc (own := [("way", 3)]) rfl sc_law.nd (pi_range1 (by rfl) T.range (pa_cons (pv 1) pa_nil)) (blkOk_by (own := [("way", 3)]) (N := N_law) (sc := defScope s_law) (by decide +kernel)) (fun _ _ _ _ _ => (pg_name (i := 3) sc_law.nd rfl (Or.inl rfl))) (fun _ _ _ _ _ => (pts_one (pt_not (pt_val (pe_call C__law_way_right.ok (hr.mono (by decide)) rfl C__law_way_right.at_ C__law_way_right.kp C__law_way_right.bd .nil pass0 (pa_cons (pv 3) (pa_cons (pv 1) pa_nil))))))) (fun _ _ _ _ _ => (pv 3))) (pe_lst pa_nil) (nomark _))))))), ?_⟩
    have k0 := ok_entryS (Ex.refl H) hS N_law (vs := []) (xs := []) .nil (by show 0 < 4; decide)
    refine (?_ : Run _ (Slot.scr K ns :: entry (N_law.drop 1) []) (fun _ => False) (fun x _ => x = .bl true)) H H H H _ (Gr.refl (Ex.refl H)) k0 _ (fun _ _ _ _ z => z.elim) fun v C H' x σ' δ hx g _ rx => ?_
    case refine_2 =>
      subst hx
      cases rx
      exact q _
    have bigS : (18 : Int) < sizeLine := by decide
    refine run_seq1 (run_asg ev_int rfl) ?_
    refine run_seq (M := fun δ => ∃ w : Nat, w < 18 ∧ δ = [.scr K ns, .d (.int 18), .d (.int (w : Nat)), .no]) ?_ ?_
    · cases ns with
      | nil => exact run_asg (ev_if (b := false) (x := .int 0) (y := .int 0) (et_is (et_test (ev_neScr rfl)) rfl) (fun z => by cases z) fun _ => ev_int) ⟨0, by decide, rfl⟩
      | cons n ns =>
        have n0 : 0 ≤ n.fmod 18 := Int.fmod_nonneg_of_pos n (by decide)
        have n1 : n.fmod 18 < 18 := Int.fmod_lt_of_pos n (by decide)
        obtain ⟨w, hw⟩ := Int.eq_ofNat_of_zero_le n0
        exact run_asg (ev_if (b := true) (x := .int (w : Nat)) (y := .int 0) (et_is (et_test (ev_neScr rfl)) rfl) (fun _ => ev_is (ev_op (ev_int1 (ev_ixScr rfl)) (ev_var rfl) (r2_modN (by decide))) (congrArg Dat.int hw)) fun z => by cases z) ⟨w, by omega, rfl⟩
    rintro δ ⟨w, hw, rfl⟩
    refine run_seq1 (run_if (b := false) (et_or (a := false) (b := false) (et_not (a := true) (et_B (ev_call (ea_cons (ev_var rfl) (ea_cons (ev_var rfl) ea_nil)) ⟨w, hw, rfl, rfl⟩))) fun _ => et_not (a := true) (et_B (ev_call ea_nil ⟨rfl, rfl⟩))) (fun z => by cases z) fun _ => run_next rfl) ?_
    refine run_ret (ev_is (ev_op (ev_ofN (en_lcR (js := [3]) (n := 18) (f := fun _ => false) (v := fun a => .int (a : Nat)) (ea_cons (ev_var rfl) ea_nil) (by decide) ⟨by decide, bigS⟩ fun a ha => ⟨_, tg_name 3, et_not (a := true) (et_B (ev_call (ea_cons (ev_var rfl) (ea_cons (ev_var rfl) ea_nil)) ⟨a, by omega, rfl, rfl⟩)), fun z => by cases z⟩)) (ev_ofN (en_lst ea_nil (Nat.zero_le _))) (?_ : R2D (rEqD K) _ _ (.bl true))) rfl) rfl
    exact r2_eqNil
end
end Fr

set_option Elab.async false
set_option linter.all false
set_option maxRecDepth 100000
set_option maxHeartbeats 0
namespace Fr
open PySem PySem.Spec PyProof.Rows L2
open Evl (Ex)
/-! # the end -/
/-- an own exception class with an __init__ and a field, as the head sees it -/
def oexB (K : PySem.W.Frag) (C : Addr) : Bool := (match K.lookup C with
  | some ⟨.type "type", _, .cls cd, sl⟩ =>
    (match cd.mro, sl.toList with
    | .ref D :: bm, [_, _, _, _, some (.builtin n), _] => D == C && (n == "ValueError.__new__" && (!cd.hasDel && (cd.hasDict && PySem.HandSPX.refsVE bm)))
    | _, _ => false)
  | _ => false) && (He.eqO (PySem.W.findIn K (.ref C) "__setattr__") (some (some (.builtin "object.__setattr__"))) && (decide (PySem.W.subIn K (.ref C) (.type "BaseException") = some true) && (decide (PySem.W.typeIn K (.ref C) = some (.type "type")) && PySem.W.keepIn K (.ref C))))
theorem oexB_ok {K : PySem.W.Frag} {C : Addr} (h : oexB K C = true) : OexC K C := by
  obtain ⟨h1, h⟩ := He.ba h
  obtain ⟨h2, h⟩ := He.ba h
  obtain ⟨h3, h⟩ := He.ba h
  obtain ⟨h4, h5⟩ := He.ba h
  refine ⟨?_, He.eqO_ok h2, of_decide_eq_true h3, of_decide_eq_true h4, h5⟩
  split at h1
  · rename_i dd cd sl ho
    split at h1
    · rename_i D bm k0 k1 k2 k3 n k5 hm hs
      obtain ⟨z1, z⟩ := He.ba h1
      obtain ⟨z2, z⟩ := He.ba z
      obtain ⟨z3, z⟩ := He.ba z
      obtain ⟨z4, z5⟩ := He.ba z
      have e1 : D = C := beq_iff_eq.mp z1
      have e2 : n = "ValueError.__new__" := beq_iff_eq.mp z2
      have e3 : cd.hasDel = false := by
        cases q : cd.hasDel with
        | false => rfl
        | true => rw [q] at z3; cases z3
      have e4 : sl = #[k0, k1, k2, k3, some (.builtin n), k5] := by
        obtain ⟨l⟩ := sl
        simp only at hs
        rw [hs]
      obtain ⟨a1, a2, a3, a4, a5, a6, a7, a8, a9, a10, a11⟩ := cd
      dsimp only at hm e3 z4
      subst e1 e2 e4 hm e3 z4
      exact ⟨_, _, _, _, _, _, _, _, _, _, _, _, _, _, _, ho, z5⟩
    · cases h1
  · cases h1
def allErrs : List Str := errs ++ (["FrameError"] : List Str)
def kB (K : PySem.W.Frag) (x y : Str) (b : Bool) : Bool := decide (PySem.W.kitOne K (.ref (He.ga K x)) (.ref (He.ga K y)) = some b)
def zex (K : PySem.W.Frag) : Bool := (allErrs.all fun x => excCB K x && (PySem.W.clsIn K (He.ga K x)).isSome) && ((allErrs.all fun x => decide (PySem.W.exmOne K (.ref (He.ga K x)) (.ref (He.ga K "FrameError")) = some true)) &&
  ((errs.all fun x => errs.all fun y => kB K x y (decide (x = y))) && ((errs.all fun x => decide (PySem.W.kitOne K (.ref (He.ga K x)) (.type "ValueError") = some true)) && ((errs.all fun y => kB K "FrameError" y false) &&
  (decide (PySem.W.exmOne K (.ref (He.ga K "NotClean")) (.ref (He.ga K "NotClean")) = some true) && (oexB K (He.ga K "NotClean") && (xfB K (He.ga K "NotClean") && (He.eqO (PySem.W.findIn K (.ref (He.ga K "NotClean")) "reason") (some none) &&
  (He.eqO (PySem.W.findIn K (.ref (He.ga K "NotClean")) "__init__") (some (some (.ref (He.ma K (He.ga K "NotClean") "__init__")))) && decide (PySem.W.typeIn K (.ref (He.ma K (He.ga K "NotClean") "__init__")) = some (.type "function")))))))))))
theorem zex_ok {K : PySem.W.Frag} (h : zex K = true) : ErrsOk K ∧ ExcZ K (He.ga K "NotClean") (He.ma K (He.ga K "NotClean") "__init__") := by
  obtain ⟨h1, h⟩ := He.ba h
  obtain ⟨h2, h⟩ := He.ba h
  obtain ⟨h3, h⟩ := He.ba h
  obtain ⟨h4, h⟩ := He.ba h
  obtain ⟨h5, h⟩ := He.ba h
  obtain ⟨h6, h⟩ := He.ba h
  obtain ⟨h7, h⟩ := He.ba h
  obtain ⟨h8, h⟩ := He.ba h
  obtain ⟨h9, h⟩ := He.ba h
  obtain ⟨h10, h11⟩ := He.ba h
  have inA : ∀ {x : Str}, x ∈ errs → x ∈ allErrs := fun hx => List.mem_append_left _ hx
  have inF : ("FrameError" : Str) ∈ allErrs := List.mem_append_right _ List.mem_cons_self
  have d : ∀ x ∈ allErrs, ExcD K (He.ga K x) := fun x hx => by
    obtain ⟨z1, z2⟩ := He.ba (List.all_eq_true.mp h1 x hx)
    exact ⟨excCB_ok z1, z2⟩
  have m : ∀ x ∈ allErrs, PySem.W.exmOne K (.ref (He.ga K x)) (.ref (He.ga K "FrameError")) = some true := fun x hx => of_decide_eq_true (List.all_eq_true.mp h2 x hx)
  exact ⟨⟨fun x hx => d x (inA hx), fun x hx => m x (inA hx), fun x hx y hy => of_decide_eq_true (List.all_eq_true.mp (List.all_eq_true.mp h3 x hx) y hy), fun x hx => of_decide_eq_true (List.all_eq_true.mp h4 x hx), d _ inF, m _ inF, fun y hy => of_decide_eq_true (List.all_eq_true.mp h5 y hy), of_decide_eq_true h6⟩,
    oexB_ok h7, He.eqO_ok h10, of_decide_eq_true h11, xfB_ok h8, He.eqO_ok h9⟩
def dd_is_rule : He.DefD := ⟨("is_rule", none), "is_rule", "is_rule", defArgs s_is_rule, defBody s_is_rule, defScope s_is_rule, [], []⟩
theorem b_is_rule : ∀ (kV doc pm : Value) (an : Option Addr) (cdv ct : Value) (us : List Value), us.length = (["value"] : List Str).length → bindArgs (PySem.W.fnOf "is_rule" "is_rule" (defArgs s_is_rule) (defBody s_is_rule) (defScope s_is_rule) .none kV doc pm an cdv ct) ⟨us, []⟩ = pure ((["value"] : List Str).zip us) :=
  fun _ _ _ _ _ _ us hl => match us, hl with | [_], _ => rfl
def dd_need_rule : He.DefD := ⟨("need_rule", none), "need_rule", "need_rule", defArgs s_need_rule, defBody s_need_rule, defScope s_need_rule, [], []⟩
theorem b_need_rule : ∀ (kV doc pm : Value) (an : Option Addr) (cdv ct : Value) (us : List Value), us.length = (["value"] : List Str).length → bindArgs (PySem.W.fnOf "need_rule" "need_rule" (defArgs s_need_rule) (defBody s_need_rule) (defScope s_need_rule) .none kV doc pm an cdv ct) ⟨us, []⟩ = pure ((["value"] : List Str).zip us) :=
  fun _ _ _ _ _ _ us hl => match us, hl with | [_], _ => rfl
def dd_tails : He.DefD := ⟨("tails", none), "tails", "tails", defArgs s_tails, defBody s_tails, defScope s_tails, [], []⟩
theorem b_tails : ∀ (kV doc pm : Value) (an : Option Addr) (cdv ct : Value) (us : List Value), us.length = (["rule"] : List Str).length → bindArgs (PySem.W.fnOf "tails" "tails" (defArgs s_tails) (defBody s_tails) (defScope s_tails) .none kV doc pm an cdv ct) ⟨us, []⟩ = pure ((["rule"] : List Str).zip us) :=
  fun _ _ _ _ _ _ us hl => match us, hl with | [_], _ => rfl
def dd__law_raised_more : He.DefD := ⟨("_law_raised_more", none), "_law_raised_more", "_law_raised_more", defArgs s__law_raised_more, defBody s__law_raised_more, defScope s__law_raised_more, [], []⟩
theorem b__law_raised_more : ∀ (kV doc pm : Value) (an : Option Addr) (cdv ct : Value) (us : List Value), us.length = (["way"] : List Str).length → bindArgs (PySem.W.fnOf "_law_raised_more" "_law_raised_more" (defArgs s__law_raised_more) (defBody s__law_raised_more) (defScope s__law_raised_more) .none kV doc pm an cdv ct) ⟨us, []⟩ = pure ((["way"] : List Str).zip us) :=
  fun _ _ _ _ _ _ us hl => match us, hl with | [_], _ => rfl
def dd__law_raised_one : He.DefD := ⟨("_law_raised_one", none), "_law_raised_one", "_law_raised_one", defArgs s__law_raised_one, defBody s__law_raised_one, defScope s__law_raised_one, [], []⟩
theorem b__law_raised_one : ∀ (kV doc pm : Value) (an : Option Addr) (cdv ct : Value) (us : List Value), us.length = (["way"] : List Str).length → bindArgs (PySem.W.fnOf "_law_raised_one" "_law_raised_one" (defArgs s__law_raised_one) (defBody s__law_raised_one) (defScope s__law_raised_one) .none kV doc pm an cdv ct) ⟨us, []⟩ = pure ((["way"] : List Str).zip us) :=
  fun _ _ _ _ _ _ us hl => match us, hl with | [_], _ => rfl
def dd__law_marks : He.DefD := ⟨("_law_marks", none), "_law_marks", "_law_marks", defArgs s__law_marks, defBody s__law_marks, defScope s__law_marks, [], []⟩
theorem b__law_marks : ∀ (kV doc pm : Value) (an : Option Addr) (cdv ct : Value) (us : List Value), us.length = (["e"] : List Str).length → bindArgs (PySem.W.fnOf "_law_marks" "_law_marks" (defArgs s__law_marks) (defBody s__law_marks) (defScope s__law_marks) .none kV doc pm an cdv ct) ⟨us, []⟩ = pure ((["e"] : List Str).zip us) :=
  fun _ _ _ _ _ _ us hl => match us, hl with | [_], _ => rfl
def dd__law_way_right : He.DefD := ⟨("_law_way_right", none), "_law_way_right", "_law_way_right", defArgs s__law_way_right, defBody s__law_way_right, defScope s__law_way_right, [], []⟩
theorem b__law_way_right : ∀ (kV doc pm : Value) (an : Option Addr) (cdv ct : Value) (us : List Value), us.length = (["way", "many"] : List Str).length → bindArgs (PySem.W.fnOf "_law_way_right" "_law_way_right" (defArgs s__law_way_right) (defBody s__law_way_right) (defScope s__law_way_right) .none kV doc pm an cdv ct) ⟨us, []⟩ = pure ((["way", "many"] : List Str).zip us) :=
  fun _ _ _ _ _ _ us hl => match us, hl with | [_, _], _ => rfl
def dd__law_kept_right : He.DefD := ⟨("_law_kept_right", none), "_law_kept_right", "_law_kept_right", defArgs s__law_kept_right, defBody s__law_kept_right, defScope s__law_kept_right, [], []⟩
theorem b__law_kept_right : ∀ (kV doc pm : Value) (an : Option Addr) (cdv ct : Value) (us : List Value), us.length = ([] : List Str).length → bindArgs (PySem.W.fnOf "_law_kept_right" "_law_kept_right" (defArgs s__law_kept_right) (defBody s__law_kept_right) (defScope s__law_kept_right) .none kV doc pm an cdv ct) ⟨us, []⟩ = pure (([] : List Str).zip us) :=
  fun _ _ _ _ _ _ us hl => match us, hl with | [], _ => rfl
def dd_NotClean_init : He.DefD := ⟨("NotClean", some "__init__"), "__init__", "NotClean.__init__", defArgs s_NotClean_init, defBody s_NotClean_init, defScope s_NotClean_init, [], []⟩
theorem b_NotClean_init : ∀ (kV doc pm : Value) (an : Option Addr) (cdv ct : Value) (us : List Value), us.length = (["self", "reason"] : List Str).length → bindArgs (PySem.W.fnOf "__init__" "NotClean.__init__" (defArgs s_NotClean_init) (defBody s_NotClean_init) (defScope s_NotClean_init) .none kV doc pm an cdv ct) ⟨us, []⟩ = pure ((["self", "reason"] : List Str).zip us) :=
  fun _ _ _ _ _ _ us hl => match us, hl with | [_, _], _ => rfl
def dd_law : He.DefD := ⟨("law", none), "law", "law", defArgs s_law, defBody s_law, defScope s_law, [], []⟩
theorem kb_NC : ∀ (kV doc pm : Value) (an : Option Addr) (cdv ct u : Value) (ws : List Value), ws.length = (["reason"] : List Str).length → bindArgs (PySem.W.fnOf "__init__" "NotClean.__init__" (defArgs s_NotClean_init) (defBody s_NotClean_init) (defScope s_NotClean_init) .none kV doc pm an cdv ct) ⟨[u], (["reason"] : List Str).zip ws⟩ = pure ((["self", "reason"] : List Str).zip (u :: pick [0] ws)) :=
  fun _ _ _ _ _ _ _ ws hl => match ws, hl with | [_], _ => rfl
def zfa0 : List He.Fa := [.glo "is_rule", .glo "need_rule", .glo "tails", .glo "_law_raised_more", .glo "_law_raised_one", .glo "_law_marks", .glo "_law_way_right", .glo "_law_kept_right", .glo "law", .glo "InvalidBits", .glo "InvalidChange", .glo "InvalidCheck", .glo "InvalidFlag", .glo "InvalidFraction", .glo "InvalidIndex", .glo "InvalidInsert", .glo "InvalidKind", .glo "InvalidLength", .glo "InvalidNumber", .glo "InvalidPayloads", .glo "InvalidRule", .glo "InvalidText", .glo "NotClean", .glo "NothingToUndo", .glo "Spoilt", .glo "TooLong", .glo "Waiting", .glo "FrameError", .free "isinstance", .free "int"]
def zfa1 : List He.Fa := [.free "bool", .free "tuple", .free "list", .free "str", .free "all", .free "len", .free "range", .free "reversed", .free "zip", .free "sum", .free "max", .free "min", .free "abs", .free "sorted", .free "ValueError", .exc "InvalidBits", .exc "InvalidChange", .exc "InvalidCheck", .exc "InvalidFlag", .exc "InvalidFraction", .exc "InvalidIndex", .exc "InvalidInsert", .exc "InvalidKind", .exc "InvalidLength", .exc "InvalidNumber", .exc "InvalidPayloads", .exc "InvalidRule", .exc "InvalidText", .exc "NothingToUndo", .exc "Spoilt"]
def zfa2 : List He.Fa := [.exc "TooLong", .exc "Waiting", .exc "FrameError"]
def zfa : List He.Fa := zfa0 ++ zfa1 ++ zfa2
def zfn0 : List He.DefD := [dd_is_rule, dd_need_rule, dd_tails, dd__law_raised_more, dd__law_raised_one, dd__law_marks, dd__law_way_right, dd__law_kept_right, dd_NotClean_init, dd_law]
def zfn : List He.DefD := zfn0
def zlo0 : List Str := ["__name__", "FrameError", "InvalidRule", "InvalidBits", "InvalidPayloads", "InvalidLength", "InvalidIndex", "InvalidFraction", "InvalidChange", "InvalidKind", "InvalidFlag", "InvalidText", "InvalidInsert", "InvalidCheck", "InvalidNumber", "NothingToUndo", "Waiting", "Spoilt", "TooLong", "NotClean", "put_table", "_due", "next_tail", "put_in", "tail_of_flag", "behind_flag", "send_on", "is_number", "is_bit", "is_word"]
def zlo1 : List Str := ["is_full_word", "is_rule", "_are_inserts", "is_insert", "need_rule", "tails", "_law_raised_one", "_law_raised_more", "_law_marks", "_law_way_right", "_law_kept_right"]
def zlo : List Str := zlo0 ++ zlo1
def zpd0 : List Str := ["is_rule", "need_rule", "tails", "_law_raised_more", "_law_raised_one", "_law_marks", "_law_way_right", "_law_kept_right", "law"]
def zpd : List Str := zpd0
def zpc0 : List Str := ["InvalidBits", "InvalidChange", "InvalidCheck", "InvalidFlag", "InvalidFraction", "InvalidIndex", "InvalidInsert", "InvalidKind", "InvalidLength", "InvalidNumber", "InvalidPayloads", "InvalidRule", "InvalidText", "NotClean", "NothingToUndo", "Spoilt", "TooLong", "Waiting", "FrameError"]
def zpc : List Str := zpc0
def zpm0 : List (Str × Str) := [("NotClean", "__init__")]
def zpm : List (Str × Str) := zpm0
def zpk : Pick := ⟨zpd, zpc, zpm⟩
abbrev zR : PySem.W.OpenRow := PySem.W.OpenLaw.row PySem.Challenge.rw_onlyflags_k00_error_classes
abbrev zhk : PySem.W.Hook := hookZ zpk zfa zfn zex
def zob (s : PySem.W.SharedT) : AlZ := obsZ zpk zfa zfn zex (HandSHeadRun.getT s)
theorem zob_eq (s : PySem.W.SharedT) : zob s = zhk.obs s.abs := obsZ_eq (HandSHeadRun.getT_eq s)
theorem zrun (w : World) : HandSHeadRun.RunEq zR (PySem.W.view zR.prog [44]) zhk zob 40000 zlo w := by
  intro os
  kernel_rfl
theorem all_mk {P : Program} {w0 : World} {K : PySem.W.Frag} {h : Heap} {mg : Str → Option Value} {fa : Addr} (X : K.In h) (G : h.Ns mainGlobals mg) (hfa : mg "law" = some (.ref fa)) (cz : SaysZ zfa zfn zex K) :
    ∃ fd : FuncData, (∀ (s : Shared) (v : Value), BindsTo s fd ⟨[v], []⟩ [("script", v)]) ∧ ∀ base : Heap, K.In base → base.Ns mainGlobals mg → FnOk P w0 K mg base CX0 6 fa fd ["script"] (spLaw K) := by
  have c := cz.d
  have e := hfa.symm.trans (He.glo_ok X G (c.fact 8 (f := .glo "law") rfl))
  cases e
  have T : Bs mg := ⟨He.free_ok X G (c.fact 28 (f := .free "isinstance") rfl), He.free_ok X G (c.fact 29 (f := .free "int") rfl), He.free_ok X G (c.fact 30 (f := .free "bool") rfl), He.free_ok X G (c.fact 31 (f := .free "tuple") rfl), He.free_ok X G (c.fact 32 (f := .free "list") rfl), He.free_ok X G (c.fact 33 (f := .free "str") rfl), He.free_ok X G (c.fact 34 (f := .free "all") rfl), He.free_ok X G (c.fact 35 (f := .free "len") rfl), He.free_ok X G (c.fact 36 (f := .free "range") rfl), He.free_ok X G (c.fact 37 (f := .free "reversed") rfl), He.free_ok X G (c.fact 38 (f := .free "zip") rfl), He.free_ok X G (c.fact 39 (f := .free "sum") rfl), He.free_ok X G (c.fact 40 (f := .free "max") rfl), He.free_ok X G (c.fact 41 (f := .free "min") rfl), He.free_ok X G (c.fact 42 (f := .free "abs") rfl), He.free_ok X G (c.fact 43 (f := .free "sorted") rfl)⟩
  obtain ⟨EK, NX⟩ := zex_ok cz.e
  obtain ⟨d_is_rule, FD_is_rule⟩ := c.def_ 0 (d := dd_is_rule) rfl
  have F_is_rule : Fun K "is_rule" "is_rule" s_is_rule _ d_is_rule := fun_ofD FD_is_rule
  have B_is_rule : Binds K d_is_rule ["value"] [] := F_is_rule.binds b_is_rule
  have A_is_rule : mg "is_rule" = some (.ref (He.ga K "is_rule")) := He.glo_ok X G (c.fact 0 (f := .glo "is_rule") rfl)
  obtain ⟨d_need_rule, FD_need_rule⟩ := c.def_ 1 (d := dd_need_rule) rfl
  have F_need_rule : Fun K "need_rule" "need_rule" s_need_rule _ d_need_rule := fun_ofD FD_need_rule
  have B_need_rule : Binds K d_need_rule ["value"] [] := F_need_rule.binds b_need_rule
  have A_need_rule : mg "need_rule" = some (.ref (He.ga K "need_rule")) := He.glo_ok X G (c.fact 1 (f := .glo "need_rule") rfl)
  obtain ⟨d_tails, FD_tails⟩ := c.def_ 2 (d := dd_tails) rfl
  have F_tails : Fun K "tails" "tails" s_tails _ d_tails := fun_ofD FD_tails
  have B_tails : Binds K d_tails ["rule"] [] := F_tails.binds b_tails
  have A_tails : mg "tails" = some (.ref (He.ga K "tails")) := He.glo_ok X G (c.fact 2 (f := .glo "tails") rfl)
  obtain ⟨d__law_raised_more, FD__law_raised_more⟩ := c.def_ 3 (d := dd__law_raised_more) rfl
  have F__law_raised_more : Fun K "_law_raised_more" "_law_raised_more" s__law_raised_more _ d__law_raised_more := fun_ofD FD__law_raised_more
  have B__law_raised_more : Binds K d__law_raised_more ["way"] [] := F__law_raised_more.binds b__law_raised_more
  have A__law_raised_more : mg "_law_raised_more" = some (.ref (He.ga K "_law_raised_more")) := He.glo_ok X G (c.fact 3 (f := .glo "_law_raised_more") rfl)
  obtain ⟨d__law_raised_one, FD__law_raised_one⟩ := c.def_ 4 (d := dd__law_raised_one) rfl
  have F__law_raised_one : Fun K "_law_raised_one" "_law_raised_one" s__law_raised_one _ d__law_raised_one := fun_ofD FD__law_raised_one
  have B__law_raised_one : Binds K d__law_raised_one ["way"] [] := F__law_raised_one.binds b__law_raised_one
  have A__law_raised_one : mg "_law_raised_one" = some (.ref (He.ga K "_law_raised_one")) := He.glo_ok X G (c.fact 4 (f := .glo "_law_raised_one") rfl)
  obtain ⟨d__law_marks, FD__law_marks⟩ := c.def_ 5 (d := dd__law_marks) rfl
  have F__law_marks : Fun K "_law_marks" "_law_marks" s__law_marks _ d__law_marks := fun_ofD FD__law_marks
  have B__law_marks : Binds K d__law_marks ["e"] [] := F__law_marks.binds b__law_marks
  have A__law_marks : mg "_law_marks" = some (.ref (He.ga K "_law_marks")) := He.glo_ok X G (c.fact 5 (f := .glo "_law_marks") rfl)
  obtain ⟨d__law_way_right, FD__law_way_right⟩ := c.def_ 6 (d := dd__law_way_right) rfl
  have F__law_way_right : Fun K "_law_way_right" "_law_way_right" s__law_way_right _ d__law_way_right := fun_ofD FD__law_way_right
  have B__law_way_right : Binds K d__law_way_right ["way", "many"] [] := F__law_way_right.binds b__law_way_right
  have A__law_way_right : mg "_law_way_right" = some (.ref (He.ga K "_law_way_right")) := He.glo_ok X G (c.fact 6 (f := .glo "_law_way_right") rfl)
  obtain ⟨d__law_kept_right, FD__law_kept_right⟩ := c.def_ 7 (d := dd__law_kept_right) rfl
  have F__law_kept_right : Fun K "_law_kept_right" "_law_kept_right" s__law_kept_right _ d__law_kept_right := fun_ofD FD__law_kept_right
  have B__law_kept_right : Binds K d__law_kept_right [] [] := F__law_kept_right.binds b__law_kept_right
  have A__law_kept_right : mg "_law_kept_right" = some (.ref (He.ga K "_law_kept_right")) := He.glo_ok X G (c.fact 7 (f := .glo "_law_kept_right") rfl)
  obtain ⟨d_NotClean_init, FD_NotClean_init⟩ := c.def_ 8 (d := dd_NotClean_init) rfl
  have F_NotClean_init : Fun K "__init__" "NotClean.__init__" s_NotClean_init _ d_NotClean_init := fun_ofD FD_NotClean_init
  have B_NotClean_init : Binds K d_NotClean_init ["self", "reason"] [] := F_NotClean_init.binds b_NotClean_init
  obtain ⟨d_law, FD_law⟩ := c.def_ 9 (d := dd_law) rfl
  have F_law : Fun K "law" "law" s_law _ d_law := fun_ofD FD_law
  have G_InvalidBits : mg "InvalidBits" = some (.ref (He.ga K "InvalidBits")) := He.glo_ok X G (c.fact 9 (f := .glo "InvalidBits") rfl)
  have X_InvalidBits : ExcY K (He.ga K "InvalidBits") := by
    obtain ⟨h1, h2, h3, h4⟩ := He.exc_ok (c.fact 45 (f := .exc "InvalidBits") rfl)
    exact ⟨h1, h2, h3, h4⟩
  have G_InvalidChange : mg "InvalidChange" = some (.ref (He.ga K "InvalidChange")) := He.glo_ok X G (c.fact 10 (f := .glo "InvalidChange") rfl)
  have X_InvalidChange : ExcY K (He.ga K "InvalidChange") := by
    obtain ⟨h1, h2, h3, h4⟩ := He.exc_ok (c.fact 46 (f := .exc "InvalidChange") rfl)
    exact ⟨h1, h2, h3, h4⟩
  have G_InvalidCheck : mg "InvalidCheck" = some (.ref (He.ga K "InvalidCheck")) := He.glo_ok X G (c.fact 11 (f := .glo "InvalidCheck") rfl)
  have X_InvalidCheck : ExcY K (He.ga K "InvalidCheck") := by
    obtain ⟨h1, h2, h3, h4⟩ := He.exc_ok (c.fact 47 (f := .exc "InvalidCheck") rfl)
    exact ⟨h1, h2, h3, h4⟩
  have G_InvalidFlag : mg "InvalidFlag" = some (.ref (He.ga K "InvalidFlag")) := He.glo_ok X G (c.fact 12 (f := .glo "InvalidFlag") rfl)
  have X_InvalidFlag : ExcY K (He.ga K "InvalidFlag") := by
    obtain ⟨h1, h2, h3, h4⟩ := He.exc_ok (c.fact 48 (f := .exc "InvalidFlag") rfl)
    exact ⟨h1, h2, h3, h4⟩
  have G_InvalidFraction : mg "InvalidFraction" = some (.ref (He.ga K "InvalidFraction")) := He.glo_ok X G (c.fact 13 (f := .glo "InvalidFraction") rfl)
  have X_InvalidFraction : ExcY K (He.ga K "InvalidFraction") := by
    obtain ⟨h1, h2, h3, h4⟩ := He.exc_ok (c.fact 49 (f := .exc "InvalidFraction") rfl)
    exact ⟨h1, h2, h3, h4⟩
  have G_InvalidIndex : mg "InvalidIndex" = some (.ref (He.ga K "InvalidIndex")) := He.glo_ok X G (c.fact 14 (f := .glo "InvalidIndex") rfl)
  have X_InvalidIndex : ExcY K (He.ga K "InvalidIndex") := by
    obtain ⟨h1, h2, h3, h4⟩ := He.exc_ok (c.fact 50 (f := .exc "InvalidIndex") rfl)
    exact ⟨h1, h2, h3, h4⟩
  have G_InvalidInsert : mg "InvalidInsert" = some (.ref (He.ga K "InvalidInsert")) := He.glo_ok X G (c.fact 15 (f := .glo "InvalidInsert") rfl)
  have X_InvalidInsert : ExcY K (He.ga K "InvalidInsert") := by
    obtain ⟨h1, h2, h3, h4⟩ := He.exc_ok (c.fact 51 (f := .exc "InvalidInsert") rfl)
    exact ⟨h1, h2, h3, h4⟩
  have G_InvalidKind : mg "InvalidKind" = some (.ref (He.ga K "InvalidKind")) := He.glo_ok X G (c.fact 16 (f := .glo "InvalidKind") rfl)
  have X_InvalidKind : ExcY K (He.ga K "InvalidKind") := by
    obtain ⟨h1, h2, h3, h4⟩ := He.exc_ok (c.fact 52 (f := .exc "InvalidKind") rfl)
    exact ⟨h1, h2, h3, h4⟩
  have G_InvalidLength : mg "InvalidLength" = some (.ref (He.ga K "InvalidLength")) := He.glo_ok X G (c.fact 17 (f := .glo "InvalidLength") rfl)
  have X_InvalidLength : ExcY K (He.ga K "InvalidLength") := by
    obtain ⟨h1, h2, h3, h4⟩ := He.exc_ok (c.fact 53 (f := .exc "InvalidLength") rfl)
    exact ⟨h1, h2, h3, h4⟩
  have G_InvalidNumber : mg "InvalidNumber" = some (.ref (He.ga K "InvalidNumber")) := He.glo_ok X G (c.fact 18 (f := .glo "InvalidNumber") rfl)
  have X_InvalidNumber : ExcY K (He.ga K "InvalidNumber") := by
    obtain ⟨h1, h2, h3, h4⟩ := He.exc_ok (c.fact 54 (f := .exc "InvalidNumber") rfl)
    exact ⟨h1, h2, h3, h4⟩
  have G_InvalidPayloads : mg "InvalidPayloads" = some (.ref (He.ga K "InvalidPayloads")) := He.glo_ok X G (c.fact 19 (f := .glo "InvalidPayloads") rfl)
  have X_InvalidPayloads : ExcY K (He.ga K "InvalidPayloads") := by
    obtain ⟨h1, h2, h3, h4⟩ := He.exc_ok (c.fact 55 (f := .exc "InvalidPayloads") rfl)
    exact ⟨h1, h2, h3, h4⟩
  have G_InvalidRule : mg "InvalidRule" = some (.ref (He.ga K "InvalidRule")) := He.glo_ok X G (c.fact 20 (f := .glo "InvalidRule") rfl)
  have X_InvalidRule : ExcY K (He.ga K "InvalidRule") := by
    obtain ⟨h1, h2, h3, h4⟩ := He.exc_ok (c.fact 56 (f := .exc "InvalidRule") rfl)
    exact ⟨h1, h2, h3, h4⟩
  have G_InvalidText : mg "InvalidText" = some (.ref (He.ga K "InvalidText")) := He.glo_ok X G (c.fact 21 (f := .glo "InvalidText") rfl)
  have X_InvalidText : ExcY K (He.ga K "InvalidText") := by
    obtain ⟨h1, h2, h3, h4⟩ := He.exc_ok (c.fact 57 (f := .exc "InvalidText") rfl)
    exact ⟨h1, h2, h3, h4⟩
  have G_NotClean : mg "NotClean" = some (.ref (He.ga K "NotClean")) := He.glo_ok X G (c.fact 22 (f := .glo "NotClean") rfl)
  have G_NothingToUndo : mg "NothingToUndo" = some (.ref (He.ga K "NothingToUndo")) := He.glo_ok X G (c.fact 23 (f := .glo "NothingToUndo") rfl)
  have X_NothingToUndo : ExcY K (He.ga K "NothingToUndo") := by
    obtain ⟨h1, h2, h3, h4⟩ := He.exc_ok (c.fact 58 (f := .exc "NothingToUndo") rfl)
    exact ⟨h1, h2, h3, h4⟩
  have G_Spoilt : mg "Spoilt" = some (.ref (He.ga K "Spoilt")) := He.glo_ok X G (c.fact 24 (f := .glo "Spoilt") rfl)
  have X_Spoilt : ExcY K (He.ga K "Spoilt") := by
    obtain ⟨h1, h2, h3, h4⟩ := He.exc_ok (c.fact 59 (f := .exc "Spoilt") rfl)
    exact ⟨h1, h2, h3, h4⟩
  have G_TooLong : mg "TooLong" = some (.ref (He.ga K "TooLong")) := He.glo_ok X G (c.fact 25 (f := .glo "TooLong") rfl)
  have X_TooLong : ExcY K (He.ga K "TooLong") := by
    obtain ⟨h1, h2, h3, h4⟩ := He.exc_ok (c.fact 60 (f := .exc "TooLong") rfl)
    exact ⟨h1, h2, h3, h4⟩
  have G_Waiting : mg "Waiting" = some (.ref (He.ga K "Waiting")) := He.glo_ok X G (c.fact 26 (f := .glo "Waiting") rfl)
  have X_Waiting : ExcY K (He.ga K "Waiting") := by
    obtain ⟨h1, h2, h3, h4⟩ := He.exc_ok (c.fact 61 (f := .exc "Waiting") rfl)
    exact ⟨h1, h2, h3, h4⟩
  have G_FrameError : mg "FrameError" = some (.ref (He.ga K "FrameError")) := He.glo_ok X G (c.fact 27 (f := .glo "FrameError") rfl)
  have X_FrameError : ExcY K (He.ga K "FrameError") := by
    obtain ⟨h1, h2, h3, h4⟩ := He.exc_ok (c.fact 62 (f := .exc "FrameError") rfl)
    exact ⟨h1, h2, h3, h4⟩
  have TV : mg "ValueError" = none := He.free_ok X G (c.fact 44 (f := .free "ValueError") rfl)
  obtain ⟨ocL, odL, kVL, dcL, pmL, anL, cdL, ctL, oslL, eL, lL, cL⟩ := F_law.ex
  refine ⟨d_law, fun s v => by subst eL; exact .of_eq rfl, fun base _ _ => ?_⟩
  have KI := kw_ok1 F_NotClean_init kb_NC
  have CI : CalI P w0 K mg base ["self", "reason"] 1 (spNC K (He.ga K "NotClean")) _ d_NotClean_init := ⟨ok_NotClean_init NX.t NX.no F_NotClean_init, B_NotClean_init⟩
  have C_is_rule : Cal P w0 K mg base "is_rule" ["value"] 1 R_is_rule _ d_is_rule := ⟨ok_is_rule F_is_rule T, B_is_rule, A_is_rule, FD_is_rule.kp⟩
  have CN_need_rule : CalN P w0 K mg base "need_rule" ["value"] 2 (RE_need_rule K) _ d_need_rule := ⟨ok_need_rule F_need_rule C_is_rule X_InvalidRule G_InvalidRule, B_need_rule, A_need_rule, FD_need_rule.kp⟩
  have CN_tails : CalN P w0 K mg base "tails" ["rule"] 3 (RE_need_rule K) _ d_tails := ⟨ok_tails F_tails CN_need_rule, B_tails, A_tails, FD_tails.kp⟩
  have CN_more : CalN P w0 K mg base "_law_raised_more" ["way"] 3 (RE_one K 12 18) _ d__law_raised_more := ⟨ok__law_raised_more F__law_raised_more X_InvalidText X_NothingToUndo X_Spoilt X_TooLong X_Waiting G_InvalidText G_NotClean G_NothingToUndo G_Spoilt G_TooLong G_Waiting NX CI, B__law_raised_more, A__law_raised_more, FD__law_raised_more.kp⟩
  have CN_one : CalN P w0 K mg base "_law_raised_one" ["way"] 4 (RE_one K 0 18) _ d__law_raised_one := ⟨ok__law_raised_one F__law_raised_one X_InvalidBits X_InvalidChange X_InvalidCheck X_InvalidFlag X_InvalidFraction X_InvalidIndex X_InvalidInsert X_InvalidKind X_InvalidLength X_InvalidNumber X_InvalidPayloads X_InvalidRule G_InvalidBits G_InvalidChange G_InvalidCheck G_InvalidFlag G_InvalidFraction G_InvalidIndex G_InvalidInsert G_InvalidKind G_InvalidLength G_InvalidNumber G_InvalidPayloads G_InvalidRule CN_more, B__law_raised_one, A__law_raised_one, FD__law_raised_one.kp⟩
  have CP : CalP P w0 K mg base "_law_marks" ["e"] 1 (spM K) _ d__law_marks := ⟨ok__law_marks F__law_marks G_InvalidBits G_InvalidChange G_InvalidCheck G_InvalidFlag G_InvalidFraction G_InvalidIndex G_InvalidInsert G_InvalidKind G_InvalidLength G_InvalidNumber G_InvalidPayloads G_InvalidRule G_InvalidText G_NotClean G_NothingToUndo G_Spoilt G_TooLong G_Waiting T, B__law_marks, A__law_marks, FD__law_marks.kp⟩
  have C_way : Cal P w0 K mg base "_law_way_right" ["way", "many"] 5 R__law_way_right _ d__law_way_right := ⟨ok__law_way_right F__law_way_right EK CP G_FrameError TV CN_one T, B__law_way_right, A__law_way_right, FD__law_way_right.kp⟩
  have C_kept : Cal P w0 K mg base "_law_kept_right" [] 4 R__law_kept_right _ d__law_kept_right := ⟨ok__law_kept_right F__law_kept_right EK CP G_FrameError G_NotClean X_FrameError NX CI KI CN_tails T, B__law_kept_right, A__law_kept_right, FD__law_kept_right.kp⟩
  exact ok_law F_law C_way C_kept T
end Fr
open PySem PySem.W PySem.Calls PyProof.Rows in
theorem PySem.Challenge.cw_onlyflags_k00_error_classes_holds : PySem.Challenge.rw_onlyflags_k00_error_classes.Holds := by
  w_on; o_law
  refine HandSHeadRun.head_any (r := OpenLaw.row PySem.Challenge.rw_onlyflags_k00_error_classes) (q := view (OpenLaw.row PySem.Challenge.rw_onlyflags_k00_error_classes).prog [44]) (H := Fr.zhk) (ob := Fr.zob) (M := 40000) (loose := Fr.zlo) (d := HandSHeadRun.topDef (OpenLaw.row PySem.Challenge.rw_onlyflags_k00_error_classes).prog 44) (kwd := []) Fr.zob_eq
    (by kernel_rfl) (fun s => by kernel_rfl) Fr.zrun (by kernel_rfl) (by kernel_rfl) (by kernel_rfl) (by rfl) (by first | assumption | decide +kernel) (by decide +kernel) ⟨rfl, rfl, rfl, rfl, rfl, by decide +kernel⟩ ?hw ?hc
  case hw => w_witness2
  case hc =>
    refine L2.walk_ofE (l := PySem.Challenge.rw_onlyflags_k00_error_classes) (n := 63) (k := 6) (x := "script") (CX := L2.CX0) rfl (by decide) (by kernel_rfl) ⟨rfl, by decide, by decide⟩ ?F (fun _ _ _ _ z => z)
    intro w mg fa h Y G hmg0
    obtain ⟨K, KX, c⟩ := Y
    have hmg : mg ("law" : PySem.Str) = some (.ref fa) := by
      have e : (HandSHeadRun.topDef (OpenLaw.row PySem.Challenge.rw_onlyflags_k00_error_classes).prog 44).name = ("law" : PySem.Str) := by kernel_rfl
      rw [← e]
      exact hmg0
    obtain ⟨fd, hb, hF⟩ := Fr.all_mk (P := (PySem.Challenge.rw_onlyflags_k00_error_classes).prog) (w0 := w) KX G hmg c
    exact ⟨K, fd, Fr.spLaw K, KX, hb, fun H a ns hl _ hS => ⟨a, ns, rfl, hS, hl, fun _ => rfl⟩, hF⟩
