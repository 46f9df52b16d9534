import PyProof.Rows.All
import Wide.All
import OpenK.AllK
import Wide.FinOn
import HandS.ForMost
import HandS.Evl
import HandS.TupAny
import HandS.TupMul
import HandS.TupLe
import HandS.IsInst
import HandS.DictComp
import HandS.Flow
import HandS.Wide
import HandS.WideBits
import HandS.RevRange
import HandS.Conv
import HandS.Deep
import HandS.Walk
import HandS.Star
import HandS.SortRule
import PyProof.FactsAll.tuple_2
import HandS.Style
import HandS.Defaults
import PyProof.EqAt
import HandS.ForExc
import HandS.ExcIs
import HandS.SetFor
import HandS.Head0
import HandS.Head1
import HandS.Head2
import HandS.HeadEnd
import HandS.HeadHook1
import HandS.HeadHook2
import HandS.Property
import HandS.OwnEq
import PyProof.P3Eq
import HandS.Text
import HandS.FStr
import HandS.StrMore
import KE.KxText
import HandS.MakeKwOnly
import HandS.ExcCtx
import OpenK.KMeth
import HandS.ExcInit
import HandS.ExcField
import HandS.HotCalls
import KE.KExcIs
import PyProof.EqKinds
import PyProof.FactsAll.dict_1
import KE.GoesRaise
import KE.IntTextLaws
import HandS.Replace
import HandS.ReplaceLit
import PySem.Challenge.RW_onlyflags_k51_texts_that_are_none
set_option Elab.async false
set_option linter.all false
set_option maxRecDepth 100000
set_option maxHeartbeats 4000000
namespace Fr
open PySem L2
open Evl (Ex)
/-! # data without addresses -/
inductive Dat where
  | non | bl (b : Bool) | int (i : Int) | str (x : Str) | tup (ds : List Dat) | lst (ds : List Dat) | dic (es : List (List L2.Key × Dat)) | obj (C : Addr) (fs : List (Str × Dat)) | hnd (p : Addr)
mutual
inductive Rep (H : Hp) : V → Dat → Prop where
  | non : Rep H .non .non
  | bl (b : Bool) : Rep H (.bl b) (.bl b)
  | int (i : Int) : Rep H (.int i) (.int i)
  | str (x : Str) : Rep H (.str x) (.str x)
  | tup {a : Addr} {xs : List V} {ds : List Dat} : H a = some (.tup xs) → Reps H xs ds → Rep H (.ref a) (.tup ds)
  | lst {a : Addr} {xs : List V} {ds : List Dat} : H a = some (.lst xs) → Reps H xs ds → Rep H (.ref a) (.lst ds)
  | dic {a : Addr} {kvs : List (List L2.Key × V)} {es : List (List L2.Key × Dat)} : H a = some (.dT kvs) → RepsK H kvs es → Rep H (.ref a) (.dic es)
  | obj {a C dx : Addr} {kvs : List (Str × V)} {fs : List (Str × Dat)} : H a = some (.ins C dx kvs) → RepsF H kvs fs → Rep H (.ref a) (.obj C fs)
  | hnd (p : Addr) : Rep H (.ref p) (.hnd p)
inductive Reps (H : Hp) : List V → List Dat → Prop where
  | nil : Reps H [] []
  | cons {v : V} {d : Dat} {vs : List V} {ds : List Dat} : Rep H v d → Reps H vs ds → Reps H (v :: vs) (d :: ds)
inductive RepsK (H : Hp) : List (List L2.Key × V) → List (List L2.Key × Dat) → Prop where
  | nil : RepsK H [] []
  | cons {k : List L2.Key} {v : V} {d : Dat} {vs : List (List L2.Key × V)} {ds : List (List L2.Key × Dat)} : Rep H v d → RepsK H vs ds → RepsK H ((k, v) :: vs) ((k, d) :: ds)
inductive RepsF (H : Hp) : List (Str × V) → List (Str × Dat) → Prop where
  | nil : RepsF H [] []
  | cons {k : Str} {v : V} {d : Dat} {vs : List (Str × V)} {ds : List (Str × Dat)} : Rep H v d → RepsF H vs ds → RepsF H ((k, v) :: vs) ((k, d) :: ds)
end
section
variable {H H' : Hp}
mutual
theorem Rep.mono (e : Ex H H') : ∀ {v : V} {d : Dat}, Rep H v d → Rep H' v d
  | _, _, .non => .non
  | _, _, .bl b => .bl b
  | _, _, .int i => .int i
  | _, _, .str x => .str x
  | _, _, .tup h r => .tup (e _ _ h) (Reps.mono e r)
  | _, _, .lst h r => .lst (e _ _ h) (Reps.mono e r)
  | _, _, .dic h r => .dic (e _ _ h) (RepsK.mono e r)
  | _, _, .obj h r => .obj (e _ _ h) (RepsF.mono e r)
  | _, _, .hnd p => .hnd p
theorem Reps.mono (e : Ex H H') : ∀ {v : List V} {d : List Dat}, Reps H v d → Reps H' v d
  | _, _, .nil => .nil
  | _, _, .cons h r => .cons (Rep.mono e h) (Reps.mono e r)
theorem RepsK.mono (e : Ex H H') : ∀ {v : List (List L2.Key × V)} {d : List (List L2.Key × Dat)}, RepsK H v d → RepsK H' v d
  | _, _, .nil => .nil
  | _, _, .cons h r => .cons (Rep.mono e h) (RepsK.mono e r)
theorem RepsF.mono (e : Ex H H') : ∀ {v : List (Str × V)} {d : List (Str × Dat)}, RepsF H v d → RepsF H' v d
  | _, _, .nil => .nil
  | _, _, .cons h r => .cons (Rep.mono e h) (RepsF.mono e r)
end
theorem Reps.len : ∀ {v : List V} {d : List Dat}, Reps H v d → v.length = d.length
  | _, _, .nil => rfl
  | _, _, .cons _ r => by simp [Reps.len r]
theorem Reps.get : ∀ {vs : List V} {ds : List Dat} {i : Nat} {d : Dat}, Reps H vs ds → ds[i]? = some d → ∃ v, vs[i]? = some v ∧ Rep H v d
  | _, _, _, _, .nil, h => by simp at h
  | _, _, 0, _, .cons h _, q => by simp at q; subst q; exact ⟨_, rfl, h⟩
  | _, _, i + 1, _, .cons _ r, q => by
    obtain ⟨v, a, b⟩ := Reps.get (i := i) r (by simpa using q)
    exact ⟨v, by simpa using a, b⟩
theorem Reps.getV : ∀ {vs : List V} {ds : List Dat} {i : Nat} {v : V}, Reps H vs ds → vs[i]? = some v → ∃ d, ds[i]? = some d ∧ Rep H v d
  | _, _, _, _, .nil, h => by simp at h
  | _, _, 0, _, .cons h _, q => by simp at q; subst q; exact ⟨_, rfl, h⟩
  | _, _, i + 1, _, .cons _ r, q => by
    obtain ⟨v, a, b⟩ := Reps.getV (i := i) r (by simpa using q)
    exact ⟨v, by simpa using a, b⟩
theorem Reps.app : ∀ {vs us : List V} {ds es : List Dat}, Reps H vs ds → Reps H us es → Reps H (vs ++ us) (ds ++ es)
  | _, _, _, _, .nil, s => s
  | _, _, _, _, .cons h r, s => .cons h (Reps.app r s)
theorem Reps.drop : ∀ {vs : List V} {ds : List Dat} (n : Nat), Reps H vs ds → Reps H (vs.drop n) (ds.drop n)
  | _, _, 0, r => r
  | _, _, _ + 1, .nil => .nil
  | _, _, n + 1, .cons _ r => Reps.drop n r
theorem Reps.take : ∀ {vs : List V} {ds : List Dat} (n : Nat), Reps H vs ds → Reps H (vs.take n) (ds.take n)
  | _, _, 0, _ => .nil
  | _, _, _ + 1, .nil => .nil
  | _, _, n + 1, .cons h r => .cons h (Reps.take n r)
theorem Reps.one {v : V} {d : Dat} (h : Rep H v d) : Reps H [v] [d] := .cons h .nil
theorem Reps.ints : ∀ {vs : List V} {ns : List Int}, Reps H vs (ns.map Dat.int) → vs = ns.map V.int
  | _, [], h => by cases h; rfl
  | _, n :: ns, h => by
    cases h with
    | cons h r =>
      cases h
      rw [Reps.ints r]
      rfl
theorem Reps.ofInts : ∀ (ns : List Int), Reps H (ns.map V.int) (ns.map Dat.int)
  | [] => .nil
  | n :: ns => .cons (.int n) (Reps.ofInts ns)
end
/-- no tuple -/
def NT : HO → Prop
  | .tup _ => False
  | _ => True
/-! # a heap and the part of it that is seen -/
structure Gr (A H B H' : Hp) : Prop where
  up : Ex H H'
  view : Ex A B
  sub : Ex B H'
  hid : ∀ a o, H a = some o → NT o → A a = none → B a = none
theorem Gr.refl {A H : Hp} (s : Ex A H) : Gr A H A H := ⟨Ex.refl H, Ex.refl A, s, fun _ _ _ _ h => h⟩
theorem Gr.trans {A H B H1 C H2 : Hp} (a : Gr A H B H1) (b : Gr B H1 C H2) : Gr A H C H2 :=
  ⟨a.up.trans b.up, a.view.trans b.view, b.sub, fun x o h m n => b.hid x o (a.up x o h) m (a.hid x o h m n)⟩
/-- a new object, seen -/
theorem Gr.new {A H : Hp} (s : Ex A H) {p : Addr} {o : HO} (h : H p = none) : Gr A H (upd A p o) (upd H p o) := by
  have hA : A p = none := Evl.fresh_back s h
  refine ⟨Ex.new h, Ex.new hA, fun a u e => ?_, fun a u e _ n => ?_⟩
  · by_cases q : a = p
    · subst q
      rw [upd_same] at e ⊢
      exact e
    · rw [upd_ne q] at e ⊢
      exact s a u e
  · rw [upd_ne (ne_of_none e h)]
    exact n
/-- a new object, not seen -/
theorem Gr.newU {A H : Hp} (s : Ex A H) {p : Addr} {o : HO} (h : H p = none) : Gr A H A (upd H p o) :=
  ⟨Ex.new h, Ex.refl A, s.trans (Ex.new h), fun _ _ _ _ n => n⟩
/-- an object of this frame's is shown -/
theorem Gr.show {A0 H0 A H : Hp} (g : Gr A0 H0 A H) {p : Addr} {o : HO} (h : H p = some o) (h0 : H0 p = none) (hA : A p = none) : Gr A0 H0 (upd A p o) H := by
  refine ⟨g.up, g.view.trans (Ex.new hA), fun a u e => ?_, fun a u e m n => ?_⟩
  · by_cases q : a = p
    · subst q
      rw [upd_same] at e
      rw [h]
      exact e
    · rw [upd_ne q] at e
      exact g.sub a u e
  · rw [upd_ne (ne_of_none e h0)]
    exact g.hid a u e m n
/-- a tuple that stands is shown -/
theorem Gr.tup {A H : Hp} (s : Ex A H) {q : Addr} {xs : List V} (h : H q = some (.tup xs)) : Gr A H (upd A q (.tup xs)) H := by
  refine ⟨Ex.refl H, fun a u e => ?_, fun a u e => ?_, fun a u e m n => ?_⟩
  · by_cases z : a = q
    · subst z
      rw [upd_same]
      exact (h.symm.trans (s _ _ e)).symm ▸ rfl
    · rw [upd_ne z]
      exact e
  · by_cases z : a = q
    · subst z
      rw [upd_same] at e
      rw [h]
      exact e
    · rw [upd_ne z] at e
      exact s a u e
  · by_cases z : a = q
    · subst z
      rw [h] at e
      cases e
      exact m.elim
    · rw [upd_ne z]
      exact n
/-- an object of this frame's changes -/
theorem Gr.mut {A0 H0 A H : Hp} (g : Gr A0 H0 A H) {p : Addr} {o : HO} (h0 : H0 p = none) (hA : A p = none) : Gr A0 H0 A (upd H p o) :=
  ⟨g.up.mut h0, g.view, g.sub.mut hA, g.hid⟩
/-- an object of this frame's was locked meanwhile -/
theorem Gr.unlock {A0 H0 A H C H' : Hp} {l : Addr} {u v : HO} (g0 : Gr A0 H0 A H) (h0 : H0 l = none) (hA : A l = none) (nt : NT v) (gC : Gr A (upd H l v) C H') : Gr A0 H0 C (upd H' l u) ∧ C l = none := by
  have cl : C l = none := gC.hid l v upd_same nt hA
  refine ⟨⟨fun a o e => ?_, g0.view.trans gC.view, fun a o e => ?_, fun a o e m n => ?_⟩, cl⟩
  · have na : a ≠ l := ne_of_none e h0
    rw [upd_ne na]
    exact gC.up a o (by rw [upd_ne na]; exact g0.up a o e)
  · have na : a ≠ l := ne_of_none e cl
    rw [upd_ne na]
    exact gC.sub a o e
  · have na : a ≠ l := ne_of_none e h0
    exact gC.hid a o (by rw [upd_ne na]; exact g0.up a o e) m (g0.hid a o e m n)
/-! # slots -/
inductive Slot where
  | no | d (x : Dat) | o (xs : List Dat) | od (es : List (List L2.Key × Dat)) | b (c : Addr) (xs : List Dat) | scr (K : PySem.W.Frag) (ns : List Int)
abbrev Gam := List Slot
/-- an object of the frame's own -/
def Slot.mine : Slot → Bool
  | .o _ => true
  | .od _ => true
  | .b _ _ => true
  | _ => false
structure Ok (H0 A H : Hp) (σ : L2.St) (γ : Gam) : Prop where
  sub : Ex A H
  len : σ.length = γ.length
  get : ∀ (i : Nat) (x : Dat), γ[i]? = some (Slot.d x) → ∃ v : V, σ[i]? = some (some v) ∧ Rep A v x
  own : ∀ (i : Nat) (xs : List Dat), γ[i]? = some (Slot.o xs) → ∃ (l : Addr) (vs : List V), σ[i]? = some (some (V.ref l)) ∧ H0 l = none ∧ A l = none ∧ H l = some (.lst vs) ∧ Reps A vs xs
  ownD : ∀ (i : Nat) (es : List (List L2.Key × Dat)), γ[i]? = some (Slot.od es) → ∃ (l : Addr) (kvs : List (List L2.Key × V)), σ[i]? = some (some (V.ref l)) ∧ H0 l = none ∧ A l = none ∧ H l = some (.dT kvs) ∧ RepsK A kvs es
  bor : ∀ (i : Nat) (c : Addr) (xs : List Dat), γ[i]? = some (Slot.b c xs) → ∃ vs : List V, σ[i]? = some (some (V.ref c)) ∧ H0 c = none ∧ A c = none ∧ H c = some (.lst vs) ∧ Reps A vs xs
  scr : ∀ (i : Nat) (K : PySem.W.Frag) (ns : List Int), γ[i]? = some (Slot.scr K ns) → ∃ a : Addr, σ[i]? = some (some (V.ref a)) ∧ SqL K A a (ns.map V.int)
  sep : ∀ (i j : Nat) (l : Addr) (s t : Slot), γ[i]? = some s → γ[j]? = some t → s.mine = true → t.mine = true → σ[i]? = some (some (V.ref l)) → σ[j]? = some (some (V.ref l)) → i = j
theorem Ok.mono {H0 A H B H' : Hp} {σ : L2.St} {γ : Gam} (k : Ok H0 A H σ γ) (g : Gr A H B H') : Ok H0 B H' σ γ := by
  refine ⟨g.sub, k.len, fun i x h => ?_, fun i xs h => ?_, fun i es h => ?_, fun i c xs h => ?_, fun i K ns h => ?_, k.sep⟩
  · obtain ⟨v, a, b⟩ := k.get i x h
    exact ⟨v, a, b.mono g.view⟩
  · obtain ⟨l, vs, a, b, c, d, e⟩ := k.own i xs h
    exact ⟨l, vs, a, b, g.hid l _ d True.intro c, g.up l _ d, e.mono g.view⟩
  · obtain ⟨l, vs, a, b, c, d, e⟩ := k.ownD i es h
    exact ⟨l, vs, a, b, g.hid l _ d True.intro c, g.up l _ d, e.mono g.view⟩
  · obtain ⟨vs, a, b, c', d, e⟩ := k.bor i c xs h
    exact ⟨vs, a, b, g.hid c _ d True.intro c', g.up c _ d, e.mono g.view⟩
  · obtain ⟨a, h1, h2⟩ := k.scr i K ns h
    exact ⟨a, h1, Evl.ex_l g.view h2⟩
/-- what a mine slot's address is like -/
theorem Ok.addr {H0 A H : Hp} {σ : L2.St} {γ : Gam} (k : Ok H0 A H σ γ) {i : Nat} {s : Slot} (h : γ[i]? = some s) (m : s.mine = true) : ∃ (l : Addr) (o : HO), σ[i]? = some (some (V.ref l)) ∧ H0 l = none ∧ A l = none ∧ H l = some o := by
  cases s with
  | no => cases m
  | d x => cases m
  | o xs =>
    obtain ⟨l, vs, a, b, c, d, _⟩ := k.own i xs h
    exact ⟨l, _, a, b, c, d⟩
  | od es =>
    obtain ⟨l, vs, a, b, c, d, _⟩ := k.ownD i es h
    exact ⟨l, _, a, b, c, d⟩
  | b c xs =>
    obtain ⟨vs, a, b, c', d, _⟩ := k.bor i c xs h
    exact ⟨c, _, a, b, c', d⟩
  | scr K ns => cases m
theorem set_get {γ : Gam} {i j : Nat} {s t : Slot} (h : (γ.set i s)[j]? = some t) : (i = j ∧ t = s ∧ i < γ.length) ∨ (i ≠ j ∧ γ[j]? = some t) := by
  by_cases q : i = j
  · subst q
    have hi : i < γ.length := by
      have := (List.getElem?_eq_some_iff.mp h).1
      rwa [List.length_set] at this
    rw [List.getElem?_set_self hi] at h
    exact .inl ⟨rfl, (Option.some.inj h).symm, hi⟩
  · rw [List.getElem?_set_ne q] at h
    exact .inr ⟨q, h⟩
/-- a slot is stored with what is none of the frame's own -/
theorem Ok.setAny {H0 A H : Hp} {σ : L2.St} {γ : Gam} (k : Ok H0 A H σ γ) (i : Nat) (u : Option V) (s : Slot) (m : s.mine = false) (ns : ∀ K l, s ≠ .scr K l) (hs : ∀ x, s = .d x → ∃ v, u = some v ∧ Rep A v x) : Ok H0 A H (σ.set i u) (γ.set i s) := by
  refine ⟨k.sub, by rw [List.length_set, List.length_set, k.len], fun j y h => ?_, fun j ys h => ?_, fun j ys h => ?_, fun j c ys h => ?_, fun j K l h => ?_, fun j n l a b h1 h2 h3 h4 h5 h6 => ?_⟩
  · rcases set_get h with ⟨rfl, e, hi⟩ | ⟨q, h⟩
    · obtain ⟨v, rfl, r⟩ := hs y e.symm
      exact ⟨v, by rw [List.getElem?_set_self (by rw [k.len]; exact hi)], r⟩
    · obtain ⟨w, a, b⟩ := k.get j y h
      exact ⟨w, by rw [List.getElem?_set_ne q]; exact a, b⟩
  · rcases set_get h with ⟨rfl, e, hi⟩ | ⟨q, h⟩
    · rw [← e] at m
      cases m
    · obtain ⟨l, vs, a, b⟩ := k.own j ys h
      exact ⟨l, vs, by rw [List.getElem?_set_ne q]; exact a, b⟩
  · rcases set_get h with ⟨rfl, e, hi⟩ | ⟨q, h⟩
    · rw [← e] at m
      cases m
    · obtain ⟨l, vs, a, b⟩ := k.ownD j ys h
      exact ⟨l, vs, by rw [List.getElem?_set_ne q]; exact a, b⟩
  · rcases set_get h with ⟨rfl, e, hi⟩ | ⟨q, h⟩
    · rw [← e] at m
      cases m
    · obtain ⟨vs, a, b⟩ := k.bor j c ys h
      exact ⟨vs, by rw [List.getElem?_set_ne q]; exact a, b⟩
  · rcases set_get h with ⟨rfl, e, hi⟩ | ⟨q, h⟩
    · exact absurd e.symm (ns K l)
    · obtain ⟨a, h1, h2⟩ := k.scr j K l h
      exact ⟨a, by rw [List.getElem?_set_ne q]; exact h1, h2⟩
  · rcases set_get h1 with ⟨rfl, e, hi⟩ | ⟨q1, h1⟩
    · rw [e, m] at h3
      cases h3
    · rcases set_get h2 with ⟨rfl, e, hi⟩ | ⟨q2, h2⟩
      · rw [e, m] at h4
        cases h4
      · rw [List.getElem?_set_ne q1] at h5
        rw [List.getElem?_set_ne q2] at h6
        exact k.sep j n l a b h1 h2 h3 h4 h5 h6
/-- a slot is stored with data -/
theorem Ok.setD {H0 A H : Hp} {σ : L2.St} {γ : Gam} (k : Ok H0 A H σ γ) {v : V} {x : Dat} (r : Rep A v x) (i : Nat) : Ok H0 A H (σ.set i (some v)) (γ.set i (Slot.d x)) :=
  k.setAny i _ _ rfl (fun _ _ z => nomatch z) fun y e => ⟨v, rfl, by cases e; exact r⟩
/-- a slot is forgotten -/
theorem Ok.forget {H0 A H : Hp} {σ : L2.St} {γ : Gam} (k : Ok H0 A H σ γ) (i : Nat) (u : Option V) : Ok H0 A H (σ.set i u) (γ.set i Slot.no) :=
  k.setAny i _ _ rfl (fun _ _ z => nomatch z) fun y e => nomatch e
/-- the same slots, less known -/
def Less (γ δ : Gam) : Prop := γ.length = δ.length ∧ ∀ (i : Nat) (s : Slot), δ[i]? = some s → s = Slot.no ∨ γ[i]? = some s
theorem Ok.less {H0 A H : Hp} {σ : L2.St} {γ δ : Gam} (k : Ok H0 A H σ γ) (h : Less γ δ) : Ok H0 A H σ δ := by
  have back : ∀ (i : Nat) (s : Slot), δ[i]? = some s → s ≠ .no → γ[i]? = some s := fun i s q n => (h.2 i s q).resolve_left n
  refine ⟨k.sub, by rw [k.len, h.1], fun i x q => k.get i x (back i _ q (by intro z; cases z)), fun i x q => k.own i x (back i _ q (by intro z; cases z)), fun i x q => k.ownD i x (back i _ q (by intro z; cases z)), fun i c x q => k.bor i c x (back i _ q (by intro z; cases z)), fun i K l q => k.scr i K l (back i _ q (by intro z; cases z)),
    fun i j l s t h1 h2 h3 h4 h5 h6 => ?_⟩
  exact k.sep i j l s t (back i s h1 fun z => by subst z; cases h3) (back j t h2 fun z => by subst z; cases h4) h3 h4 h5 h6
/-- a slot is stored with a new object of the frame's own -/
theorem Ok.setM {H0 A H : Hp} {σ : L2.St} {γ : Gam} (k : Ok H0 A H σ γ) {l : Addr} {s : Slot} (i : Nat) (new : ∀ (j : Nat) (t : Slot), γ[j]? = some t → t.mine = true → σ[j]? ≠ some (some (V.ref l)))
    (hD : ∀ x, s ≠ .d x) (hB : ∀ c xs, s ≠ .b c xs) (hS : ∀ K l, s ≠ .scr K l) (hO : ∀ xs, s = .o xs → ∃ vs, H0 l = none ∧ A l = none ∧ H l = some (.lst vs) ∧ Reps A vs xs) (hE : ∀ es, s = .od es → ∃ kvs, H0 l = none ∧ A l = none ∧ H l = some (.dT kvs) ∧ RepsK A kvs es) : Ok H0 A H (σ.set i (some (V.ref l))) (γ.set i s) := by
  refine ⟨k.sub, by rw [List.length_set, List.length_set, k.len], fun j y h => ?_, fun j ys h => ?_, fun j ys h => ?_, fun j c ys h => ?_, fun j K m h => ?_, fun j n a t u h1 h2 h3 h4 h5 h6 => ?_⟩
  · rcases set_get h with ⟨rfl, e, hi⟩ | ⟨q, h⟩
    · exact absurd e.symm (hD y)
    · obtain ⟨w, a, b⟩ := k.get j y h
      exact ⟨w, by rw [List.getElem?_set_ne q]; exact a, b⟩
  · rcases set_get h with ⟨rfl, e, hi⟩ | ⟨q, h⟩
    · obtain ⟨vs, a, b, c, d⟩ := hO ys e.symm
      exact ⟨l, vs, by rw [List.getElem?_set_self (by rw [k.len]; exact hi)], a, b, c, d⟩
    · obtain ⟨l, vs, a, b⟩ := k.own j ys h
      exact ⟨l, vs, by rw [List.getElem?_set_ne q]; exact a, b⟩
  · rcases set_get h with ⟨rfl, e, hi⟩ | ⟨q, h⟩
    · obtain ⟨vs, a, b, c, d⟩ := hE ys e.symm
      exact ⟨l, vs, by rw [List.getElem?_set_self (by rw [k.len]; exact hi)], a, b, c, d⟩
    · obtain ⟨l, vs, a, b⟩ := k.ownD j ys h
      exact ⟨l, vs, by rw [List.getElem?_set_ne q]; exact a, b⟩
  · rcases set_get h with ⟨rfl, e, hi⟩ | ⟨q, h⟩
    · exact absurd e.symm (hB c ys)
    · obtain ⟨vs, a, b⟩ := k.bor j c ys h
      exact ⟨vs, by rw [List.getElem?_set_ne q]; exact a, b⟩
  · rcases set_get h with ⟨rfl, e, hi⟩ | ⟨q, h⟩
    · exact absurd e.symm (hS K m)
    · obtain ⟨a, h1, h2⟩ := k.scr j K m h
      exact ⟨a, by rw [List.getElem?_set_ne q]; exact h1, h2⟩
  · rcases set_get h1 with ⟨q1, e1, hi⟩ | ⟨q1, g1⟩
    · rcases set_get h2 with ⟨q2, e2, _⟩ | ⟨q2, g2⟩
      · rw [← q1, ← q2]
      · subst q1
        rw [List.getElem?_set_self (by rw [k.len]; exact hi)] at h5
        cases h5
        rw [List.getElem?_set_ne q2] at h6
        exact absurd h6 (new n u g2 h4)
    · rcases set_get h2 with ⟨q2, e2, hi⟩ | ⟨q2, g2⟩
      · subst q2
        rw [List.getElem?_set_self (by rw [k.len]; exact hi)] at h6
        cases h6
        rw [List.getElem?_set_ne q1] at h5
        exact absurd h5 (new j t g1 h3)
      · rw [List.getElem?_set_ne q1] at h5
        rw [List.getElem?_set_ne q2] at h6
        exact k.sep j n a t u g1 g2 h3 h4 h5 h6
/-- an own object changes -/
theorem Ok.turn {H0 A H : Hp} {σ : L2.St} {γ : Gam} {i : Nat} {l : Addr} {ho : HO} {s s' : Slot} (k : Ok H0 A H σ γ) (h : γ[i]? = some s) (m : s.mine = true) (e : σ[i]? = some (some (V.ref l)))
    (hD : ∀ x, s' ≠ .d x) (hO : ∀ xs, s' = .o xs → ∃ vs, ho = .lst vs ∧ Reps A vs xs) (hE : ∀ es, s' = .od es → ∃ kvs, ho = .dT kvs ∧ RepsK A kvs es) (hS : ∀ K m, s' ≠ .scr K m) (hB : ∀ c xs, s' = .b c xs → c = l ∧ ∃ vs, ho = .lst vs ∧ Reps A vs xs) : Ok H0 A (upd H l ho) σ (γ.set i s') := by
  obtain ⟨l', o, e', h0, hA, hH⟩ := k.addr h m
  rw [e] at e'
  cases e'
  have apart : ∀ (j : Nat) (t : Slot) (a : Addr), i ≠ j → γ[j]? = some t → t.mine = true → σ[j]? = some (some (V.ref a)) → a ≠ l := fun j t a q g n e1 z => by
    subst z
    exact q (k.sep i j a s t h g m n e e1)
  refine ⟨k.sub.mut hA, by rw [List.length_set, k.len], fun j y hj => ?_, fun j zs hj => ?_, fun j zs hj => ?_, fun j c zs hj => ?_, fun j K m hj => ?_, fun j n a t u h1 h2 h3 h4 h5 h6 => ?_⟩
  · rcases set_get hj with ⟨rfl, z, _⟩ | ⟨q, hj⟩
    · exact absurd z.symm (hD y)
    · exact k.get j y hj
  · rcases set_get hj with ⟨rfl, z, _⟩ | ⟨q, hj⟩
    · obtain ⟨vs, rfl, r⟩ := hO zs z.symm
      exact ⟨l, vs, e, h0, hA, upd_same, r⟩
    · obtain ⟨a, vs', e1, e2, e3, e4, e5⟩ := k.own j zs hj
      exact ⟨a, vs', e1, e2, e3, by rw [upd_ne (apart j _ a q hj rfl e1)]; exact e4, e5⟩
  · rcases set_get hj with ⟨rfl, z, _⟩ | ⟨q, hj⟩
    · obtain ⟨vs, rfl, r⟩ := hE zs z.symm
      exact ⟨l, vs, e, h0, hA, upd_same, r⟩
    · obtain ⟨a, vs', e1, e2, e3, e4, e5⟩ := k.ownD j zs hj
      exact ⟨a, vs', e1, e2, e3, by rw [upd_ne (apart j _ a q hj rfl e1)]; exact e4, e5⟩
  · rcases set_get hj with ⟨rfl, z, _⟩ | ⟨q, hj⟩
    · obtain ⟨rfl, vs, rfl, r⟩ := hB c zs z.symm
      exact ⟨vs, e, h0, hA, upd_same, r⟩
    · obtain ⟨vs', e1, e2, e3, e4, e5⟩ := k.bor j c zs hj
      exact ⟨vs', e1, e2, e3, by rw [upd_ne (apart j _ c q hj rfl e1)]; exact e4, e5⟩
  · rcases set_get hj with ⟨rfl, z, _⟩ | ⟨q, hj⟩
    · exact absurd z.symm (hS K m)
    · exact k.scr j K m hj
  · have back : ∀ (n : Nat) (t : Slot), (γ.set i s')[n]? = some t → t.mine = true → ∃ t', γ[n]? = some t' ∧ t'.mine = true := fun n t hn mt => by
      rcases set_get hn with ⟨rfl, z, _⟩ | ⟨q, hn⟩
      · exact ⟨s, h, m⟩
      · exact ⟨t, hn, mt⟩
    obtain ⟨z1, q1, m1⟩ := back j t h1 h3
    obtain ⟨z2, q2, m2⟩ := back n u h2 h4
    exact k.sep j n a z1 z2 q1 q2 m1 m2 h5 h6
/-- an own object is shown: what stood becomes data -/
theorem Ok.bare {A0 H0 A H : Hp} {σ : L2.St} {γ : Gam} {i : Nat} {l : Addr} {ho : HO} {s : Slot} {x : Dat} (k : Ok H0 A H σ γ) (g : Gr A0 H0 A H) (h : γ[i]? = some s) (m : s.mine = true) (e : σ[i]? = some (some (V.ref l))) (hH : H l = some ho)
    (r : Rep (upd A l ho) (.ref l) x) : Gr A0 H0 (upd A l ho) H ∧ Ex A (upd A l ho) ∧ Ok H0 (upd A l ho) H σ (γ.set i (.d x)) := by
  obtain ⟨l', o, e', h0, hA, hH'⟩ := k.addr h m
  rw [e] at e'
  cases e'
  have v : Ex A (upd A l ho) := Ex.new hA
  have gs := g.show hH h0 hA
  have apart : ∀ (j : Nat) (t : Slot) (a : Addr), i ≠ j → γ[j]? = some t → t.mine = true → σ[j]? = some (some (V.ref a)) → a ≠ l := fun j t a q g n e1 z => by
    subst z
    exact q (k.sep i j a s t h g m n e e1)
  refine ⟨gs, v, gs.sub, by rw [List.length_set, k.len], fun j y hj => ?_, fun j zs hj => ?_, fun j zs hj => ?_, fun j c zs hj => ?_, fun j K m hj => ?_, fun j n a t u h1 h2 h3 h4 h5 h6 => ?_⟩
  · rcases set_get hj with ⟨rfl, z, _⟩ | ⟨q, hj⟩
    · cases z
      exact ⟨_, e, r⟩
    · obtain ⟨u, a, b⟩ := k.get j y hj
      exact ⟨u, a, b.mono v⟩
  · rcases set_get hj with ⟨rfl, z, _⟩ | ⟨q, hj⟩
    · cases z
    · obtain ⟨a, vs', e1, e2, e3, e4, e5⟩ := k.own j zs hj
      exact ⟨a, vs', e1, e2, by rw [upd_ne (apart j _ a q hj rfl e1)]; exact e3, e4, e5.mono v⟩
  · rcases set_get hj with ⟨rfl, z, _⟩ | ⟨q, hj⟩
    · cases z
    · obtain ⟨a, vs', e1, e2, e3, e4, e5⟩ := k.ownD j zs hj
      exact ⟨a, vs', e1, e2, by rw [upd_ne (apart j _ a q hj rfl e1)]; exact e3, e4, e5.mono v⟩
  · rcases set_get hj with ⟨rfl, z, _⟩ | ⟨q, hj⟩
    · cases z
    · obtain ⟨vs', e1, e2, e3, e4, e5⟩ := k.bor j c zs hj
      exact ⟨vs', e1, e2, by rw [upd_ne (apart j _ c q hj rfl e1)]; exact e3, e4, e5.mono v⟩
  · rcases set_get hj with ⟨rfl, z, _⟩ | ⟨q, hj⟩
    · cases z
    · obtain ⟨a, h1, h2⟩ := k.scr j K m hj
      exact ⟨a, h1, Evl.ex_l v h2⟩
  · have back : ∀ (n : Nat) (t : Slot), (γ.set i (Slot.d x))[n]? = some t → t.mine = true → γ[n]? = some t := fun n t hn mt => by
      rcases set_get hn with ⟨rfl, z, _⟩ | ⟨q, hn⟩
      · subst z
        cases mt
      · exact hn
    exact k.sep j n a t u (back j t h1 h3) (back n u h2 h4) h3 h4 h5 h6
theorem Ok.unlock {H0 A H C H' : Hp} {σ : L2.St} {γ : Gam} {i : Nat} {l : Addr} {es : List (List L2.Key × Dat)} {kvs : List (List L2.Key × V)} {v : HO} (k : Ok H0 A H σ γ) (h : γ[i]? = some (Slot.od es)) (e : σ[i]? = some (some (V.ref l))) (hH : H l = some (.dT kvs)) (hA : A l = none) (rk : RepsK A kvs es) (nt : NT v)
    (gC : Gr A (upd H l v) C H') : Ok H0 C (upd H' l (.dT kvs)) σ γ := by
  have cl : C l = none := gC.hid l v upd_same nt hA
  refine ⟨fun a o q => ?_, k.len, fun j x q => ?_, fun j xs q => ?_, fun j xs q => ?_, fun j c xs q => ?_, fun j K m q => ?_, k.sep⟩
  · rw [upd_ne (ne_of_none q cl)]
    exact gC.sub a o q
  · obtain ⟨u, a, b⟩ := k.get j x q
    exact ⟨u, a, b.mono gC.view⟩
  · obtain ⟨a, vs, x1, x2, x3, x4, x5⟩ := k.own j xs q
    have na : a ≠ l := fun z => by
      subst z
      rw [x4] at hH
      cases hH
    have y : upd H l v a = some (.lst vs) := by rw [upd_ne na]; exact x4
    exact ⟨a, vs, x1, x2, gC.hid a _ y True.intro x3, by rw [upd_ne na]; exact gC.up a _ y, x5.mono gC.view⟩
  · obtain ⟨a, vs, x1, x2, x3, x4, x5⟩ := k.ownD j xs q
    by_cases na : a = l
    · subst na
      have ej := k.sep i j a _ _ h q rfl rfl e x1
      subst ej
      rw [h] at q
      cases q
      rw [hH] at x4
      cases x4
      exact ⟨a, kvs, x1, x2, cl, upd_same, rk.mono gC.view⟩
    · have y : upd H l v a = some (.dT vs) := by rw [upd_ne na]; exact x4
      exact ⟨a, vs, x1, x2, gC.hid a _ y True.intro x3, by rw [upd_ne na]; exact gC.up a _ y, x5.mono gC.view⟩
  · obtain ⟨vs, x1, x2, x3, x4, x5⟩ := k.bor j c xs q
    have na : c ≠ l := fun z => by
      subst z
      rw [x4] at hH
      cases hH
    have y : upd H l v c = some (.lst vs) := by rw [upd_ne na]; exact x4
    exact ⟨vs, x1, x2, gC.hid c _ y True.intro x3, by rw [upd_ne na]; exact gC.up c _ y, x5.mono gC.view⟩
  · obtain ⟨a, h1, h2⟩ := k.scr j K m q
    exact ⟨a, h1, Evl.ex_l gC.view h2⟩
end Fr

set_option Elab.async false
set_option linter.all false
set_option maxRecDepth 100000
set_option maxHeartbeats 4000000
namespace Fr
open PySem L2
open Evl (Ex)
/-! # what an expression gives -/
def EvD (te : TE) (γ : Gam) (x : Dat) : Prop := ∀ H0 A H σ, Ok H0 A H σ γ → ∀ Q : VK, (∀ v B H', Gr A H B H' → Rep B v x → Q v H') → te σ H Q
/-- a new list of its own -/
def EvN (te : TE) (γ : Gam) (xs : List Dat) : Prop := ∀ H0 A H σ, Ok H0 A H σ γ → ∀ Q : VK, (∀ l vs B H', Gr A H B H' → H l = none → B l = none → H' l = some (.lst vs) → Reps B vs xs → Q (.ref l) H') → te σ H Q
/-- a list that may be read -/
def EvR (te : TE) (γ : Gam) (xs : List Dat) : Prop := ∀ H0 A H σ, Ok H0 A H σ γ → ∀ Q : VK, (∀ l vs B H', Gr A H B H' → H' l = some (.lst vs) → Reps B vs xs → Q (.ref l) H') → te σ H Q
def EvT (t : TT) (γ : Gam) (b : Bool) : Prop := ∀ H0 A H σ, Ok H0 A H σ γ → ∀ Q : Bool → Hp → Prop, (∀ B H', Gr A H B H' → Q b H') → t σ H Q
def EvA (ta : TA) (γ : Gam) (xs : List Dat) : Prop := ∀ H0 A H σ, Ok H0 A H σ γ → ∀ Q : List V → Hp → Prop, (∀ vs B H', Gr A H B H' → Reps B vs xs → Q vs H') → ta σ H Q
def EvO (to : TO) (γ : Gam) (o : Option Int) : Prop := ∀ H0 A H σ, Ok H0 A H σ γ → ∀ Q : Option Int → Hp → Prop, (∀ B H', Gr A H B H' → Q o H') → to σ H Q
def R2D (r : R2) (x y z : Dat) : Prop := ∀ A H vx vy, Ex A H → Rep A vx x → Rep A vy y → ∀ Q : VK, (∀ v B H', Gr A H B H' → Rep B v z → Q v H') → r vx vy H Q
def RCD (r : List V → Hp → VK → Prop) (xs : List Dat) (z : Dat) : Prop := ∀ A H vs, Ex A H → Reps A vs xs → ∀ Q : VK, (∀ v B H', Gr A H B H' → Rep B v z → Q v H') → r vs H Q
/-- what a def promises: from which data it gives which -/
def Pr (R : List Dat → Dat → Prop) : Sp := fun vs H Q _ => ∃ A xs x, Ex A H ∧ Reps A vs xs ∧ R xs x ∧ ∀ v B H', Gr A H B H' → Rep B v x → Q v H'
section
variable {K : PySem.W.Frag} {γ : Gam} {ta tb te : TE} {t u : TT} {x y z : Dat} {r : R2} {xs ys : List Dat}
theorem ev_var {i : Nat} (h : γ[i]? = some (Slot.d x)) : EvD (tVar i) γ x := fun H0 A H σ k Q q => by
  obtain ⟨v, a, b⟩ := k.get i x h
  exact ⟨v, a, q v A H (Gr.refl k.sub) b⟩
theorem ev_c {v : V} (h : ∀ H, Rep H v x) : EvD (tC v) γ x := fun H0 A H σ k Q q => q v A H (Gr.refl k.sub) (h A)
theorem ev_int {i : Int} : EvD (tC (.int i)) γ (.int i) := ev_c fun _ => .int i
theorem ev_bl {b : Bool} : EvD (tC (.bl b)) γ (.bl b) := ev_c fun _ => .bl b
theorem ev_non : EvD (tC .non) γ .non := ev_c fun _ => .non
theorem ev_str {s : Str} : EvD (tC (.str s)) γ (.str s) := ev_c fun _ => .str s
theorem ev_op (ha : EvD ta γ x) (hb : EvD tb γ y) (hr : R2D r x y z) : EvD (tOp r ta tb) γ z := fun H0 A H σ k Q q =>
  ha H0 A H σ k _ fun v B H1 g1 r1 => hb H0 B H1 σ (k.mono g1) _ fun w C H2 g2 r2 => hr C H2 v w g2.sub (r1.mono g2.view) r2 Q fun p D H3 g3 r3 => q p D H3 ((g1.trans g2).trans g3) r3
theorem ev_is (h : EvD te γ x) (e : x = y) : EvD te γ y := e ▸ h
theorem et_is {a b : Bool} (h : EvT t γ a) (e : a = b) : EvT t γ b := e ▸ h
theorem ev_if {b : Bool} (h : EvT t γ b) (h1 : b = true → EvD ta γ x) (h2 : b = false → EvD tb γ y) : EvD (tIf t ta tb) γ (if b = true then x else y) := fun H0 A H σ k Q q =>
  h H0 A H σ k _ fun B H1 g1 => by
    cases b with
    | true => exact h1 rfl H0 B H1 σ (k.mono g1) Q fun v C H2 g2 r2 => q v C H2 (g1.trans g2) r2
    | false => exact h2 rfl H0 B H1 σ (k.mono g1) Q fun v C H2 g2 r2 => q v C H2 (g1.trans g2) r2
theorem et_B {b : Bool} (h : EvD te γ (.bl b)) : EvT (tB te) γ b := fun H0 A H σ k Q q => h H0 A H σ k _ fun v B H1 g1 r1 => by
  cases r1
  exact ⟨b, rfl, q B H1 g1⟩
theorem et_test {b : Bool} (h : EvD te γ (.bl b)) : EvT (tTest te) γ b := et_B h
theorem et_and {a b : Bool} (h1 : EvT t γ a) (h2 : a = true → EvT u γ b) : EvT (tAnd t u) γ (a && b) := fun H0 A H σ k Q q => h1 H0 A H σ k _ fun B H1 g1 => by
  cases a with
  | true => exact h2 rfl H0 B H1 σ (k.mono g1) Q fun C H2 g2 => q C H2 (g1.trans g2)
  | false => exact q B H1 g1
theorem et_or {a b : Bool} (h1 : EvT t γ a) (h2 : a = false → EvT u γ b) : EvT (tOr t u) γ (a || b) := fun H0 A H σ k Q q => h1 H0 A H σ k _ fun B H1 g1 => by
  cases a with
  | true => exact q B H1 g1
  | false => exact h2 rfl H0 B H1 σ (k.mono g1) Q fun C H2 g2 => q C H2 (g1.trans g2)
theorem et_not {a : Bool} (h : EvT t γ a) : EvT (tNot t) γ (!a) := fun H0 A H σ k Q q => h H0 A H σ k _ fun B H1 g1 => q B H1 g1
theorem ev_and {a b : Bool} (h1 : EvD ta γ (.bl a)) (h2 : a = true → EvD tb γ (.bl b)) : EvD (tAndV ta tb) γ (.bl (a && b)) := fun H0 A H σ k Q q => h1 H0 A H σ k _ fun v B H1 g1 r1 => by
  cases r1
  refine ⟨a, rfl, ?_⟩
  cases a with
  | true => exact h2 rfl H0 B H1 σ (k.mono g1) Q fun v C H2 g2 r2 => q v C H2 (g1.trans g2) r2
  | false => exact q _ B H1 g1 (.bl false)
theorem ev_or {a b : Bool} (h1 : EvD ta γ (.bl a)) (h2 : a = false → EvD tb γ (.bl b)) : EvD (tOrV ta tb) γ (.bl (a || b)) := fun H0 A H σ k Q q => h1 H0 A H σ k _ fun v B H1 g1 r1 => by
  cases r1
  refine ⟨a, rfl, ?_⟩
  cases a with
  | true => exact q _ B H1 g1 (.bl true)
  | false => exact h2 rfl H0 B H1 σ (k.mono g1) Q fun v C H2 g2 r2 => q v C H2 (g1.trans g2) r2
theorem ev_not {a : Bool} (h1 : EvD ta γ (.bl a)) : EvD (tNotV ta) γ (.bl (!a)) := fun H0 A H σ k Q q => h1 H0 A H σ k _ fun v B H1 g1 r1 => by
  cases r1
  exact ⟨a, rfl, q _ B H1 g1 (.bl _)⟩
theorem ea_nil : EvA tNil γ [] := fun H0 A H σ k Q q => q [] A H (Gr.refl k.sub) .nil
theorem ea_cons {tr : TA} (h : EvD ta γ x) (hr : EvA tr γ xs) : EvA (tCons ta tr) γ (x :: xs) := fun H0 A H σ k Q q =>
  h H0 A H σ k _ fun v B H1 g1 r1 => hr H0 B H1 σ (k.mono g1) _ fun vs C H2 g2 r2 => q _ C H2 (g1.trans g2) (.cons (r1.mono g2.view) r2)
theorem ev_tup {tr : TA} (h : EvA tr γ xs) (hl : xs.length ≤ sizeLine) : EvD (tTup tr) γ (.tup xs) := fun H0 A H σ k Q q =>
  h H0 A H σ k _ fun vs B H1 g1 r1 => ⟨by rw [r1.len]; exact hl, fun p hp => by
    have g2 := Gr.new (o := .tup vs) g1.sub hp
    exact q _ _ _ (g1.trans g2) (.tup upd_same (r1.mono g2.view))⟩
theorem en_lst {tr : TA} (h : EvA tr γ xs) (hl : xs.length ≤ sizeLine) : EvN (tLst tr) γ xs := fun H0 A H σ k Q q =>
  h H0 A H σ k _ fun vs B H1 g1 r1 => ⟨by rw [r1.len]; exact hl, fun p hp =>
    q p vs B _ (g1.trans (Gr.newU g1.sub hp)) (Evl.fresh_back g1.up hp) (Evl.fresh_back g1.sub hp) upd_same r1⟩
/-- a new list is data -/
theorem ev_ofN (h : EvN te γ xs) : EvD te γ (.lst xs) := fun H0 A H σ k Q q => h H0 A H σ k _ fun l vs B H1 g hl hB h1 r => by
  have g2 := g.show h1 hl hB
  exact q _ _ H1 g2 (.lst upd_same (r.mono (Ex.new hB)))
theorem er_ofN (h : EvN te γ xs) : EvR te γ xs := fun H0 A H σ k Q q => h H0 A H σ k _ fun l vs B H1 g _ _ h1 r => q l vs B H1 g h1 r
theorem er_ofD (h : EvD te γ (.lst xs)) : EvR te γ xs := fun H0 A H σ k Q q => h H0 A H σ k _ fun v B H1 g r => by
  cases r with
  | lst ha hr => exact q _ _ B H1 g (g.sub _ _ ha) hr
theorem er_var {i : Nat} (h : γ[i]? = some (Slot.o xs)) : EvR (tVar i) γ xs := fun H0 A H σ k Q q => by
  obtain ⟨l, vs, a, _, _, b, c⟩ := k.own i xs h
  exact ⟨_, a, q l vs A H (Gr.refl k.sub) b c⟩
theorem eo_none : EvO tNoPart γ none := fun H0 A H σ k Q q => q A H (Gr.refl k.sub)
theorem eo_some {i : Int} (h : EvD te γ (.int i)) : EvO (tPart te) γ (some i) := fun H0 A H σ k Q q => h H0 A H σ k _ fun v B H1 g1 r1 => by
  cases r1
  exact ⟨i, rfl, q B H1 g1⟩
theorem ev_cb {rc : List V → Hp → VK → Prop} {tr : TA} (h : EvA tr γ xs) (hr : RCD rc xs z) : EvD (tCB rc tr) γ z := fun H0 A H σ k Q q =>
  h H0 A H σ k _ fun vs B H1 g1 r1 => hr B H1 vs g1.sub r1 Q fun v C H2 g2 r2 => q v C H2 (g1.trans g2) r2
/-- a call of a built-in upon one list that is read -/
theorem ev_cbR {rc : List V → Hp → VK → Prop} (h : EvR te γ xs) (hr : ∀ A H l vs, Ex A H → H l = some (.lst vs) → Reps A vs xs → ∀ Q : VK, (∀ v B H', Gr A H B H' → Rep B v z → Q v H') → rc [.ref l] H Q) : EvD (tCB rc (tCons te tNil)) γ z := fun H0 A H σ k Q q =>
  h H0 A H σ k _ fun l vs B H1 g1 h1 r1 => hr B H1 l vs g1.sub h1 r1 Q fun v C H2 g2 r2 => q v C H2 (g1.trans g2) r2
theorem ev_call {R : List Dat → Dat → Prop} {E : XK} {tr : TA} (h : EvA tr γ xs) (hR : R xs z) : EvD (tCall (Pr R) [] E tr) γ z := fun H0 A H σ k Q q =>
  h H0 A H σ k _ fun vs B H1 g1 r1 => ⟨B, xs, z, g1.sub, by rw [List.append_nil]; exact r1, hR, fun v C H2 g2 r2 => q v C H2 (g1.trans g2) r2⟩
/-! ### operators on data -/
theorem r2_I0 {g : Int → Int → V} {i j : Int} (h : ∀ H, Rep H (g i j) z) : R2D (rI0 g) (.int i) (.int j) z := fun A H vx vy s r1 r2 Q q => by
  cases r1
  cases r2
  exact ⟨i, j, rfl, rfl, q _ A H (Gr.refl s) (h A)⟩
theorem r2_I {C : Int → Int → Prop} {g : Int → Int → V} {i j : Int} (hc : C i j) (h : ∀ H, Rep H (g i j) z) : R2D (rI C g) (.int i) (.int j) z := fun A H vx vy s r1 r2 Q q => by
  cases r1
  cases r2
  exact ⟨i, j, rfl, rfl, hc, q _ A H (Gr.refl s) (h A)⟩
theorem r2_add {i j : Int} : R2D (rI0 fun i j => .int (i + j)) (.int i) (.int j) (.int (i + j)) := r2_I0 fun _ => .int _
theorem r2_sub {i j : Int} : R2D (rI0 fun i j => .int (i - j)) (.int i) (.int j) (.int (i - j)) := r2_I0 fun _ => .int _
theorem r2_lt {i j : Int} : R2D (rI0 fun i j => .bl (decide (i < j))) (.int i) (.int j) (.bl (decide (i < j))) := r2_I0 fun _ => .bl _
theorem r2_le {i j : Int} : R2D (rI0 fun i j => .bl (decide (i ≤ j))) (.int i) (.int j) (.bl (decide (i ≤ j))) := r2_I0 fun _ => .bl _
theorem r2_gt {i j : Int} : R2D (rI0 fun i j => .bl (decide (j < i))) (.int i) (.int j) (.bl (decide (j < i))) := r2_I0 fun _ => .bl _
theorem r2_ge {i j : Int} : R2D (rI0 fun i j => .bl (decide (j ≤ i))) (.int i) (.int j) (.bl (decide (j ≤ i))) := r2_I0 fun _ => .bl _
theorem r2_eqI {i j : Int} : R2D rEq (.int i) (.int j) (.bl (decide (i = j))) := fun A H vx vy s r1 r2 Q q => by
  cases r1
  cases r2
  refine ⟨rfl, q _ A H (Gr.refl s) ?_⟩
  have e : decide (V.int i = V.int j) = decide (i = j) := decide_eq_decide.mpr ⟨fun h => V.int.inj h, fun h => h ▸ rfl⟩
  rw [e]
  exact .bl _
theorem r2_neI {i j : Int} : R2D rNe (.int i) (.int j) (.bl (!decide (i = j))) := fun A H vx vy s r1 r2 Q q => by
  cases r1
  cases r2
  refine ⟨rfl, q _ A H (Gr.refl s) ?_⟩
  have e : decide (V.int i = V.int j) = decide (i = j) := decide_eq_decide.mpr ⟨fun h => V.int.inj h, fun h => h ▸ rfl⟩
  rw [e]
  exact .bl _
theorem r2_cat (h : xs.length + ys.length ≤ sizeLine) : R2D (rCatA K) (.tup xs) (.tup ys) (.tup (xs ++ ys)) := fun A H vx vy s r1 r2 Q q => by
  cases r1 with
  | @tup a us _ h1 R1 =>
    cases r2 with
    | @tup b ws _ h2 R2 =>
      refine ⟨a, b, us, ws, rfl, rfl, SqT.of (s _ _ h1), SqT.of (s _ _ h2), by rw [R1.len, R2.len]; exact h, fun e => ?_, fun _ e => ?_, fun _ _ p hp => ?_⟩
      · subst e
        cases R1
        exact q _ A H (Gr.refl s) (.tup h2 R2)
      · subst e
        cases R2
        rw [List.append_nil] at q
        exact q _ A H (Gr.refl s) (.tup h1 R1)
      · have g := Gr.new (o := .tup (us ++ ws)) s hp
        exact q _ _ _ g (.tup upd_same ((R1.app R2).mono g.view))
theorem atI_rep {A : Hp} {us : List V} {i : Int} (R : Reps A us xs) (h : atI xs i = some z) : ∃ v, atI us i = some v ∧ Rep A v z := by
  unfold atI at h ⊢
  rw [R.len]
  cases e : ixN xs.length i with
  | none =>
    rw [e] at h
    cases h
  | some j =>
    rw [e] at h
    exact R.get h
theorem r2_ixT {i : Int} (h : atI xs i = some z) : R2D (rIxT K) (.tup xs) (.int i) z := fun A H vx vy s r1 r2 Q q => by
  cases r2
  cases r1 with
  | @tup a us _ h1 R1 =>
    obtain ⟨v, e, rv⟩ := atI_rep R1 h
    exact ⟨a, us, i, v, rfl, rfl, SqT.of (s _ _ h1), e, q v A H (Gr.refl s) rv⟩
theorem ev_ixL {i : Int} (ha : EvR ta γ xs) (hb : EvD tb γ (.int i)) (h : atI xs i = some z) : EvD (tOp (rIxL K) ta tb) γ z := fun H0 A H σ k Q q =>
  ha H0 A H σ k _ fun l vs B H1 g1 h1 R1 => hb H0 B H1 σ (k.mono g1) _ fun w C H2 g2 r2 => by
    cases r2
    obtain ⟨v, e, rv⟩ := atI_rep (R1.mono g2.view) h
    exact ⟨l, vs, i, v, rfl, rfl, SqL.of (g2.up _ _ h1), e, q v C H2 (g1.trans g2) rv⟩
def cutA {α : Type} (xs : List α) (lo hi : Option Int) : List α := (xs.drop (HT.sIx xs.length 0 lo)).take (HT.sIx xs.length xs.length hi - HT.sIx xs.length 0 lo)
theorem Reps.cut {A : Hp} {us : List V} {lo hi : Option Int} (R : Reps A us xs) : Reps A (cutV us lo hi) (cutA xs lo hi) := by
  unfold cutV cutA
  rw [R.len]
  exact (R.drop _).take _
theorem ev_slT {tl th : TO} {lo hi : Option Int} (h : EvD te γ (.tup xs)) (h1 : EvO tl γ lo) (h2 : EvO th γ hi) : EvD (tSl (rSlA K) te tl th) γ (.tup (cutA xs lo hi)) := fun H0 A H σ k Q q =>
  h H0 A H σ k _ fun v B H1 g1 r1 => h1 H0 B H1 σ (k.mono g1) _ fun C H2 g2 => h2 H0 C H2 σ (k.mono (g1.trans g2)) _ fun D H3 g3 => by
    cases r1 with
    | @tup a us _ ha R =>
      have g := (g1.trans g2).trans g3
      refine ⟨a, us, rfl, SqT.of (g3.up _ _ (g2.up _ _ (g1.sub _ _ ha))), fun e => ?_, fun _ p hp => ?_⟩
      · have ew : cutA xs lo hi = xs := by
          unfold cutA
          rw [← R.len, e.1, e.2, List.drop_zero, R.len]
          exact List.take_length
        rw [ew] at q
        exact q _ D H3 g (.tup (g3.view _ _ (g2.view _ _ ha)) (R.mono (g2.view.trans g3.view)))
      · have g4 := Gr.new (o := .tup (cutV us lo hi)) g.sub hp
        exact q _ _ _ (g.trans g4) (.tup upd_same ((R.mono (g2.view.trans g3.view)).cut.mono g4.view))
theorem r2_ltT {ns ms : List Int} : R2D (rLtT K) (.tup (ns.map .int)) (.tup (ms.map .int)) (.bl (HT.lexLt ns ms)) := fun A H vx vy s r1 r2 Q q => by
  cases r1 with
  | @tup a us _ h1 R1 =>
    cases r2 with
    | @tup b ws _ h2 R2 =>
      have e1 := R1.ints
      have e2 := R2.ints
      subst e1 e2
      exact ⟨a, b, ns, ms, rfl, rfl, SqT.of (s _ _ h1), SqT.of (s _ _ h2), q _ A H (Gr.refl s) (.bl _)⟩
/-! ### == at any depth -/
mutual
def py : Dat → PyData
  | .non => .none
  | .bl b => .bool b
  | .int i => .int i
  | .str s => .str s
  | .tup ds => .tuple (pys ds)
  | .lst ds => .list (pys ds)
  | .dic _ => .none
  | .obj _ _ => .none
  | .hnd _ => .none
def pys : List Dat → List PyData
  | [] => []
  | d :: ds => py d :: pys ds
end
mutual
def noDic : Dat → Bool
  | .tup ds => noDics ds
  | .lst ds => noDics ds
  | .dic _ => false
  | .obj _ _ => false
  | .hnd _ => false
  | _ => true
def noDics : List Dat → Bool
  | [] => true
  | d :: ds => noDic d && noDics ds
end
mutual
theorem Rep.dp {A H : Hp} (s : Ex A H) : ∀ {v : V} {d : Dat}, Rep A v d → noDic d = true → Dp K H v (py d)
  | _, _, .non, _ => .non
  | _, _, .bl b, _ => .bl b
  | _, _, .int i, _ => .int i
  | _, _, .str x, _ => .str x
  | _, _, .tup h r, n => .tup (SqT.of (s _ _ h)) (Reps.dp s r n)
  | _, _, .lst h r, n => .lst (SqL.of (s _ _ h)) (Reps.dp s r n)
  | _, _, .dic _ _, n => Bool.noConfusion (show false = true from n)
  | _, _, .obj _ _, n => Bool.noConfusion (show false = true from n)
  | _, _, .hnd _, n => Bool.noConfusion (show false = true from n)
theorem Reps.dp {A H : Hp} (s : Ex A H) : ∀ {v : List V} {d : List Dat}, Reps A v d → noDics d = true → DpAll K H v (pys d)
  | _, _, .nil, _ => .nil
  | _, _, .cons h r, n => by
    have n' := Bool.and_eq_true_iff.mp n
    exact .cons (Rep.dp s h n'.1) (Reps.dp s r n'.2)
end
theorem r2_eqD (n1 : noDic x = true) (n2 : noDic y = true) (s1 : SeqAt.shaped (py x) = true) (s2 : SeqAt.shaped (py y) = true) : R2D (rEqD K) x y (.bl (PyData.eqv (py x) (py y))) := fun A H vx vy s r1 r2 Q q =>
  ⟨py x, py y, r1.dp s n1, r2.dp s n2, s1, s2, q _ A H (Gr.refl s) (.bl _)⟩
theorem r2_neD (n1 : noDic x = true) (n2 : noDic y = true) (s1 : SeqAt.shaped (py x) = true) (s2 : SeqAt.shaped (py y) = true) : R2D (rNeD K) x y (.bl (!PyData.eqv (py x) (py y))) := fun A H vx vy s r1 r2 Q q =>
  ⟨py x, py y, r1.dp s n1, r2.dp s n2, s1, s2, q _ A H (Gr.refl s) (.bl _)⟩
end
/-! # words -/
def w (ns : List Int) : Dat := .tup (ns.map .int)
theorem pys_ints : ∀ ns : List Int, pys (ns.map .int) = ns.map .int
  | [] => rfl
  | n :: ns => by
    show py (.int n) :: pys (ns.map .int) = _
    rw [pys_ints ns]
    rfl
theorem noDic_w (ns : List Int) : noDic (w ns) = true := by
  show noDics (ns.map .int) = true
  induction ns with
  | nil => rfl
  | cons n ns ih => exact Bool.and_eq_true_iff.mpr ⟨rfl, ih⟩
theorem lay_ints : ∀ ns : List Int, PyData.canLayAll0 (ns.map PyData.int) = true
  | [] => by simp [PyData.canLayAll0]
  | n :: ns => by
    have := lay_ints ns
    simp only [List.map_cons, PyData.canLayAll0, this, Bool.and_true]
    simp [PyData.canLay0]
theorem depth_ints : ∀ ns : List Int, PyData.depthAll (ns.map PyData.int) ≤ 1
  | [] => by simp [PyData.depthAll]
  | n :: ns => by
    have := depth_ints ns
    simp only [List.map_cons, PyData.depthAll, PyData.depth]
    omega
theorem shaped_w (ns : List Int) : SeqAt.shaped (py (w ns)) = true := by
  show SeqAt.shaped (.tuple (pys (ns.map .int))) = true
  rw [pys_ints]
  unfold SeqAt.shaped
  have h := depth_ints ns
  have e : PyData.depth (.tuple (ns.map PyData.int)) ≤ 64 := by
    simp only [PyData.depth]
    omega
  rw [decide_eq_true e, Bool.and_true]
  simp only [PyData.canLay0]
  exact lay_ints ns
theorem eqv_ints : ∀ ns ms : List Int, PyData.eqvAll (ns.map PyData.int) (ms.map PyData.int) = decide (ns = ms)
  | [], [] => by simp [PyData.eqvAll]
  | [], m :: ms => by simp [PyData.eqvAll]
  | n :: ns, [] => by simp [PyData.eqvAll]
  | n :: ns, m :: ms => by
    simp only [List.map_cons, PyData.eqvAll, eqv_ints ns ms]
    by_cases h : n = m
    · subst h
      simp [PyData.eqv]
    · simp [PyData.eqv, h]
theorem eqv_w (ns ms : List Int) : PyData.eqv (py (w ns)) (py (w ms)) = decide (ns = ms) := by
  show PyData.eqv (.tuple (pys (ns.map .int))) (.tuple (pys (ms.map .int))) = _
  rw [pys_ints, pys_ints]
  simp only [PyData.eqv]
  exact eqv_ints ns ms
theorem r2_eqW {K : PySem.W.Frag} {ns ms : List Int} : R2D (rEqD K) (w ns) (w ms) (.bl (decide (ns = ms))) := by
  have h := r2_eqD (K := K) (noDic_w ns) (noDic_w ms) (shaped_w ns) (shaped_w ms)
  rw [eqv_w] at h
  exact h
theorem r2_neW {K : PySem.W.Frag} {ns ms : List Int} : R2D (rNeD K) (w ns) (w ms) (.bl (!decide (ns = ms))) := by
  have h := r2_neD (K := K) (noDic_w ns) (noDic_w ms) (shaped_w ns) (shaped_w ms)
  rw [eqv_w] at h
  exact h
end Fr

set_option Elab.async false
set_option linter.all false
set_option maxRecDepth 100000
set_option maxHeartbeats 4000000
namespace Fr
open PySem PySem.Spec PyProof.Rows L2
open Evl (Ex)
/-! # statements -/
def Run (ts : TS) (γ : Gam) (N : Gam → Prop) (R : Dat → Gam → Prop) : Prop := ∀ A0 H0 A H σ, Gr A0 H0 A H → Ok H0 A H σ γ → ∀ D : Ends,
  (∀ δ B H' σ', N δ → Gr A0 H0 B H' → Ex A B → Ok H0 B H' σ' δ → D.nx σ' H') → (∀ v B H' x σ' δ, R x δ → Gr A0 H0 B H' → Ok H0 B H' σ' δ → Rep B v x → D.rt v H') → ts D σ H
/-- a target takes data: the slots js are stored -/
def Tg (g : TG) (js : List Nat) (γ : Gam) (x : Dat) (δ : Gam) : Prop := ∀ H0 A H σ v, Ok H0 A H σ γ → Rep A v x → ∀ Q : L2.St → Hp → Prop,
  (∀ σ', Ok H0 A H σ' δ → σ'.length = σ.length → (∀ i : Nat, i ∉ js → σ'[i]? = σ[i]?) → Q σ' H) → g v σ H Q
def Tgs (g : TGs) (js : List Nat) (γ : Gam) (xs : List Dat) (δ : Gam) : Prop := ∀ H0 A H σ vs, Ok H0 A H σ γ → Reps A vs xs → ∀ Q : L2.St → Hp → Prop,
  (∀ σ', Ok H0 A H σ' δ → σ'.length = σ.length → (∀ i : Nat, i ∉ js → σ'[i]? = σ[i]?) → Q σ' H) → g vs σ H Q
theorem grOf {A0 H0 A H B H' : Hp} (g : Gr A0 H0 A H) (h : Gr A H B H') : Gr A0 H0 B H' := g.trans h
section
variable {K : PySem.W.Frag} {γ δ : Gam} {ta tb te : TE} {t : TT} {x y z : Dat} {xs ys : List Dat} {N M : Gam → Prop} {R : Dat → Gam → Prop} {tu tw : TS} {g : TG} {gs : TGs} {js : List Nat}
theorem tg_name (i : Nat) : Tg (gName i) [i] γ x (γ.set i (.d x)) := fun H0 A H σ v k r Q q =>
  q _ (k.setD r i) (by rw [List.length_set]) fun j hj => by rw [List.getElem?_set_ne (fun e => hj (by rw [e]; exact List.mem_singleton.mpr rfl))]
theorem tgs_nil : Tgs gNil [] γ [] γ := fun H0 A H σ vs k r Q q => by
  cases r
  exact ⟨rfl, q σ k rfl fun _ _ => rfl⟩
theorem tgs_cons {j1 : List Nat} {γ2 : Gam} (h : Tg g js γ x γ2) (hr : Tgs gs j1 γ2 xs δ) : Tgs (gCons g gs) (js ++ j1) γ (x :: xs) δ := fun H0 A H σ vs k r Q q => by
  cases r with
  | @cons v _ us _ r1 r2 =>
    refine ⟨v, us, rfl, h H0 A H σ v k r1 _ fun σ1 k1 l1 e1 => hr H0 A H σ1 us k1 r2 _ fun σ2 k2 l2 e2 => q σ2 k2 (l2.trans l1) fun i hi => ?_⟩
    rw [List.mem_append, not_or] at hi
    rw [e2 i hi.2, e1 i hi.1]
theorem tg_tup {n : Nat} (h : Tgs gs js γ xs δ) (hn : xs.length = n) : Tg (gTup K n gs) js γ (.tup xs) δ := fun H0 A H σ v k r Q q => by
  cases r with
  | @tup a us _ h1 r1 => exact ⟨a, us, rfl, SqT.of (k.sub _ _ h1), by rw [r1.len]; exact hn, h H0 A H σ us k r1 Q q⟩
theorem Run.weak {N' : Gam → Prop} {R' : Dat → Gam → Prop} (h : Run tu γ N R) (hn : ∀ δ, N δ → N' δ) (hr : ∀ x δ, R x δ → R' x δ) : Run tu γ N' R' := fun A0 H0 A H σ g k D dn dr =>
  h A0 H0 A H σ g k D (fun δ B H' σ' n => dn δ B H' σ' (hn δ n)) fun v B H' x σ' δ r => dr v B H' x σ' δ (hr x δ r)
theorem run_seq (h : Run tu γ M R) (hk : ∀ δ, M δ → Run tw δ N R) : Run (tSeq tu tw) γ N R := fun A0 H0 A H σ g k D dn dr =>
  h A0 H0 A H σ g k { D with nx := tw D } (fun δ B H' σ' m g' v k' => hk δ m A0 H0 B H' σ' g' k' D (fun δ2 B2 H2 σ2 n g2 v2 k2 => dn δ2 B2 H2 σ2 n g2 (v.trans v2) k2) dr) dr
/-- the usual: one way on -/
theorem run_seq1 (h : Run tu γ (fun ε => ε = δ) R) (hk : Run tw δ N R) : Run (tSeq tu tw) γ N R := run_seq h fun _ e => e ▸ hk
theorem run_next (h : N γ) : Run tNext γ N R := fun A0 H0 A H σ g k D dn dr => dn γ A H σ h g (Ex.refl A) k
theorem run_asgT (h : EvD te γ x) (ht : Tg g js γ x δ) (hn : N δ) : Run (tAsg te g) γ N R := fun A0 H0 A H σ g0 k D dn dr =>
  h H0 A H σ k _ fun v B H1 g1 r1 => ht H0 B H1 σ v (k.mono g1) r1 _ fun σ' k' _ _ => dn δ B H1 σ' hn (g0.trans g1) g1.view k'
theorem run_asg {i : Nat} (h : EvD te γ x) (hn : N (γ.set i (.d x))) : Run (tAsg te (gName i)) γ N R := run_asgT h (tg_name i) hn
theorem run_asgN {i : Nat} (h : EvN te γ xs) (hn : N (γ.set i (.o xs))) : Run (tAsg te (gName i)) γ N R := fun A0 H0 A H σ g0 k D dn dr =>
  h H0 A H σ k _ fun l vs B H1 g1 hl hB h1 r1 => by
    have k1 := k.mono g1
    refine dn _ B H1 _ hn (g0.trans g1) g1.view (k1.setM i (fun j t hj mt e => ?_) (fun _ z => nomatch z) (fun _ _ z => nomatch z) (fun _ _ z => nomatch z) (fun _ z => by cases z; exact ⟨vs, Evl.fresh_back g0.up hl, hB, h1, r1⟩) fun _ z => nomatch z)
    obtain ⟨a, o, e2, _, _, e3⟩ := k.addr hj mt
    rw [e2] at e
    cases e
    rw [hl] at e3
    cases e3
theorem run_ret (h : EvD te γ x) (hr : R x γ) : Run (tRet te) γ N R := fun A0 H0 A H σ g0 k D dn dr =>
  h H0 A H σ k _ fun v B H1 g1 r1 => dr v B H1 x σ γ hr (g0.trans g1) (k.mono g1) r1
theorem run_retN (hr : R .non γ) : Run tRetN γ N R := fun A0 H0 A H σ g0 k D dn dr => dr _ A H .non σ γ hr g0 k .non
theorem run_never : False → Run tNever γ N R := fun h => h.elim
theorem run_if {b : Bool} (h : EvT t γ b) (h1 : b = true → Run tu γ N R) (h2 : b = false → Run tw γ N R) : Run (tIfS t tu tw) γ N R := fun A0 H0 A H σ g0 k D dn dr =>
  h H0 A H σ k _ fun B H1 g1 => by
    have dn' : ∀ δ C H' σ', N δ → Gr A0 H0 C H' → Ex B C → Ok H0 C H' σ' δ → D.nx σ' H' := fun δ C H' σ' n g2 v2 k2 => dn δ C H' σ' n g2 (g1.view.trans v2) k2
    cases b with
    | true => exact h1 rfl A0 H0 B H1 σ (g0.trans g1) (k.mono g1) D dn' dr
    | false => exact h2 rfl A0 H0 B H1 σ (g0.trans g1) (k.mono g1) D dn' dr
theorem run_drop (h : EvD te γ x) (hn : N γ) : Run (tDrop te) γ N R := fun A0 H0 A H σ g0 k D dn dr =>
  h H0 A H σ k _ fun v B H1 g1 r1 => dn γ B H1 σ hn (g0.trans g1) g1.view (k.mono g1)
/-- an own list in slot i changes -/
theorem Ok.change {H0 A H : Hp} {σ : L2.St} {i : Nat} {l : Addr} {us : List V} (k : Ok H0 A H σ γ) (h : γ[i]? = some (Slot.o xs)) (e : σ[i]? = some (some (V.ref l))) (r : Reps A us ys) : Ok H0 A (upd H l (.lst us)) σ (γ.set i (.o ys)) :=
  k.turn h rfl e (fun _ z => nomatch z) (fun zs z => by cases z; exact ⟨us, rfl, r⟩) (fun _ z => nomatch z) (fun _ _ z => nomatch z) fun _ _ z => nomatch z
theorem run_app {i : Nat} (h : γ[i]? = some (Slot.o xs)) (he : EvD te γ x) (hz : xs.length < sizeLine) (hn : N (γ.set i (.o (xs ++ [x])))) : Run (tDrop (tBM K "list" rAppend (tVar i) (tCons te tNil))) γ N R := fun A0 H0 A H σ g0 k D dn dr => by
  obtain ⟨l, vs, e, h0, hA, hH, r⟩ := k.own i xs h
  refine ⟨.ref l, e, .inl ⟨rfl, vs, SqL.of hH⟩, he H0 A H σ k _ fun v B H1 g1 r1 => ?_⟩
  have k1 := k.mono g1
  have hB := g1.hid l _ hH True.intro hA
  refine ⟨l, vs, v, rfl, rfl, g1.up _ _ hH, by rw [r.len]; exact hz, ?_⟩
  exact dn _ B _ σ hn ((g0.trans g1).mut h0 hB) g1.view (k1.change h e ((r.mono g1.view).app (Reps.one r1)))
/-- an own list becomes data that stands still -/
theorem Ok.freeze {A0 H0 A H : Hp} {σ : L2.St} {i : Nat} (k : Ok H0 A H σ γ) (g : Gr A0 H0 A H) (h : γ[i]? = some (Slot.o xs)) : ∃ B, Gr A0 H0 B H ∧ Ex A B ∧ Ok H0 B H σ (γ.set i (.d (.lst xs))) := by
  obtain ⟨l, vs, e, h0, hA, hH, r⟩ := k.own i xs h
  obtain ⟨a, b, c⟩ := k.bare (x := .lst xs) g h rfl e hH (.lst upd_same (r.mono (Ex.new hA)))
  exact ⟨_, a, b, c⟩
/-- an own dict becomes data that stands still -/
theorem Ok.freezeD {A0 H0 A H : Hp} {σ : L2.St} {i : Nat} {es : List (List L2.Key × Dat)} (k : Ok H0 A H σ γ) (g : Gr A0 H0 A H) (h : γ[i]? = some (Slot.od es)) : ∃ B, Gr A0 H0 B H ∧ Ex A B ∧ Ok H0 B H σ (γ.set i (.d (.dic es))) := by
  obtain ⟨l, vs, e, h0, hA, hH, r⟩ := k.ownD i es h
  obtain ⟨a, b, c⟩ := k.bare (x := .dic es) g h rfl e hH (.dic upd_same (r.mono (Ex.new hA)))
  exact ⟨_, a, b, c⟩
theorem run_freezeD {i : Nat} {es : List (List L2.Key × Dat)} (h : γ[i]? = some (Slot.od es)) (hr : Run tu (γ.set i (.d (.dic es))) N R) : Run tu γ N R := fun A0 H0 A H σ g k D dn dr => by
  obtain ⟨B, g1, v1, k1⟩ := k.freezeD g h
  exact hr A0 H0 B H σ g1 k1 D (fun δ C H' σ' n g2 v2 k2 => dn δ C H' σ' n g2 (v1.trans v2) k2) dr
theorem run_freeze {i : Nat} (h : γ[i]? = some (Slot.o xs)) (hr : Run tu (γ.set i (.d (.lst xs))) N R) : Run tu γ N R := fun A0 H0 A H σ g k D dn dr => by
  obtain ⟨B, g1, v1, k1⟩ := k.freeze g h
  exact hr A0 H0 B H σ g1 k1 D (fun δ C H' σ' n g2 v2 k2 => dn δ C H' σ' n g2 (v1.trans v2) k2) dr
theorem run_less (h : Less γ δ) (hr : Run tu δ N R) : Run tu γ N R := fun A0 H0 A H σ g k D dn dr => hr A0 H0 A H σ g (k.less h) D dn dr
/-! ### loops -/
theorem run_forT {tl : TE} (h : EvD tl γ (.tup xs)) (I : Nat → Gam → Prop) (h0 : I 0 γ)
    (hs : ∀ i x δ, xs[i]? = some x → I i δ → ∃ js ε, Tg g js δ x ε ∧ Run tu ε (I (i + 1)) R) (hd : ∀ δ, I xs.length δ → N δ) : Run (tFor (iTup K tl) g tu) γ N R := fun A0 H0 A H σ g0 k D dn dr =>
  h H0 A H σ k _ fun v B H1 g1 r1 => by
    cases r1 with
    | @tup a us _ ha ru =>
      refine ⟨a, rfl, ⟨us, SqT.of (g1.sub _ _ ha)⟩, for_tup (K := K) (xs := us) (fun i σ' H' => ∃ δ C, I i δ ∧ Gr A0 H0 C H' ∧ Ex B C ∧ Ok H0 C H' σ' δ) ⟨γ, B, h0, g0.trans g1, Ex.refl B, k.mono g1⟩ ?_ ?_ ?_⟩
      · rintro i σ' H' _ ⟨δ, C, _, g2, v2, _⟩
        exact SqT.of (g2.sub _ _ (v2 _ _ ha))
      · rintro i u σ' H' hi ⟨δ, C, hI, g2, v2, k2⟩
        obtain ⟨x, hx, rx⟩ := ru.getV hi
        obtain ⟨js, ε, ht, hr⟩ := hs i x δ hx hI
        refine ht H0 C H' σ' u k2 (rx.mono v2) _ fun σ3 k3 _ _ => ?_
        exact hr A0 H0 C H' σ3 g2 k3 { D with nx := _, ct := _, bk := D.nx } (fun δ' C' H3 σ4 hN g4 v4 k4 => ⟨δ', C', hN, g4, v2.trans v4, k4⟩) dr
      · rintro σ' H' ⟨δ, C, hI, g2, v2, k2⟩
        rw [ru.len] at hI
        exact dn δ C H' σ' (hd δ hI) g2 (g1.view.trans v2) k2
theorem run_forL {tl : TE} (h : EvD tl γ (.lst xs)) (I : Nat → Gam → Prop) (h0 : I 0 γ)
    (hs : ∀ i x δ, xs[i]? = some x → I i δ → ∃ js ε, Tg g js δ x ε ∧ Run tu ε (I (i + 1)) R) (hd : ∀ δ, I xs.length δ → N δ) : Run (tFor (iList K tl) g tu) γ N R := fun A0 H0 A H σ g0 k D dn dr =>
  h H0 A H σ k _ fun v B H1 g1 r1 => by
    cases r1 with
    | @lst a us _ ha ru =>
      refine ⟨a, rfl, ⟨us, SqL.of (g1.sub _ _ ha)⟩, for_list (K := K) (xs := us) (fun i σ' H' => ∃ δ C, I i δ ∧ Gr A0 H0 C H' ∧ Ex B C ∧ Ok H0 C H' σ' δ) ⟨γ, B, h0, g0.trans g1, Ex.refl B, k.mono g1⟩ ?_ ?_ ?_⟩
      · rintro i σ' H' _ ⟨δ, C, _, g2, v2, _⟩
        exact SqL.of (g2.sub _ _ (v2 _ _ ha))
      · rintro i u σ' H' hi ⟨δ, C, hI, g2, v2, k2⟩
        obtain ⟨x, hx, rx⟩ := ru.getV hi
        obtain ⟨js, ε, ht, hr⟩ := hs i x δ hx hI
        refine ht H0 C H' σ' u k2 (rx.mono v2) _ fun σ3 k3 _ _ => ?_
        exact hr A0 H0 C H' σ3 g2 k3 { D with nx := _, ct := _, bk := D.nx } (fun δ' C' H3 σ4 hN g4 v4 k4 => ⟨δ', C', hN, g4, v2.trans v4, k4⟩) dr
      · rintro σ' H' ⟨δ, C, hI, g2, v2, k2⟩
        rw [ru.len] at hI
        exact dn δ C H' σ' (hd δ hI) g2 (g1.view.trans v2) k2
theorem run_forR {tr : TA} {n : Int} {j : Nat} (h : EvA tr γ [.int n]) (hn : -(2 ^ 62) ≤ n ∧ n < 2 ^ 62) (I : Nat → Gam → Prop) (h0 : I 0 γ)
    (hs : ∀ (i : Nat) δ, (i : Int) < n → I i δ → Run tu (δ.set j (.d (.int (i : Int)))) (I (i + 1)) R) (hd : ∀ δ, I n.toNat δ → N δ) : Run (tFor (iRng1 tr) (gName j) tu) γ N R := fun A0 H0 A H σ g0 k D dn dr =>
  h H0 A H σ k _ fun vs B H1 g1 r1 => by
    cases r1 with
    | cons r1 r2 =>
      cases r1
      cases r2
      refine ⟨n, rfl, hn.1, hn.2, for_range (lo := 0) (n := n.toNat) (fun i σ' H' => ∃ δ C, I i δ ∧ Gr A0 H0 C H' ∧ Ex B C ∧ Ok H0 C H' σ' δ) ⟨γ, B, h0, g0.trans g1, Ex.refl B, k.mono g1⟩ ?_ ?_⟩
      · rintro i σ' H' hi ⟨δ, C, hI, g2, v2, k2⟩
        have e0 : (0 : Int) + (i : Int) = (i : Int) := Int.zero_add _
        rw [e0]
        have k3 := k2.setD (v := .int (i : Int)) (.int _) j
        exact hs i δ (by omega) hI A0 H0 C H' _ g2 k3 { D with nx := _, ct := _, bk := D.nx } (fun δ' C' H3 σ4 hN g4 v4 k4 => ⟨δ', C', hN, g4, v2.trans v4, k4⟩) dr
      · rintro σ' H' ⟨δ, C, hI, g2, v2, k2⟩
        exact dn δ C H' σ' (hd δ hI) g2 (g1.view.trans v2) k2
theorem run_while (I : Nat → Gam → Prop) (m0 : Nat) (h0 : I m0 γ) (hs : ∀ m δ, I m δ → ∃ b, EvT t δ b ∧ (b = true → Run tu δ (fun ε => ∃ m', m' < m ∧ I m' ε) R) ∧ (b = false → N δ)) : Run (tWhile t tu) γ N R := fun A0 H0 A H σ g0 k D dn dr => by
  refine ⟨fun m σ' H' => ∃ δ C, I m δ ∧ Gr A0 H0 C H' ∧ Ex A C ∧ Ok H0 C H' σ' δ, ⟨m0, γ, A, h0, g0, Ex.refl A, k⟩, ?_⟩
  rintro m σ' H' ⟨δ, C, hI, g2, v2, k2⟩
  obtain ⟨b, hb, h1, h2⟩ := hs m δ hI
  refine hb H0 C H' σ' k2 _ fun B H1 g1 => ?_
  cases b with
  | true =>
    refine ⟨fun σ3 H3 => ∃ ε E, (∃ m', m' < m ∧ I m' ε) ∧ Gr A0 H0 E H3 ∧ Ex A E ∧ Ok H0 E H3 σ3 ε, fun σ3 H3 ⟨ε, E, ⟨m', hm, hI'⟩, a, b, c⟩ => ⟨m', hm, ε, E, hI', a, b, c⟩, ?_⟩
    exact h1 rfl A0 H0 B H1 σ' (g2.trans g1) (k2.mono g1) { D with nx := _, ct := _, bk := D.nx } (fun ε E H3 σ3 hN g3 v3 k3 => ⟨ε, E, hN, g3, (v2.trans g1.view).trans v3, k3⟩) dr
  | false => exact dn δ B H1 σ' (h2 rfl) (g2.trans g1) (v2.trans g1.view) (k2.mono g1)
end
/-! # a def -/
def entry (N : List Str) (xs : List Dat) : Gam := xs.map Slot.d ++ List.replicate (N.length - xs.length) Slot.no
theorem ok_entry {A H : Hp} (s : Ex A H) (N : List Str) {vs : List V} {xs : List Dat} (r : Reps A vs xs) : Ok H A H (L2.start N vs) (entry N xs) := by
  have no : ∀ (i : Nat) (t : Slot), (entry N xs)[i]? = some t → t.mine = false ∧ ∀ K m, t ≠ .scr K m := fun i t h => by
    unfold entry at h
    by_cases hi : i < xs.length
    · rw [List.getElem?_append_left (by simpa using hi), List.getElem?_map] at h
      cases e : xs[i]? with
      | none => rw [e] at h; cases h
      | some a => rw [e] at h; cases h; exact ⟨rfl, fun _ _ z => nomatch z⟩
    · rw [List.getElem?_append_right (by simpa using hi), List.getElem?_replicate] at h
      split at h <;> cases h
      exact ⟨rfl, fun _ _ z => nomatch z⟩
  refine ⟨s, ?_, fun i x h => ?_, fun i ys h => absurd (no i _ h).1 (by intro z; cases z), fun i ys h => absurd (no i _ h).1 (by intro z; cases z), fun i c ys h => absurd (no i _ h).1 (by intro z; cases z), fun i K m h => absurd rfl ((no i _ h).2 K m), fun i j l t u h1 h2 h3 => by rw [(no i t h1).1] at h3; cases h3⟩
  · unfold L2.start entry
    simp [r.len]
  · unfold entry at h
    by_cases hi : i < xs.length
    · rw [List.getElem?_append_left (by simpa using hi), List.getElem?_map] at h
      cases e : xs[i]? with
      | none => rw [e] at h; cases h
      | some a =>
        rw [e] at h
        cases h
        obtain ⟨v, h1, h2⟩ := r.get e
        refine ⟨v, ?_, h2⟩
        unfold L2.start
        rw [List.getElem?_append_left (by simpa [r.len] using hi), List.getElem?_map, h1]
        rfl
    · rw [List.getElem?_append_right (by simpa using hi), List.getElem?_replicate] at h
      split at h <;> cases h
section
variable {P : Program} {w0 : World} {K : PySem.W.Frag} {mg : Str → Option Value} {base : Heap}
theorem fn_pr {x qual : Str} {st : Stmt} {f : Addr} {fd : FuncData} {N ps : List Str} {k : Nat} {R : List Dat → Dat → Prop} (F : Fun K x qual st f fd) (S : FnScope N ps (defScope st)) (hlen : ∀ xs y, R xs y → xs.length = ps.length)
    (hbody : ∀ (cdv : Value) (A : Around) (outer : List PySem.Env) (s : Shared) (H : Hp) (E : XK), Room k (A.deeper (envOfC qual (defScope st) s.heap.objs.size f cdv)) →
      ∃ t, PSs (cxOf CX0 P w0 K mg base N qual (defScope st) f cdv A outer s H E).nox (defBody st) t ∧ ∀ xs y, R xs y → Run t (entry N xs) (fun _ => y = .non) (fun z _ => z = y)) : FnOk P w0 K mg base CX0 (k + 1) f fd ps (Pr R) := by
  refine F.ok S (fun vs H Q E h => ?_) fun cdv A outer s H vs Q E hr h => ?_
  · obtain ⟨A, xs, y, s, r, hR, _⟩ := h
    rw [r.len]
    exact hlen xs y hR
  · obtain ⟨B, xs, y, sub, r, hR, q⟩ := h
    obtain ⟨t, h1, h2⟩ := hbody cdv A outer s H E hr
    refine ⟨t, h1, h2 xs y hR B H B H _ (Gr.refl sub) (ok_entry sub N r) _ (fun δ C H' σ' hn g _ k' => ?_) fun v C H' z σ' δ hz g _ rz => ?_⟩
    · subst hn
      exact q _ C H' g .non
    · subst hz
      exact q v C H' g rz
end
end Fr

set_option Elab.async false
set_option linter.all false
set_option maxRecDepth 100000
set_option maxHeartbeats 4000000
namespace Fr
open PySem PySem.Spec PyProof.Rows L2
open Evl (Ex)
/-! # comprehensions -/
def wipeG (γ : Gam) : List Nat → Gam
  | [] => γ
  | v :: vs => (wipeG γ vs).set v .no
theorem Ok.wipe {H0 A H : Hp} {σ : L2.St} {γ : Gam} (k : Ok H0 A H σ γ) : ∀ vs : List Nat, Ok H0 A H (L2.wipe σ vs) (wipeG γ vs)
  | [] => k
  | v :: vs => (Ok.wipe k vs).forget v none
theorem wipe_get (σ : L2.St) (vs : List Nat) (i : Nat) : (L2.wipe σ vs)[i]? = if i ∈ vs ∧ i < σ.length then some none else σ[i]? := by
  induction vs with
  | nil => simp [L2.wipe]
  | cons v vs ih =>
    unfold L2.wipe
    by_cases q : v = i
    · subst q
      by_cases hv : v < σ.length
      · rw [List.getElem?_set_self (by rw [wipe_length]; exact hv), if_pos ⟨List.mem_cons_self, hv⟩]
      · rw [if_neg (fun z => hv z.2), List.getElem?_eq_none (by rw [List.length_set, wipe_length]; omega), List.getElem?_eq_none (by omega)]
    · rw [List.getElem?_set_ne q, ih]
      have e : (i ∈ vs ∧ i < σ.length) ↔ (i ∈ v :: vs ∧ i < σ.length) := by
        constructor
        · exact fun h => ⟨List.mem_cons_of_mem _ h.1, h.2⟩
        · intro h
          rcases List.mem_cons.mp h.1 with z | z
          · exact absurd z.symm q
          · exact ⟨z, h.2⟩
      by_cases hc : i ∈ vs ∧ i < σ.length
      · rw [if_pos hc, if_pos (e.mp hc)]
      · rw [if_neg hc, if_neg (fun z => hc (e.mpr z))]
theorem wipe_back {σ σ2 : L2.St} {vs js : List Nat} (hl : σ2.length = (L2.wipe σ vs).length) (h : ∀ i : Nat, i ∉ js → σ2[i]? = (L2.wipe σ vs)[i]?) (hj : ∀ j ∈ js, j ∈ vs) : L2.wipe σ2 vs = L2.wipe σ vs := by
  rw [wipe_length] at hl
  refine List.ext_getElem? fun i => ?_
  rw [wipe_get, wipe_get, hl]
  by_cases hc : i ∈ vs ∧ i < σ.length
  · rw [if_pos hc, if_pos hc]
  · rw [if_neg hc, if_neg hc]
    by_cases hi : i ∈ js
    · have hn : ¬ i < σ.length := fun z => hc ⟨hj i hi, z⟩
      rw [List.getElem?_eq_none (by omega), List.getElem?_eq_none (by omega)]
    · rw [h i hi, wipe_get, if_neg hc]
section
variable {K : PySem.W.Frag} {γ δ : Gam} {ta tb te tl : TE} {tt : TT} {x y z : Dat} {xs ys : List Dat} {g : TG} {js vs : List Nat} {α : Type}
def CP (l : List α) (f : α → Bool) (v : α → Dat) (B H1 : Hp) (D : Addr) (i : Nat) (H' : Hp) : Prop := ∃ C acc, Gr B H1 C H' ∧ C D = none ∧ H' D = some (.lst acc) ∧ Reps C acc (((l.take i).filter f).map v)
theorem cp_zero {l : List α} {f : α → Bool} {v : α → Dat} {B H1 : Hp} {D : Addr} (s : Ex B H1) (hD : H1 D = none) : CP l f v B H1 D 0 (upd H1 D (.lst [])) :=
  ⟨B, [], Gr.newU s hD, Evl.fresh_back s hD, upd_same, .nil⟩
theorem cp_step {l : List α} {f : α → Bool} {v : α → Dat} {H0 B H1 C : Hp} {σ : L2.St} {D : Addr} {i : Nat} {H' : Hp} {a : α} {xv : V} {acc : List V} (k : Ok H0 B H1 σ γ) (hD : H1 D = none) (hz : l.length < sizeLine) (hi : l[i]? = some a)
    (gC : Gr B H1 C H') (cD : C D = none) (hAcc : H' D = some (.lst acc)) (rAcc : Reps C acc (((l.take i).filter f).map v)) (rx : Rep C xv x) (hj : ∀ j ∈ js, j ∈ vs) (ht : Tg g js (wipeG γ vs) x δ) (hf : EvT tt δ (f a)) (he : f a = true → EvD te δ (v a)) :
    g xv (L2.wipe σ vs) H' fun σ2 H2 => L2.wipe σ2 vs = L2.wipe σ vs ∧ tt σ2 H2 fun b H3 => if b = true then te σ2 H3 fun y H4 => ∃ acc, H4 D = some (.lst acc) ∧ acc.length < sizeLine ∧ CP l f v B H1 D (i + 1) (upd H4 D (.lst (acc ++ [y]))) else CP l f v B H1 D (i + 1) H3 := by
  have tk : l.take (i + 1) = l.take i ++ [a] := by rw [List.take_add_one, hi]; rfl
  refine ht H0 C H' _ xv ((k.mono gC).wipe vs) rx _ fun σ2 k2 hl hoff => ⟨wipe_back hl hoff hj, ?_⟩
  refine hf H0 C H' σ2 k2 _ fun C2 H3 g2 => ?_
  have cD2 : C2 D = none := g2.hid D _ hAcc True.intro cD
  cases hfa : f a with
  | true =>
    refine he hfa H0 C2 H3 σ2 (k2.mono g2) _ fun yv C3 H4 g3 r3 => ?_
    have hD4 : H4 D = some (.lst acc) := g3.up _ _ (g2.up _ _ hAcc)
    have cD3 : C3 D = none := g3.hid D _ (g2.up _ _ hAcc) True.intro cD2
    have lz : acc.length ≤ i := by
      rw [rAcc.len, List.length_map]
      exact Nat.le_trans (List.length_filter_le _ _) (by rw [List.length_take]; exact Nat.min_le_left _ _)
    have il : i < l.length := (List.getElem?_eq_some_iff.mp hi).1
    refine ⟨acc, hD4, by omega, C3, acc ++ [yv], ((gC.trans g2).trans g3).mut hD cD3, cD3, upd_same, ?_⟩
    rw [tk, List.filter_append, List.map_append, List.filter_cons_of_pos hfa]
    exact ((rAcc.mono (g2.view.trans g3.view)).app (Reps.one r3))
  | false =>
    refine ⟨C2, acc, gC.trans g2, cD2, g2.up _ _ hAcc, ?_⟩
    rw [tk, List.filter_append, List.map_append, List.filter_cons_of_neg (by rw [hfa]; decide)]
    have := rAcc.mono g2.view
    rw [List.filter_nil, List.map_nil, List.append_nil]
    exact this
theorem cp_turn {l : List α} {f : α → Bool} {v : α → Dat} {H0 B H1 : Hp} {σ : L2.St} {D : Addr} {i : Nat} {H' : Hp} {a : α} {xv : V} (k : Ok H0 B H1 σ γ) (hD : H1 D = none) (hz : l.length < sizeLine) (hi : l[i]? = some a) (p : CP l f v B H1 D i H')
    (hx : ∀ C, Ex B C → Rep C xv x) (hj : ∀ j ∈ js, j ∈ vs) (ht : Tg g js (wipeG γ vs) x δ) (hf : EvT tt δ (f a)) (he : f a = true → EvD te δ (v a)) :
    g xv (L2.wipe σ vs) H' fun σ2 H2 => L2.wipe σ2 vs = L2.wipe σ vs ∧ tt σ2 H2 fun b H3 => if b = true then te σ2 H3 fun y H4 => ∃ acc, H4 D = some (.lst acc) ∧ acc.length < sizeLine ∧ CP l f v B H1 D (i + 1) (upd H4 D (.lst (acc ++ [y]))) else CP l f v B H1 D (i + 1) H3 := by
  obtain ⟨C, acc, gC, cD, hAcc, rAcc⟩ := p
  exact cp_step k hD hz hi gC cD hAcc rAcc (hx C gC.view) hj ht hf he
theorem en_lcT {l : List α} {enc : α → Dat} {f : α → Bool} {v : α → Dat} (h : EvD tl γ (.tup (l.map enc))) (hj : ∀ j ∈ js, j ∈ vs) (hz : l.length < sizeLine)
    (hs : ∀ a ∈ l, ∃ δ, Tg g js (wipeG γ vs) (enc a) δ ∧ EvT tt δ (f a) ∧ (f a = true → EvD te δ (v a))) : EvN (tLc (iTup K tl) g tt te vs) γ ((l.filter f).map v) := fun H0 A H σ k Q q =>
  h H0 A H σ k _ fun sv B H1 g1 r1 => by
    cases r1 with
    | @tup a us _ ha ru =>
      have hlen : us.length = l.length := by rw [ru.len, List.length_map]
      refine ⟨a, rfl, ⟨us, SqT.of (g1.sub _ _ ha)⟩, fun D hD => lc_tup (K := K) (xs := us) (CP l f v B H1 D) (cp_zero g1.sub hD) (fun i H' _ p => ?_) (fun i xv H' hi p => ?_) (fun H' p => ?_)⟩
      · obtain ⟨C, acc, gC, _⟩ := p
        exact SqT.of (gC.up _ _ (g1.sub _ _ ha))
      · obtain ⟨d, hd, rd⟩ := ru.getV hi
        rw [List.getElem?_map] at hd
        cases e : l[i]? with
        | none =>
          rw [e] at hd
          cases hd
        | some b =>
          rw [e] at hd
          cases hd
          obtain ⟨δ, t1, t2, t3⟩ := hs b (List.mem_of_getElem? e)
          exact cp_turn (k.mono g1) hD hz e p (fun C e2 => rd.mono e2) hj t1 t2 t3
      · obtain ⟨C, acc, gC, cD, hAcc, rAcc⟩ := p
        rw [hlen, List.take_length] at rAcc
        exact q D acc C H' (g1.trans gC) (Evl.fresh_back g1.up hD) cD hAcc rAcc
theorem en_lcL {l : List α} {enc : α → Dat} {f : α → Bool} {v : α → Dat} (h : EvR tl γ (l.map enc)) (hj : ∀ j ∈ js, j ∈ vs) (hz : l.length < sizeLine)
    (hs : ∀ a ∈ l, ∃ δ, Tg g js (wipeG γ vs) (enc a) δ ∧ EvT tt δ (f a) ∧ (f a = true → EvD te δ (v a))) : EvN (tLc (iList K tl) g tt te vs) γ ((l.filter f).map v) := fun H0 A H σ k Q q =>
  h H0 A H σ k _ fun a us B H1 g1 ha ru => by
    have hlen : us.length = l.length := by rw [ru.len, List.length_map]
    refine ⟨a, rfl, ⟨us, SqL.of ha⟩, fun D hD => lc_list (K := K) (xs := us) (CP l f v B H1 D) (cp_zero g1.sub hD) (fun i H' _ p => ?_) (fun i xv H' hi p => ?_) (fun H' p => ?_)⟩
    · obtain ⟨C, acc, gC, _⟩ := p
      exact SqL.of (gC.up _ _ ha)
    · obtain ⟨d, hd, rd⟩ := ru.getV hi
      rw [List.getElem?_map] at hd
      cases e : l[i]? with
      | none =>
        rw [e] at hd
        cases hd
      | some b =>
        rw [e] at hd
        cases hd
        obtain ⟨δ, t1, t2, t3⟩ := hs b (List.mem_of_getElem? e)
        exact cp_turn (k.mono g1) hD hz e p (fun C e2 => rd.mono e2) hj t1 t2 t3
    · obtain ⟨C, acc, gC, cD, hAcc, rAcc⟩ := p
      rw [hlen, List.take_length] at rAcc
      exact q D acc C H' (g1.trans gC) (Evl.fresh_back g1.up hD) cD hAcc rAcc
theorem en_lcR {tr : TA} {n : Int} {f : Nat → Bool} {v : Nat → Dat} (h : EvA tr γ [.int n]) (hj : ∀ j ∈ js, j ∈ vs) (hn : -(2 ^ 62) ≤ n ∧ n < sizeLine)
    (hs : ∀ a : Nat, (a : Int) < n → ∃ δ, Tg g js (wipeG γ vs) (.int (a : Int)) δ ∧ EvT tt δ (f a) ∧ (f a = true → EvD te δ (v a))) : EvN (tLc (iRng1 tr) g tt te vs) γ (((List.range n.toNat).filter f).map v) := fun H0 A H σ k Q q =>
  h H0 A H σ k _ fun us B H1 g1 ru => by
    have hsz : (sizeLine : Int) < 2 ^ 62 := by rw [sizeLine_eq]; decide
    cases ru with
    | cons r1 r2 =>
      cases r1
      cases r2
      refine ⟨n, rfl, hn.1, by omega, fun D hD => lc_range (lo := 0) (n := n.toNat) (CP (List.range n.toNat) f v B H1 D) (cp_zero g1.sub hD) (fun i H' hi p => ?_) (fun H' p => ?_)⟩
      · have e0 : (0 : Int) + (i : Int) = (i : Int) := Int.zero_add _
        rw [e0]
        obtain ⟨δ, t1, t2, t3⟩ := hs i (by omega)
        exact cp_turn (l := List.range n.toNat) (k.mono g1) hD (by rw [List.length_range]; omega) (by rw [List.getElem?_range hi]) p (fun C _ => .int _) hj t1 t2 t3
      · obtain ⟨C, acc, gC, cD, hAcc, rAcc⟩ := p
        have ht : (List.range n.toNat).take n.toNat = List.range n.toNat := List.take_of_length_le (by rw [List.length_range]; exact Nat.le_refl _)
        rw [ht] at rAcc
        exact q D acc C H' (g1.trans gC) (Evl.fresh_back g1.up hD) cD hAcc rAcc
theorem et_yes : EvT tYes γ true := fun H0 A H σ k Q q => q A H (Gr.refl k.sub)
/-- without an if -/
theorem filter_yes (l : List α) : l.filter (fun _ => true) = l := List.filter_eq_self.mpr fun _ _ => rfl
theorem en_is (h : EvN te γ xs) (e : xs = ys) : EvN te γ ys := e ▸ h
theorem er_is (h : EvR te γ xs) (e : xs = ys) : EvR te γ ys := e ▸ h
/-! # built-ins -/
theorem ev_lenT (h : EvD te γ (.tup xs)) : EvD (tCB (Evl.rLenS K) (tCons te tNil)) γ (.int (xs.length : Int)) := fun H0 A H σ k Q q =>
  h H0 A H σ k _ fun v B H1 g r => by
    cases r with
    | @tup a us _ ha ru =>
      refine ⟨a, us, rfl, .inr (SqT.of (g.sub _ _ ha)), ?_⟩
      rw [ru.len]
      exact q _ B H1 g (.int _)
theorem ev_lenL (h : EvR te γ xs) : EvD (tCB (Evl.rLenS K) (tCons te tNil)) γ (.int (xs.length : Int)) := fun H0 A H σ k Q q =>
  h H0 A H σ k _ fun a us B H1 g ha ru => by
    refine ⟨a, us, rfl, .inl (SqL.of ha), ?_⟩
    rw [ru.len]
    exact q _ B H1 g (.int _)
def rTupOf (K : PySem.W.Frag) : List V → Hp → VK → Prop := fun xs H Q => ∃ p ys, xs = [V.ref p] ∧ ((SqL K H p ys ∧ ∀ l, H l = none → Q (.ref l) (upd H l (.tup ys))) ∨ SqT K H p ys ∧ Q (.ref p) H)
theorem call_tupOf {X : Cx} : CallR X (.type "tuple") (rTupOf X.K) := call_tuple_of
theorem ev_tupL (h : EvR te γ xs) : EvD (tCB (rTupOf K) (tCons te tNil)) γ (.tup xs) := fun H0 A H σ k Q q =>
  h H0 A H σ k _ fun a us B H1 g ha ru => ⟨a, us, rfl, .inl ⟨SqL.of ha, fun p hp => by
    have g2 := Gr.new (o := .tup us) g.sub hp
    exact q _ _ _ (g.trans g2) (.tup upd_same (ru.mono g2.view))⟩⟩
theorem bls_of : ∀ {us : List V} {bs : List Bool} {A : Hp}, Reps A us (bs.map .bl) → us = bs.map V.bl
  | _, [], _, h => by cases h; rfl
  | _, b :: bs, _, h => by
    cases h with
    | cons h r =>
      cases h
      rw [bls_of r]
      rfl
theorem ev_all {bs : List Bool} (h : EvR te γ (bs.map .bl)) : EvD (tCB (rAll K) (tCons te tNil)) γ (.bl (bs.all id)) := fun H0 A H σ k Q q =>
  h H0 A H σ k _ fun a us B H1 g ha ru => by
    have e := bls_of ru
    subst e
    exact ⟨a, bs, rfl, SqL.of ha, q _ B H1 g (.bl _)⟩
/-- isinstance(x, one built-in class) -/
def tyN : Dat → String
  | .non => "NoneType" | .bl _ => "bool" | .int _ => "int" | .str _ => "str" | .tup _ => "tuple" | .lst _ => "list" | .dic _ => "dict" | .obj _ _ => "object" | .hnd _ => "object"
/-- a value's type -/
def tyV : Dat → Value
  | .obj C _ => .ref C
  | d => .type (tyN d)
/-- what a class of the program's own is known by -/
structure ObF (K : PySem.W.Frag) (C : Addr) : Prop where
  cl : Cls K C
  ha : PySem.W.findIn K (.ref C) "__class__" = some (some (.builtin "object.__class__"))
  hn : PySem.W.specialIn K (.builtin "object.__class__") "__get__" = some (some (.builtin "getset_descriptor.__get__"))
  htk : PySem.W.takesIn K (.builtin "object.__class__") = some true
  hm : PySem.W.mroIn K C (.type "object") = some true
  kInt : PySem.W.kitOne K (.ref C) (.type "int") = some false
  kBool : PySem.W.kitOne K (.ref C) (.type "bool") = some false
  kTup : PySem.W.kitOne K (.ref C) (.type "tuple") = some false
  kLst : PySem.W.kitOne K (.ref C) (.type "list") = some false
  kStr : PySem.W.kitOne K (.ref C) (.type "str") = some false
/-- of what it can be asked which type it has -/
def Fine (K : PySem.W.Frag) : Dat → Prop
  | .obj C _ => ObF K C
  | .hnd _ => False
  | _ => True
theorem Rep.ty {A H : Hp} (s : Ex A H) {v : V} (h : Rep A v x) (hf : Fine K x) : TyX K H v (tyV x) := by
  cases h with
  | non => exact .base .non
  | bl b => exact .base (.bl b)
  | int i => exact .base (.int i)
  | str x => exact .base (.str x)
  | tup h _ => exact .base (.tup (s _ _ h))
  | lst h _ => exact .base (.lst (s _ _ h))
  | dic h _ => exact .base (.dT (s _ _ h))
  | obj h _ =>
    have F : ObF K _ := hf
    exact .base (.ins (s _ _ h) F.cl F.ha F.hn F.htk F.hm)
  | hnd p => exact hf.elim
theorem ev_isi {n : String} {b : Bool} (h : EvD te γ x) (hf : Fine K x) (hb : PySem.W.kitOne K (tyV x) (.type n) = some b) : EvD (tCB (rIsi K) (tCons te (tCons (tC (.ty n)) tNil))) γ (.bl b) := fun H0 A H σ k Q q =>
  h H0 A H σ k _ fun v B H1 g r => ⟨v, .ty n, _, .type n, b, rfl, .ty n, r.ty g.sub hf, hb, q _ B H1 g (.bl b)⟩
theorem et_dictIn {c : Bool} : EvD te γ (.bl c) → EvT (tB te) γ c := et_B
end
end Fr

set_option Elab.async false
set_option linter.all false
set_option maxRecDepth 100000
set_option maxHeartbeats 4000000
namespace Fr
open PySem PySem.Spec PyProof.Rows L2
open Evl (Ex)
/-! # the names of the built-ins are what they were -/
structure Bs (mg : Str → Option Value) : Prop where
  isinstance : mg "isinstance" = none
  int : mg "int" = none
  bool : mg "bool" = none
  tuple : mg "tuple" = none
  list : mg "list" = none
  str : mg "str" = none
  all : mg "all" = none
  len : mg "len" = none
  range : mg "range" = none
  reversed : mg "reversed" = none
  zip : mg "zip" = none
  sum : mg "sum" = none
  max : mg "max" = none
  min : mg "min" = none
  abs : mg "abs" = none
  sorted : mg "sorted" = none
/-- a def that is called -/
structure Cal (P : Program) (w0 : World) (K : PySem.W.Frag) (mg : Str → Option Value) (base : Heap) (x : Str) (ps : List Str) (k : Nat) (R : List Dat → Dat → Prop) (f : Addr) (fd : FuncData) : Prop where
  ok : FnOk P w0 K mg base CX0 k f fd ps (Pr R)
  bd : Binds K fd ps []
  at_ : mg x = some (.ref f)
  kp : PySem.W.keepIn K (.ref f) = true
section
variable {K : PySem.W.Frag} {γ : Gam} {ta tb te : TE} {x y z : Dat} {xs ys : List Dat}
/-! # more of operators -/
theorem r2_inI {i : Int} {ns : List Int} : R2D (rIn K false) (.int i) (.tup (ns.map .int)) (.bl (ns.any fun n => n == i)) := fun A H vx vy s r1 r2 Q q => by
  cases r1
  cases r2 with
  | @tup a us _ h1 R1 =>
    have e := R1.ints
    subst e
    refine ⟨a, ns.map V.int, rfl, .inr (SqT.of (s _ _ h1)), rfl, ?_, ?_⟩
    · rw [List.all_map]
      exact List.all_eq_true.mpr fun _ _ => rfl
    · have e : inV (.int i) (ns.map V.int) = ns.any fun n => n == i := by
        unfold inV
        rw [List.any_map]
        rfl
      show Q (.bl (if false = true then _ else inV (.int i) (ns.map V.int))) H
      rw [if_neg Bool.false_ne_true, e]
      exact q _ A H (Gr.refl s) (.bl _)
theorem r2_is0 : R2D (fun x y H Q => y = .non ∧ Q (.bl (decide (x = .non))) H) .non .non (.bl true) := fun A H vx vy s r1 r2 Q q => by
  cases r1
  cases r2
  exact ⟨rfl, q _ A H (Gr.refl s) (.bl true)⟩
theorem r2_is1 (h : x ≠ .non) : R2D (fun x y H Q => y = .non ∧ Q (.bl (decide (x = .non))) H) x .non (.bl false) := fun A H vx vy s r1 r2 Q q => by
  cases r2
  refine ⟨rfl, ?_⟩
  have e : decide (vx = V.non) = false := decide_eq_false fun z => by
    subst z
    cases r1
    exact h rfl
  rw [e]
  exact q _ A H (Gr.refl s) (.bl false)
end
theorem pg_tupK {X : Cx} {es : List Expr} {k : Nat} {t : TGs} {pos : Pos} {K : PySem.W.Frag} (n : Nat) (hK : X.K = K) (hc : X.calm = true) (h : PGs X es t) (hn : (assignEach es X.env).length = n := by rfl) (hst : (assignEach es X.env).findIdx? (·.1) = none := by rfl) : PG X (.Tuple es k pos) (gTup K n t) := by
  subst hK
  exact pg_tup hc h hn hst
/-! # the library's rules, the written part named K -/
section
variable {X : Cx} {K : PySem.W.Frag}
theorem ix_listK (e : X.K = K) : IxR X (rIxL K) := e ▸ ix_list
theorem ix_tupK (e : X.K = K) : IxR X (rIxT K) := e ▸ ix_tup
theorem sl_tupK (e : X.K = K) : SlR X (rSlA K) := e ▸ sl_tupA
theorem sl_listK (e : X.K = K) : SlR X (rSlL K) := e ▸ sl_list
theorem op_catK (e : X.K = K) : OpR X (binaryOp .Add) (rCatA K) := e ▸ op_catA
theorem op_eqK (e : X.K = K) (hu : X.A.units + 64 < cLine) : OpR X (compareOp .Eq) (rEqD K) := e ▸ op_eqD hu
theorem op_neK (e : X.K = K) (hu : X.A.units + 64 < cLine) : OpR X (compareOp .NotEq) (rNeD K) := e ▸ op_neD hu
theorem op_ltK (e : X.K = K) (hu : X.A.units < cLine) : OpR X (compareOp .Lt) (rLtT K) := e ▸ op_ltT hu
theorem op_inK (e : X.K = K) : OpR X (compareOp .In) (rIn K false) := e ▸ op_in_seq
theorem op_ninK (e : X.K = K) : OpR X (compareOp .NotIn) (rIn K true) := e ▸ op_notIn_seq
theorem op_inDK (e : X.K = K) (hu : X.A.units + 65 < cLine) : OpR X (compareOp .In) (rInD K) := e ▸ op_inD hu
theorem op_ninDK (e : X.K = K) (hu : X.A.units + 65 < cLine) : OpR X (compareOp .NotIn) (rNotInD K) := e ▸ op_notInD hu
theorem call_isiK' (e : X.K = K) : CallR X (.builtin "isinstance") (rIsi K) := e ▸ call_isi
theorem call_isiTK (e : X.K = K) : CallR X (.builtin "isinstance") (rIsiT K) := e ▸ call_isiT
theorem call_lenK (e : X.K = K) : CallR X (.builtin "len") (Evl.rLenS K) := e ▸ call_len_seq
theorem call_tupK (e : X.K = K) : CallR X (.type "tuple") (rTupOf K) := e ▸ call_tupOf
theorem call_listK (e : X.K = K) : CallR X (.type "list") (Evl.rListS K) := e ▸ (call_list_of : CallR X (.type "list") (Evl.rListS X.K))
theorem cr_allK (e : X.K = K) (hc : X.calm = true) : CallR X (.builtin "all") (rAll K) := e ▸ cr_all hc
theorem cr_sumK (e : X.K = K) (hc : X.calm = true) : CallR X (.builtin "sum") (rSum K) := e ▸ cr_sum hc
theorem pi_tupK {tg l : Expr} {tl : TE} (e : X.K = K) (hl : PE X l tl) : PI X tg l (iTup K tl) := e ▸ pi_tup hl
theorem pi_listK {tg l : Expr} {tl : TE} (e : X.K = K) (hl : PE X l tl) : PI X tg l (iList K tl) := e ▸ pi_list hl
end
/-! # isinstance -/
def isaInt : Dat → Bool
  | .int _ => true
  | .bl _ => true
  | _ => false
def isaBool : Dat → Bool
  | .bl _ => true
  | _ => false
def isaTup : Dat → Bool
  | .tup _ => true
  | _ => false
def isaLst : Dat → Bool
  | .lst _ => true
  | _ => false
def isaStr : Dat → Bool
  | .str _ => true
  | _ => false
theorem kit_int {K : PySem.W.Frag} (x : Dat) (hf : Fine K x) : PySem.W.kitOne K (tyV x) (.type "int") = some (isaInt x) := by
  cases x with
  | non => exact kit_ty (by decide +kernel : kitB "NoneType" "int" = some false)
  | bl => exact kit_ty (by decide +kernel : kitB "bool" "int" = some true)
  | int => exact kit_ty (by decide +kernel : kitB "int" "int" = some true)
  | str => exact kit_ty (by decide +kernel : kitB "str" "int" = some false)
  | tup => exact kit_ty (by decide +kernel : kitB "tuple" "int" = some false)
  | lst => exact kit_ty (by decide +kernel : kitB "list" "int" = some false)
  | dic => exact kit_ty (by decide +kernel : kitB "dict" "int" = some false)
  | obj C fs => exact (show ObF K C from hf).kInt
  | hnd p => exact hf.elim
theorem kit_bool {K : PySem.W.Frag} (x : Dat) (hf : Fine K x) : PySem.W.kitOne K (tyV x) (.type "bool") = some (isaBool x) := by
  cases x with
  | non => exact kit_ty (by decide +kernel : kitB "NoneType" "bool" = some false)
  | bl => exact kit_ty (by decide +kernel : kitB "bool" "bool" = some true)
  | int => exact kit_ty (by decide +kernel : kitB "int" "bool" = some false)
  | str => exact kit_ty (by decide +kernel : kitB "str" "bool" = some false)
  | tup => exact kit_ty (by decide +kernel : kitB "tuple" "bool" = some false)
  | lst => exact kit_ty (by decide +kernel : kitB "list" "bool" = some false)
  | dic => exact kit_ty (by decide +kernel : kitB "dict" "bool" = some false)
  | obj C fs => exact (show ObF K C from hf).kBool
  | hnd p => exact hf.elim
theorem kit_tup {K : PySem.W.Frag} (x : Dat) (hf : Fine K x) : PySem.W.kitOne K (tyV x) (.type "tuple") = some (isaTup x) := by
  cases x with
  | non => exact kit_ty (by decide +kernel : kitB "NoneType" "tuple" = some false)
  | bl => exact kit_ty (by decide +kernel : kitB "bool" "tuple" = some false)
  | int => exact kit_ty (by decide +kernel : kitB "int" "tuple" = some false)
  | str => exact kit_ty (by decide +kernel : kitB "str" "tuple" = some false)
  | tup => exact kit_ty (by decide +kernel : kitB "tuple" "tuple" = some true)
  | lst => exact kit_ty (by decide +kernel : kitB "list" "tuple" = some false)
  | dic => exact kit_ty (by decide +kernel : kitB "dict" "tuple" = some false)
  | obj C fs => exact (show ObF K C from hf).kTup
  | hnd p => exact hf.elim
theorem kit_lst {K : PySem.W.Frag} (x : Dat) (hf : Fine K x) : PySem.W.kitOne K (tyV x) (.type "list") = some (isaLst x) := by
  cases x with
  | non => exact kit_ty (by decide +kernel : kitB "NoneType" "list" = some false)
  | bl => exact kit_ty (by decide +kernel : kitB "bool" "list" = some false)
  | int => exact kit_ty (by decide +kernel : kitB "int" "list" = some false)
  | str => exact kit_ty (by decide +kernel : kitB "str" "list" = some false)
  | tup => exact kit_ty (by decide +kernel : kitB "tuple" "list" = some false)
  | lst => exact kit_ty (by decide +kernel : kitB "list" "list" = some true)
  | dic => exact kit_ty (by decide +kernel : kitB "dict" "list" = some false)
  | obj C fs => exact (show ObF K C from hf).kLst
  | hnd p => exact hf.elim
theorem kit_str {K : PySem.W.Frag} (x : Dat) (hf : Fine K x) : PySem.W.kitOne K (tyV x) (.type "str") = some (isaStr x) := by
  cases x with
  | non => exact kit_ty (by decide +kernel : kitB "NoneType" "str" = some false)
  | bl => exact kit_ty (by decide +kernel : kitB "bool" "str" = some false)
  | int => exact kit_ty (by decide +kernel : kitB "int" "str" = some false)
  | str => exact kit_ty (by decide +kernel : kitB "str" "str" = some true)
  | tup => exact kit_ty (by decide +kernel : kitB "tuple" "str" = some false)
  | lst => exact kit_ty (by decide +kernel : kitB "list" "str" = some false)
  | dic => exact kit_ty (by decide +kernel : kitB "dict" "str" = some false)
  | obj C fs => exact (show ObF K C from hf).kStr
  | hnd p => exact hf.elim
section
variable {K : PySem.W.Frag} {γ : Gam} {te : TE} {x : Dat}
theorem ev_isInt (h : EvD te γ x) (hf : Fine K x := by first | exact True.intro | assumption) : EvD (tCB (rIsi K) (tCons te (tCons (tC (.ty "int")) tNil))) γ (.bl (isaInt x)) := ev_isi h hf (kit_int x hf)
theorem ev_isBool (h : EvD te γ x) (hf : Fine K x := by first | exact True.intro | assumption) : EvD (tCB (rIsi K) (tCons te (tCons (tC (.ty "bool")) tNil))) γ (.bl (isaBool x)) := ev_isi h hf (kit_bool x hf)
theorem ev_isTup (h : EvD te γ x) (hf : Fine K x := by first | exact True.intro | assumption) : EvD (tCB (rIsi K) (tCons te (tCons (tC (.ty "tuple")) tNil))) γ (.bl (isaTup x)) := ev_isi h hf (kit_tup x hf)
theorem ev_isLst (h : EvD te γ x) (hf : Fine K x := by first | exact True.intro | assumption) : EvD (tCB (rIsi K) (tCons te (tCons (tC (.ty "list")) tNil))) γ (.bl (isaLst x)) := ev_isi h hf (kit_lst x hf)
theorem ev_isStr (h : EvD te γ x) (hf : Fine K x := by first | exact True.intro | assumption) : EvD (tCB (rIsi K) (tCons te (tCons (tC (.ty "str")) tNil))) γ (.bl (isaStr x)) := ev_isi h hf (kit_str x hf)
end
end Fr

set_option Elab.async false
set_option linter.all false
set_option maxRecDepth 100000
set_option maxHeartbeats 4000000
namespace Fr
open PySem PySem.Spec PyProof.Rows L2
open Evl (Ex)
section
variable {K : PySem.W.Frag} {γ δ : Gam} {ta tb te td ty : TE} {tt : TT} {x y z : Dat} {xs ys : List Dat} {es : List (List L2.Key × Dat)} {N M : Gam → Prop} {R : Dat → Gam → Prop} {g : TG} {js vs : List Nat} {α : Type}
/-! # None -/
def isNon : Dat → Bool
  | .non => true
  | _ => false
theorem non_dec {A : Hp} {v : V} (h : Rep A v x) : decide (v = V.non) = isNon x := by
  cases h <;> first | rfl | exact decide_eq_false fun z => nomatch z
theorem r2_isN : R2D (fun x y H Q => y = .non ∧ Q (.bl (decide (x = .non))) H) x .non (.bl (isNon x)) := fun A H vx vy s r1 r2 Q q => by
  cases r2
  refine ⟨rfl, ?_⟩
  rw [non_dec r1]
  exact q _ A H (Gr.refl s) (.bl _)
theorem r2_notN : R2D (fun x y H Q => y = .non ∧ Q (.bl (!decide (x = .non))) H) x .non (.bl (!isNon x)) := fun A H vx vy s r1 r2 Q q => by
  cases r2
  refine ⟨rfl, ?_⟩
  rw [non_dec r1]
  exact q _ A H (Gr.refl s) (.bl _)
/-! # dicts whose keys are tuples of ints -/
def kw (ns : List Int) : List L2.Key := ns.map Sum.inl
theorem kw_inj : ∀ {ns ms : List Int}, kw ns = kw ms → ns = ms
  | [], [], _ => rfl
  | [], m :: ms, h => nomatch h
  | n :: ns, [], h => nomatch h
  | n :: ns, m :: ms, h => by
    have h' : (Sum.inl n : L2.Key) :: kw ns = Sum.inl m :: kw ms := h
    injection h' with h1 h2
    rw [kw_inj h2, Sum.inl.inj h1]
def lk (es : List (List L2.Key × Dat)) (k : List L2.Key) : Option Dat := (es.find? fun p => decide (p.1 = k)).map (·.2)
theorem RepsK.val {H : Hp} (k : List L2.Key) : ∀ {kvs : List (List L2.Key × V)} {es : List (List L2.Key × Dat)}, RepsK H kvs es → (lk es k = none ∧ valV kvs k = none) ∨ ∃ x v, lk es k = some x ∧ valV kvs k = some v ∧ Rep H v x
  | _, _, .nil => .inl ⟨rfl, rfl⟩
  | _, _, @RepsK.cons _ k' v d kvs es h r => by
    unfold lk valV
    by_cases e : k' = k
    · rw [List.find?_cons_of_pos (by simpa using e), List.find?_cons_of_pos (by simpa using e)]
      exact .inr ⟨d, v, rfl, rfl, h⟩
    · rw [List.find?_cons_of_neg (by simpa using e), List.find?_cons_of_neg (by simpa using e)]
      exact RepsK.val k r
theorem RepsK.len {H : Hp} : ∀ {kvs : List (List L2.Key × V)} {es : List (List L2.Key × Dat)}, RepsK H kvs es → kvs.length = es.length
  | _, _, .nil => rfl
  | _, _, .cons _ r => by simp [RepsK.len r]
/-- a dict that may be read -/
def EvK (te : TE) (γ : Gam) (es : List (List L2.Key × Dat)) : Prop := ∀ H0 A H σ, Ok H0 A H σ γ → ∀ Q : VK, (∀ l kvs B H', Gr A H B H' → H' l = some (.dT kvs) → RepsK B kvs es → Q (.ref l) H') → te σ H Q
theorem ek_ofD (h : EvD te γ (.dic es)) : EvK te γ es := fun H0 A H σ k Q q => h H0 A H σ k _ fun v B H1 g r => by
  cases r with
  | dic ha hr => exact q _ _ B H1 g (g.sub _ _ ha) hr
theorem ek_var {i : Nat} (h : γ[i]? = some (Slot.od es)) : EvK (tVar i) γ es := fun H0 A H σ k Q q => by
  obtain ⟨l, vs, a, _, _, b, c⟩ := k.ownD i es h
  exact ⟨_, a, q l vs A H (Gr.refl k.sub) b c⟩
theorem dget_of {B H : Hp} {l b : Addr} {kvs : List (List L2.Key × V)} {ws : List V} {ns : List Int} (hl : H l = some (.dT kvs)) (hb : H b = some (.tup ws)) (e : ws = ns.map V.int) : DGet H l (.ref b) (valV kvs (kw ns)) := by
  have e2 : (kw ns).map kV = ns.map V.int := by
    unfold kw
    rw [List.map_map]
    rfl
  exact .inr ⟨kvs, kw ns, b, .inl hl, rfl, by rw [hb, e, e2], rfl⟩
theorem ev_dget {ns : List Int} (hd : EvK td γ es) (hy : EvD ty γ (w ns)) (h : lk es (kw ns) = some x) : EvD (tDGet td ty) γ x := fun H0 A H σ k Q q =>
  hd H0 A H σ k _ fun l kvs B H1 g1 h1 R1 => hy H0 B H1 σ (k.mono g1) _ fun v C H2 g2 r2 => by
    cases r2 with
    | @tup b ws _ hb rw_ =>
      have dg := dget_of (B := C) (g2.up _ _ h1) (g2.sub _ _ hb) rw_.ints
      rcases (R1.mono g2.view).val (kw ns) with ⟨e, _⟩ | ⟨x', v', e, e2, rv⟩
      · rw [e] at h
        cases h
      · rw [e] at h
        cases h
        rw [e2] at dg
        exact ⟨l, v', rfl, dg, q v' C H2 (g1.trans g2) rv⟩
theorem ev_din {ns : List Int} (hd : EvK td γ es) (hy : EvD ty γ (w ns)) : EvD (tDIn ty td) γ (.bl (lk es (kw ns)).isSome) := fun H0 A H σ k Q q =>
  hy H0 A H σ k _ fun v B H1 g1 r1 => hd H0 B H1 σ (k.mono g1) _ fun l kvs C H2 g2 h2 R2 => by
    cases r1 with
    | @tup b ws _ hb rw_ =>
      have dg := dget_of (B := C) h2 (g2.up _ _ (g1.sub _ _ hb)) rw_.ints
      rcases R2.val (kw ns) with ⟨e, e2⟩ | ⟨x', v', e, e2, _⟩
      · exact ⟨l, _, rfl, dg, by rw [e2]; rw [e] at q; exact q _ C H2 (g1.trans g2) (.bl _)⟩
      · exact ⟨l, _, rfl, dg, by rw [e2]; rw [e] at q; exact q _ C H2 (g1.trans g2) (.bl _)⟩
theorem ev_dnotin {ns : List Int} (hd : EvK td γ es) (hy : EvD ty γ (w ns)) : EvD (tDNotIn ty td) γ (.bl (!(lk es (kw ns)).isSome)) := fun H0 A H σ k Q q =>
  hy H0 A H σ k _ fun v B H1 g1 r1 => hd H0 B H1 σ (k.mono g1) _ fun l kvs C H2 g2 h2 R2 => by
    cases r1 with
    | @tup b ws _ hb rw_ =>
      have dg := dget_of (B := C) h2 (g2.up _ _ (g1.sub _ _ hb)) rw_.ints
      rcases R2.val (kw ns) with ⟨e, e2⟩ | ⟨x', v', e, e2, _⟩
      · exact ⟨l, _, rfl, dg, by rw [e2]; rw [e] at q; exact q _ C H2 (g1.trans g2) (.bl _)⟩
      · exact ⟨l, _, rfl, dg, by rw [e2]; rw [e] at q; exact q _ C H2 (g1.trans g2) (.bl _)⟩
/-! # numbers -/
theorem ev_neg {i : Int} (h : EvD te γ (.int i)) : EvD (tUn (rU fun i => .int (-i)) te) γ (.int (-i)) := fun H0 A H σ k Q q => h H0 A H σ k _ fun v B H1 g r => by
  cases r
  exact ⟨i, rfl, q _ B H1 g (.int _)⟩
theorem ev_bits {i : Int} (h : EvD te γ (.int i)) : EvD (tBits te) γ (.int (Builtin.Int.intBits i : Nat)) := fun H0 A H σ k Q q => h H0 A H σ k _ fun v B H1 g r => by
  cases r
  exact ⟨i, rfl, q _ B H1 g (.int _)⟩
theorem r2_modN {i j : Int} (h : j ≠ 0) : R2D (rI (fun _ j => j ≠ 0) fun i j => .int (i.fmod j)) (.int i) (.int j) (.int (i.fmod j)) := r2_I h fun _ => .int _
theorem r2_fdivN {i j : Int} (h : CDivN i j) : R2D (rI CDivN fun i j => .int (i.fdiv j)) (.int i) (.int j) (.int (i.fdiv j)) := r2_I h fun _ => .int _
theorem r2_shr {i j : Int} (h : 0 ≤ j) : R2D (rI (fun _ j => 0 ≤ j) fun i j => .int (i / 2 ^ j.toNat)) (.int i) (.int j) (.int (i / 2 ^ j.toNat)) := r2_I h fun _ => .int _
theorem r2_and {i j : Int} : R2D (rI0 fun i j => .int (Builtin.bitAnd i j)) (.int i) (.int j) (.int (Builtin.bitAnd i j)) := r2_I0 fun _ => .int _
theorem r2_mul {i j : Int} (h : CMul i j) : R2D (rI CMul fun i j => .int (i * j)) (.int i) (.int j) (.int (i * j)) := r2_I h fun _ => .int _
/-! # a list's truth -/
theorem et_truL (h : EvR te γ xs) : EvT (fun σ H Q => te σ H fun x H' => ∃ k, TruV K x H' k ∧ Q k H') γ (!xs.isEmpty) := fun H0 A H σ k Q q => h H0 A H σ k _ fun l us B H1 g h1 r => by
  refine ⟨!xs.isEmpty, .inl ⟨us, SqL.of h1, ?_⟩, q B H1 g⟩
  cases r <;> rfl
/-! # xs.extend(a tuple) -/
def rExtT (K : PySem.W.Frag) : V → List V → Hp → VK → Prop := fun x vs H Q => ∃ l b xs zs, x = .ref l ∧ vs = [.ref b] ∧ H l = some (.lst xs) ∧ SqT K H b zs ∧ xs.length + zs.length ≤ sizeLine ∧ Q .non (upd H l (.lst (xs ++ zs)))
end
theorem ext_meets (l b : Addr) (items items2 : Array Value) (n n2 : Nat) (dd : Option Addr) (sl : Array (Option Value)) (hs0 : ¬(!items.isEmpty && Builtin.List.listTooLong (items.size + items2.size)) = true) (hs1 : items.size ≤ sizeLine) (hs2 : items.size + items2.size ≤ sizeLine + 1) :
    Meets (Builtin.«list.extend» ⟨[.ref l, .ref b], []⟩) (fun _ R s => s.heap.get? l = some { cls := .type "list", dict := none, data := .seq items n, slots := #[] } ∧ s.heap.get? b = some { cls := .type "tuple", dict := dd, data := .seq items2 n2, slots := sl } ∧
      R (.ok (.ret Value.none)) { s with heap := s.heap.update l (Obj.mapSeq fun x => x ++ items2), toks := s.toks }) :=
  .of_wp fun prog w A R s h => by
    obtain ⟨hp, g, d, tk, os⟩ := s
    obtain ⟨hl, hb, h⟩ := h
    have f1 := AutoSeq1.idx_int
    have f2 := AutoSeq1.sub_tuple_tuple
    have f3 := AutoSeq1.sub_list_list
    have f4 := AutoSeq1.sub_tuple_list
    have f5 := AutoSeq1.sub_list_tuple
    have hz' : (items ++ items2).size ≤ sizeLine + 1 := by rw [Array.size_append]; exact hs2
    wp_walk using (PySem.wpAny_updateSeq hl rfl (hz := hs1) (_hz' := hz')), AutoSeq1.wpAny_loadPart' hl, AutoSeq1.wpAny_loadPart' hb
    exact ⟨_, rfl, h⟩
theorem mt_extT {X : Cx} : MtM X "list.extend" (rExtT X.K) := by
  intro pins s σ H x vs v us Q I rx rv h
  obtain ⟨l, b, xs, zs, rfl, rfl, hH, hB, hz, q⟩ := h
  cases rx
  obtain ⟨u, rfl, ru⟩ := rv.one
  cases ru
  obtain ⟨z, its, n, r, hl, e⟩ := I.lstM hH
  obtain ⟨its2, r2, ⟨⟨cls, dd, data, sl⟩, ho, hc, n2, hd⟩, hl2⟩ := I.tuple hB
  simp only at hc hd
  subst hc hd
  have len2 : its2.length = zs.length := r2.length.symm
  have both : its.toArray.size + its2.toArray.size ≤ sizeLine := by rw [List.size_toArray, List.size_toArray]; omega
  have short : ¬ (!its.toArray.isEmpty && Builtin.List.listTooLong (its.toArray.size + its2.toArray.size)) = true := by
    rw [notLongL both, Bool.and_false]
    exact Bool.false_ne_true
  refine call_meets F.slot_list_extend ⟨_, e, rfl⟩ F.entry_list_extend (F.args_list_extend_2 _ _) (ext_meets l b its.toArray its2.toArray n n2 dd sl short (by omega) (by omega)) ⟨e, ho, ?_⟩
  refine ⟨.non, _, I.lset (its' := its ++ its2) hH e (by simp) (r.append r2) (by rw [List.length_append]; omega), rfl, q⟩
section
variable {K : PySem.W.Frag} {γ : Gam} {te : TE} {xs ys : List Dat} {N : Gam → Prop} {R : Dat → Gam → Prop}
theorem run_ext {i : Nat} (h : γ[i]? = some (Slot.o xs)) (he : EvD te γ (.tup ys)) (hz : xs.length + ys.length ≤ sizeLine) (hn : N (γ.set i (.o (xs ++ ys)))) : Run (tDrop (tBM K "list" (rExtT K) (tVar i) (tCons te tNil))) γ N R := fun A0 H0 A H σ g0 k D dn dr => by
  obtain ⟨l, vs, e, h0, hA, hH, r⟩ := k.own i xs h
  refine ⟨.ref l, e, .inl ⟨rfl, vs, SqL.of hH⟩, he H0 A H σ k _ fun v B H1 g1 r1 => ?_⟩
  have k1 := k.mono g1
  have hB := g1.hid l _ hH True.intro hA
  cases r1 with
  | @tup b us _ hb ru =>
    refine ⟨l, b, vs, us, rfl, rfl, g1.up _ _ hH, SqT.of (g1.sub _ _ hb), by rw [r.len, ru.len]; exact hz, ?_⟩
    exact dn _ B _ σ hn ((g0.trans g1).mut h0 hB) g1.view (k1.change h e ((r.mono g1.view).app ru))
end
end Fr

set_option Elab.async false
set_option linter.all false
set_option maxRecDepth 100000
set_option maxHeartbeats 4000000
namespace Fr
open PySem PySem.Spec PyProof.Rows L2
open Evl (Ex)
theorem tkr {prog : Program} {w0 : World} {κ : Type} [DecidableEq κ] {knd : PySem.KeyKind prog w0 κ} {A : Around} (hu : A.units + 1 < cLine) : (tupleKind knd).room A := by
  show A.units < cLine
  omega
/-- a new dict gets an entry under a tuple -/
theorem dict_set_t {X : Cx} {pins : List (Addr × Obj)} {σ : L2.St} {H : Hp} {s : Shared} {E : Value → Shared → Prop} {D c : Addr} {kvs : List (List L2.Key × V)} {k : List L2.Key} {v : V} {u r : Value} {Q : Unit → Shared → Prop} (hu : X.A.units + 1 < cLine) (I : Inv X pins σ H s) (hD : H D = some (.dT kvs))
    (hz : kvs.length < sizeLine) (hc : H c = some (.tup (k.map kV))) (ry : L2.RelV (.ref c) u) (rv : L2.RelV v r) (h : ∀ s', Inv X pins σ (upd H D (.dT (putK kvs k v))) s' → Q () s') : wpAny (model X.prog X.w) X.A (dictSet D u r) Q E s := by
  cases (show u = Value.ref c from ry)
  obtain ⟨z, hd, ws, rel, dd⟩ := dt_of I.hok hD
  have room : ws.length ≤ sizeLine := by rw [← Paired.length rel]; exact z
  have more : (putK kvs k v).length ≤ sizeLine := by have := length_putK kvs k v; omega
  refine wpAny_dictSet_heap (hsz := room) (tkr hu) (key_of I.hok hc) dd fun h' dd' hs => h _ ?_
  obtain ⟨q, es, ep, hq, h2, h3, h4, _, h5⟩ := dd'
  refine d_write I (by rw [hD]; exact True.intro) hs ⟨q, hq⟩ ⟨more, hd, _, (rel.put k hc rv).keeps fun b ys eb => ?_, q, es, ep, hq, h2, h3, h4, h5⟩
  rw [upd_ne (ne_of eb hD (fun z => nomatch z))]
  exact eb
section
variable {X : Cx}
/-- one turn of {k: v for target in iter if ..}, keys tuples: from x to what Nx says -/
def tTurnT (g : TG) (tt : TT) (tk tv : TE) (vs : List Nat) (σ : L2.St) (D : Addr) (Nx : Hp → Prop) (x : V) (H : Hp) : Prop :=
  g x (wipe σ vs) H fun σ2 H2 => wipe σ2 vs = wipe σ vs ∧ tt σ2 H2 fun b H3 =>
    if b = true then tk σ2 H3 fun y H4 => tv σ2 H4 fun z H5 => ∃ kvs k c, y = .ref c ∧ H5 c = some (.tup (k.map kV)) ∧ H5 D = some (.dT kvs) ∧ kvs.length < sizeLine ∧ Nx (upd H5 D (.dT (putK kvs k z))) else Nx H3
/-- the whole: D the new dict, W a word that falls -/
def tDcT (wi : TI) (g : TG) (tt : TT) (tk tv : TE) (vs : List Nat) : TE := fun σ H Q => wi σ H fun J H1 => ∀ D, H1 D = none → ∃ W : Nat → Nat → Hp → Prop, (∃ m, W 0 m (upd H1 D (.dT []))) ∧
  ∀ i m H, W i m H → (J.stop i H ∧ Q (.ref D) H) ∨ (J.go i H ∧ ∃ Nx : Hp → Prop, (∀ H', Nx H' → ∃ m', m' < m ∧ W (i + 1) m' H') ∧ ∀ x H', J.yld i H x H' → tTurnT g tt tk tv vs σ D Nx x H')
/-- the block's context -/
abbrev Bk (X : Cx) (scope : Scope) (s : Shared) (H : Hp) (C : Addr) (cl : List (Str × Addr)) (fp : List Addr) : Cx := X.blk s H scope (compEnvC scope cl C X.env) fp
theorem dcT_run {pins : List (Addr × Obj)} {s : Shared} {σ : L2.St} {H : Hp} {Q : VK} {kx vx tg iter : Expr} {ifs : List Expr} {scope : Scope} {own : List (Str × Nat)} {pos pos' : Pos} {wi : TI} {g : TG} {tt : TT} {tk tv : TE} {use : Option (Value → Sem Unit)} {Qf : Value → Shared → Prop} (hu : X.A.units + 1 < cLine)
    (calm : X.calm = true) (nd : X.N.Nodup) (I : Inv X pins σ H s) (walk : PI X tg iter wi) (blk : BlkOk X.N X.env.scope scope own) (pg : ∀ s H C cl fp, PG (Bk X scope s H C cl fp) tg g) (pt : ∀ s H C cl fp, PTs (Bk X scope s H C cl fp) ifs tt) (pk : ∀ s H C cl fp, PE (Bk X scope s H C cl fp) kx tk) (pv : ∀ s H C cl fp, PE (Bk X scope s H C cl fp) vx tv)
    (plain : ∀ x, foldedSetIterable iter X.env x = pure x) (h : tDcT wi g tt tk tv (own.map (·.2)) σ H Q)
    (back : ∀ D C s' m H', Inv X pins σ H' s' → Q (.ref D) H' → s'.heap.Ns C m → FpOk X pins H' C → compPost (model X.prog X.w) X.A X.xe use Qf (.ref D) C (.ok .next) s') :
    wpAny (model X.prog X.w) X.A (comprehension (.DictComp kx vx [⟨tg, iter, ifs, 0⟩] scope pos) scope X.env pos' newDict false (eval iter X.env) use) Qf X.xe s := by
  have free : ∀ y ∈ scope.names, y.2 = .free → ∃ c, X.env.cells.lookup y.1 = some c := fun y hy e => (blk.free y hy e).elim (fun k => I.ok.has _ (.inl k)) fun k => I.ok.has _ (.inr k)
  refine wpAny_comprehension_free (use := use) rfl plain (closure_ok free) blk.kind (fun y hy e => by rw [blk.uniq y hy, e]) (thn (walk.run pins s σ H _ I h) fun xv sA hx => thn hx fun itv sB hB => ?_)
  obtain ⟨it, fp, tn, J, HB, rfl, IB, T, stB, fB, q⟩ := hB
  refine wpAny_newObj_type (newEnv_comp ?_)
  generalize eD : sB.heap.objs.size = D
  have freeD : HB D = none := IB.hok.fresh (Nat.le_of_eq eD)
  obtain ⟨W, ⟨m0, w0⟩, turn⟩ := q D freeD
  generalize eC : ({ sB with heap := sB.heap.push { cls := .type "dict", data := .dict #[] } } : Shared) = sC
  have IC : Inv X pins σ (upd HB D (.dT [])) sC := by
    subst eC
    refine IB.laid (t' := sB.toks) (fun b o e => Heap.get?_push_of_some _ e) (Nat.le_of_eq eD) ?_
    subst eD
    exact dt_empty sB.heap IB.big
  have hpC : sC.heap = sB.heap.push { cls := .type "dict", data := .dict #[] } := by rw [← eC]
  have low : ∀ b ∈ fp, b < sB.heap.objs.size := fun b hb => let ⟨_, e, _⟩ := T.obj _ _ stB b hb; Heap.lt_size e
  have fC : ∀ b ∈ fp, FpOk X pins (upd HB D (.dT [])) b ∧ b < sC.heap.objs.size := fun b hb => by
    refine ⟨⟨?_, (fB b hb).2⟩, by rw [hpC, Heap.size_push]; exact Nat.lt_succ_of_lt (low b hb)⟩
    rw [upd_ne (by rw [← eD]; exact Nat.ne_of_lt (low b hb))]
    exact (fB b hb).1
  have stC : tn 0 sC.heap := T.keep _ _ _ stB fun b _ o e => by rw [hpC]; exact Heap.get?_push_of_some _ e
  have IE := block_start IC blk nd fC
  have noFp : ∀ b ∈ fp, (upd HB D (.dT [])) b = none := fun b hb => (fC b hb).1.1
  have pg' := pg sC (upd HB D (.dT [])) sC.heap.objs.size (cellsFrom (sC.heap.objs.size + 1) scope.names (cloFrom X.env.cells scope.names [])) fp
  have pt' := pt sC (upd HB D (.dT [])) sC.heap.objs.size (cellsFrom (sC.heap.objs.size + 1) scope.names (cloFrom X.env.cells scope.names [])) fp
  have pk' := pk sC (upd HB D (.dT [])) sC.heap.objs.size (cellsFrom (sC.heap.objs.size + 1) scope.names (cloFrom X.env.cells scope.names [])) fp
  have pv' := pv sC (upd HB D (.dT [])) sC.heap.objs.size (cellsFrom (sC.heap.objs.size + 1) scope.names (cloFrom X.env.cells scope.names [])) fp
  show codeAny _ _ (.compStart (.DictComp kx vx [⟨tg, iter, ifs, 0⟩] scope pos) 0 (.ref it) (.ref D) (compEnvC scope (cellsFrom (sC.heap.objs.size + 1) scope.names (cloFrom X.env.cells scope.names [])) sC.heap.objs.size X.env)) (compPost _ X.A X.xe use Qf (.ref D) sC.heap.objs.size) { sC with heap := pushCells (sC.heap.push { cls := .type "dict", data := .dict #[] }) scope.names }
  unfold Bk at pg' pt' pk' pv'
  generalize eEnv : compEnvC scope (cellsFrom (sC.heap.objs.size + 1) scope.names (cloFrom X.env.cells scope.names [])) sC.heap.objs.size X.env = env2 at IE pg' pt' pk' pv' ⊢
  have locE : env2.locals = sC.heap.objs.size := by subst eEnv; rfl
  generalize eHC : upd HB D (.dT []) = HC at IC IE pg' pt' pk' pv' w0 noFp fC
  generalize eS : ({ sC with heap := pushCells (sC.heap.push { cls := .type "dict", data := .dict #[] }) scope.names } : Shared) = sE at IE ⊢
  have stE : tn 0 sE.heap := T.keep _ _ _ stC fun b _ o e => by rw [← eS]; exact pushCells_keeps _ _ _ _ (Heap.get?_push_of_some _ e)
  have standing : ∀ {σ' : L2.St} {H' : Hp} {s' : Shared}, Inv (X.blk sC HC scope env2 fp) [] σ' H' s' → (∀ b ∈ fp, H' b = none) → ∀ b ∈ fp, FpOk (X.blk sC HC scope env2 fp) [] H' b := fun {σ' H' s'} I' hn b hb =>
    ⟨hn b hb, (I'.ok.exf b hb).1, I'.ok.exfs b hb, .inl hb, fun x c e => (I'.ok.exf b hb).2 x c e, fun p hp => absurd (show p ∈ ([] : List (Addr × Obj)) ++ [] from hp) (by simp)⟩
  have loop : codeAny (model X.prog X.w) X.A (.compLoop (.DictComp kx vx [⟨tg, iter, ifs, 0⟩] scope pos) 0 (.ref it) (.ref D) env2) (compPost (model X.prog X.w) X.A X.xe use Qf (.ref D) sC.heap.objs.size) sE := by
    refine compLoop_anyD (fun n s' => ∃ i H', Inv (X.blk sC HC scope env2 fp) [] (wipe σ (own.map (·.2))) H' s' ∧ tn i s'.heap ∧ (∀ b ∈ fp, H' b = none) ∧ W i n H') ?_ m0 ⟨0, HC, IE, stE, noFp, w0⟩
    rintro n sF ⟨i, HF, IF, stF, nF, wF⟩
    rcases turn i n HF wF with ⟨ends, done⟩ | ⟨goes, Nx, falls, step⟩
    · refine thnF (T.done (X.blk sC HC scope env2 fp) rfl rfl rfl calm i [] sF _ HF (fun _ _ => False) IF (standing IF nF) stF ends) fun r sG ⟨hr, IG⟩ => ?_
      subst hr
      have home : Inv X pins σ HF sG := IC.call' (ch := fp) IG.os IG.base IG.hok IG.bare fun b hb => ⟨(fC b hb).1.2.2.2.1, (fC b hb).1.2.1, (fC b hb).1.2.2.2.2.1, (fC b hb).1.2.2.2.2.2⟩
      have none2 : HF sC.heap.objs.size = none := locE ▸ (show HF env2.locals = none from IG.free)
      obtain ⟨m, ns, _⟩ := IG.loc
      have ns : sG.heap.Ns env2.locals m := ns
      rw [locE] at ns
      exact back D sC.heap.objs.size sG m HF home done ns (IC.fpOk (Nat.le_refl _) none2)
    · refine thnF (T.item (X.blk sC HC scope env2 fp) rfl rfl rfl calm i [] sF _ HF (fun _ _ => False) IF (standing IF nF) stF goes) fun r sG ⟨u, hr, hG⟩ => ?_
      subst hr
      refine thnF hG fun _ sK ⟨x, HK, IK, rK, yK, stK, nK⟩ => ?_
      have pinned := IK.pinned (standing IK nK) (T.obj _ _ stK)
      refine thnF (pg'.run _ sK _ HK x u _ pinned rK (step x HK yK)) fun _ sL ⟨σL, HL, IL, eL, qL⟩ => ?_
      refine thnF (pt'.run _ sL σL HL _ IL qL) fun b sM ⟨HM, IM, qM⟩ => ?_
      have onward : ∀ {s' : Shared} {H' : Hp}, Inv (X.blk sC HC scope env2 fp) ([] ++ pinsAt fp sK.heap) σL H' s' → Nx H' → ∃ m, m < n ∧ ∃ i H', Inv (X.blk sC HC scope env2 fp) [] (wipe σ (own.map (·.2))) H' s' ∧ tn i s'.heap ∧ (∀ b ∈ fp, H' b = none) ∧ W i m H' := fun {s' H'} I' nx => by
        obtain ⟨m', hm, w'⟩ := falls H' nx
        have kept : ∀ b ∈ fp, ∀ o, sK.heap.get? b = some o → s'.heap.get? b = some o ∧ H' b = none := fun b hb o e =>
          let z := I'.pin (b, o) (List.mem_append_right _ (List.mem_append_right _ (mem_pinsAt hb e)))
          ⟨z.1, z.2.1⟩
        have same : (wipe σ (own.map (·.2))).length = σL.length := by rw [← eL, wipe_length]
        refine ⟨m', hm, i + 1, H', (I'.unpinned (pins := [])).weak same (fun j v e => ?_), T.keep _ _ _ stK fun b hb o e => (kept b hb o e).1, fun b hb => ?_, w'⟩
        · rw [← eL] at e
          exact (wipe_some e).1
        · obtain ⟨o, e, _⟩ := T.obj _ _ stK b hb
          exact (kept b hb o e).2
      cases b with
      | false =>
        simp only [Bool.false_eq_true, if_false] at qM ⊢
        exact onward IM qM
      | true =>
        simp only [if_true] at qM ⊢
        refine thnF (pk'.run _ sM σL HM _ IM qM) fun z sO ⟨yk, HO', IO, rO, qO⟩ => ?_
        refine thnF (pv'.run _ sO σL HO' _ IO qO) fun z2 sP ⟨yv, HP, IP, rP, kvs, k, kc, ek, hkc, hDP, hzP, nx⟩ => ?_
        subst ek
        exact dict_set_t (X := X.blk sC HC scope env2 fp) hu IP hDP hzP hkc rO rP fun sQ IQ => onward IQ nx
  exact codeAny_compStart_dict loop (T.self X.A 0 _ _ _ stE loop)
theorem pe_dcT {kx vx tg iter : Expr} {ifs : List Expr} {scope : Scope} {own : List (Str × Nat)} {pos : Pos} {wi : TI} {g : TG} {tt : TT} {tk tv : TE} (hu : X.A.units + 1 < cLine) (calm : X.calm = true) (nd : X.N.Nodup) (walk : PI X tg iter wi) (blk : BlkOk X.N X.env.scope scope own) (pg : ∀ s H C cl fp, PG (Bk X scope s H C cl fp) tg g)
    (pt : ∀ s H C cl fp, PTs (Bk X scope s H C cl fp) ifs tt) (pk : ∀ s H C cl fp, PE (Bk X scope s H C cl fp) kx tk) (pv : ∀ s H C cl fp, PE (Bk X scope s H C cl fp) vx tv) (plain : ∀ x, foldedSetIterable iter X.env x = pure x := by intro _; rfl) :
    PE X (.DictComp kx vx [⟨tg, iter, ifs, 0⟩] scope pos) (tDcT wi g tt tk tv (own.map (·.2))) := by
  refine ⟨fun pins s σ H Q I h => ?_⟩
  rw [arm_eval_DictComp]
  refine dcT_run hu calm nd I walk blk pg pt pk pv plain h fun D C s' m H' I' q hn f => ⟨m, hn, fun h'' sb => ?_⟩
  obtain ⟨f0, f1, f2, f3, f4, f5⟩ := f
  exact ⟨.ref D, H', I'.turned (t' := s'.toks) (fun b o hb e => (sb.2 b hb).trans e) f0 f1 f3 f4 f5, rfl, q⟩
end
end Fr

set_option Elab.async false
set_option linter.all false
set_option maxRecDepth 100000
set_option maxHeartbeats 4000000
namespace Fr
open PySem PySem.Spec PyProof.Rows L2
open Evl (Ex)
/-! # a dict comprehension gives -/
def putE (es : List (List L2.Key × Dat)) (k : List L2.Key) (x : Dat) : List (List L2.Key × Dat) :=
  if (es.any fun e => decide (e.1 = k)) = true then es.map (fun e => if e.1 = k then (e.1, x) else e) else es ++ [(k, x)]
section
variable {H : Hp}
theorem RepsK.any (k : List L2.Key) : ∀ {kvs : List (List L2.Key × V)} {es : List (List L2.Key × Dat)}, RepsK H kvs es → (kvs.any fun e => decide (e.1 = k)) = (es.any fun e => decide (e.1 = k))
  | _, _, .nil => rfl
  | _, _, .cons h r => by
    rw [List.any_cons, List.any_cons, RepsK.any k r]
theorem RepsK.app : ∀ {vs us : List (List L2.Key × V)} {ds es : List (List L2.Key × Dat)}, RepsK H vs ds → RepsK H us es → RepsK H (vs ++ us) (ds ++ es)
  | _, _, _, _, .nil, s => s
  | _, _, _, _, .cons h r, s => .cons h (RepsK.app r s)
theorem RepsK.repl {k : List L2.Key} {v : V} {x : Dat} (hv : Rep H v x) : ∀ {kvs : List (List L2.Key × V)} {es : List (List L2.Key × Dat)}, RepsK H kvs es → RepsK H (kvs.map fun e => if e.1 = k then (e.1, v) else e) (es.map fun e => if e.1 = k then (e.1, x) else e)
  | _, _, .nil => .nil
  | _, _, @RepsK.cons _ k' v' d' kvs es h r => by
    rw [List.map_cons, List.map_cons]
    by_cases e : k' = k
    · rw [if_pos e, if_pos e]
      exact .cons hv (RepsK.repl hv r)
    · rw [if_neg e, if_neg e]
      exact .cons h (RepsK.repl hv r)
theorem RepsK.put {k : List L2.Key} {v : V} {x : Dat} {kvs : List (List L2.Key × V)} {es : List (List L2.Key × Dat)} (r : RepsK H kvs es) (hv : Rep H v x) : RepsK H (putK kvs k v) (putE es k x) := by
  unfold putK putE
  rw [r.any k]
  split
  · exact r.repl hv
  · exact r.app (.cons hv .nil)
theorem putE_len (es : List (List L2.Key × Dat)) (k : List L2.Key) (x : Dat) : (putE es k x).length ≤ es.length + 1 := by
  unfold putE
  split <;> simp
end
def putAll {α : Type} (l : List α) (kf : α → List Int) (vf : α → Dat) : List (List L2.Key × Dat) := l.foldl (fun es a => putE es (kw (kf a)) (vf a)) []
theorem putAll_more {α : Type} {l : List α} {kf : α → List Int} {vf : α → Dat} {i : Nat} {a : α} (h : l[i]? = some a) : putAll (l.take (i + 1)) kf vf = putE (putAll (l.take i) kf vf) (kw (kf a)) (vf a) := by
  unfold putAll
  rw [List.take_add_one, h, List.foldl_append]
  rfl
theorem putAll_len {α : Type} (kf : α → List Int) (vf : α → Dat) : ∀ l : List α, (putAll l kf vf).length ≤ l.length := by
  intro l
  have gen : ∀ (l : List α) (es : List (List L2.Key × Dat)), (l.foldl (fun es a => putE es (kw (kf a)) (vf a)) es).length ≤ es.length + l.length := by
    intro l
    induction l with
    | nil => intro es; simp
    | cons a l ih =>
      intro es
      have h1 := ih (putE es (kw (kf a)) (vf a))
      have h2 := putE_len es (kw (kf a)) (vf a)
      rw [List.foldl_cons, List.length_cons]
      omega
  have := gen l []
  simpa [putAll] using this
/-- a new dict of its own -/
def EvM (te : TE) (γ : Gam) (es : List (List L2.Key × Dat)) : Prop := ∀ H0 A H σ, Ok H0 A H σ γ → ∀ Q : VK, (∀ l kvs B H', Gr A H B H' → H l = none → B l = none → H' l = some (.dT kvs) → RepsK B kvs es → Q (.ref l) H') → te σ H Q
section
variable {K : PySem.W.Frag} {γ δ : Gam} {ta tb te tl tk tv : TE} {tt : TT} {x y z : Dat} {xs ys : List Dat} {es : List (List L2.Key × Dat)} {N M : Gam → Prop} {R : Dat → Gam → Prop} {g : TG} {js vs : List Nat} {α : Type} {tu : TS}
theorem em_is {es' : List (List L2.Key × Dat)} (h : EvM te γ es) (e : es = es') : EvM te γ es' := e ▸ h
theorem ev_ofM (h : EvM te γ es) : EvD te γ (.dic es) := fun H0 A H σ k Q q => h H0 A H σ k _ fun l vs B H1 g hl hB h1 r => by
  have g2 := g.show h1 hl hB
  exact q _ _ H1 g2 (.dic upd_same (r.mono (Ex.new hB)))
theorem run_asgM {i : Nat} (h : EvM te γ es) (hn : N (γ.set i (.od es))) : Run (tAsg te (gName i)) γ N R := fun A0 H0 A H σ g0 k D dn dr =>
  h H0 A H σ k _ fun l vs B H1 g1 hl hB h1 r1 => by
    have k1 := k.mono g1
    refine dn _ B H1 _ hn (g0.trans g1) g1.view (k1.setM i (fun j t hj mt e => ?_) (fun _ z => nomatch z) (fun _ _ z => nomatch z) (fun _ _ z => nomatch z) (fun _ z => nomatch z) fun _ z => by cases z; exact ⟨vs, Evl.fresh_back g0.up hl, hB, h1, r1⟩)
    obtain ⟨a, o, e2, _, _, e3⟩ := k.addr hj mt
    rw [e2] at e
    cases e
    rw [hl] at e3
    cases e3
def CPd (l : List α) (kf : α → List Int) (vf : α → Dat) (B H1 : Hp) (D : Addr) (i : Nat) (H' : Hp) : Prop := ∃ C kvs, Gr B H1 C H' ∧ C D = none ∧ H' D = some (.dT kvs) ∧ RepsK C kvs (putAll (l.take i) kf vf)
theorem cpd_zero {l : List α} {kf : α → List Int} {vf : α → Dat} {B H1 : Hp} {D : Addr} (s : Ex B H1) (hD : H1 D = none) : CPd l kf vf B H1 D 0 (upd H1 D (.dT [])) :=
  ⟨B, [], Gr.newU s hD, Evl.fresh_back s hD, upd_same, .nil⟩
theorem cpd_turn {l : List α} {kf : α → List Int} {vf : α → Dat} {H0 B H1 : Hp} {σ : L2.St} {D : Addr} {i : Nat} {H' H'' : Hp} {a : α} {xv : V} (k : Ok H0 B H1 σ γ) (hD : H1 D = none) (hz : l.length < sizeLine) (hi : l[i]? = some a) (p : CPd l kf vf B H1 D i H')
    (e2 : H'' = H') (hx : ∀ C, Ex B C → Rep C xv x) (hj : ∀ j ∈ js, j ∈ vs) (ht : Tg g js (wipeG γ vs) x δ) (hf : EvT tt δ true) (hk : EvD tk δ (w (kf a))) (he : EvD tv δ (vf a)) :
    tTurnT g tt tk tv vs σ D (CPd l kf vf B H1 D (i + 1)) xv H'' := by
  subst e2
  obtain ⟨C, kvs, gC, cD, hAcc, rAcc⟩ := p
  refine ht H0 C H'' _ xv ((k.mono gC).wipe vs) (hx C gC.view) _ fun σ2 k2 hl hoff => ⟨wipe_back hl hoff hj, ?_⟩
  refine hf H0 C H'' σ2 k2 _ fun C2 H3 g2 => ?_
  have cD2 : C2 D = none := g2.hid D _ hAcc True.intro cD
  refine hk H0 C2 H3 σ2 (k2.mono g2) _ fun kv C3 H4 g3 r3 => ?_
  have cD3 : C3 D = none := g3.hid D _ (g2.up _ _ hAcc) True.intro cD2
  refine he H0 C3 H4 σ2 (k2.mono (g2.trans g3)) _ fun yv C4 H5 g4 r4 => ?_
  have hD5 : H5 D = some (.dT kvs) := g4.up _ _ (g3.up _ _ (g2.up _ _ hAcc))
  have cD4 : C4 D = none := g4.hid D _ (g3.up _ _ (g2.up _ _ hAcc)) True.intro cD3
  have lz : kvs.length ≤ i := by
    rw [rAcc.len]
    exact Nat.le_trans (putAll_len _ _ _) (by rw [List.length_take]; exact Nat.min_le_left _ _)
  have il : i < l.length := (List.getElem?_eq_some_iff.mp hi).1
  cases r3 with
  | @tup c ws _ hc rw_ =>
    have ew : ws = (kw (kf a)).map kV := by
      rw [rw_.ints]
      unfold kw
      rw [List.map_map]
      rfl
    refine ⟨kvs, kw (kf a), c, rfl, by rw [g4.up _ _ (g3.sub _ _ hc), ew], hD5, by omega, C4, _, (((gC.trans g2).trans g3).trans g4).mut hD cD4, cD4, upd_same, ?_⟩
    rw [putAll_more hi]
    exact (rAcc.mono ((g2.view.trans g3.view).trans g4.view)).put r4
/-- over anything that walks -/
theorem dcT_it {J : It} {n : Nat} {G : Hp → Prop} {Y : Nat → Hp → V → Hp → Prop} (wk : Walk J n G Y) {σ : L2.St} {H1 : Hp} {D : Addr} {Qd : Hp → Prop} (Pv : Nat → Hp → Prop) (h0 : Pv 0 (upd H1 D (.dT []))) (hG : ∀ i H, i ≤ n → Pv i H → G H)
    (hs : ∀ i x H H', i < n → Pv i H → Y i H x H' → tTurnT g tt tk tv vs σ D (Pv (i + 1)) x H') (hd : ∀ H, Pv n H → Qd H) :
    ∃ W : Nat → Nat → Hp → Prop, (∃ m, W 0 m (upd H1 D (.dT []))) ∧ ∀ i m H, W i m H → (J.stop i H ∧ Qd H) ∨ (J.go i H ∧ ∃ Nx : Hp → Prop, (∀ H', Nx H' → ∃ m', m' < m ∧ W (i + 1) m' H') ∧ ∀ x H', J.yld i H x H' → tTurnT g tt tk tv vs σ D Nx x H') := by
  refine ⟨fun i m H => m + i = n ∧ Pv i H, ⟨n, rfl, h0⟩, ?_⟩
  rintro i m H ⟨e, p⟩
  have q := hG i H (by omega) p
  cases m with
  | zero =>
    have e : i = n := by omega
    subst e
    exact .inl ⟨wk.stops H q, hd H p⟩
  | succ m => exact .inr ⟨wk.goes i H (by omega) q, Pv (i + 1), fun H' p' => ⟨m, by omega, by omega, p'⟩, fun x H' y => hs i x H H' (by omega) p (wk.yields i H x H' (by omega) q y)⟩
theorem em_dcT {l : List α} {enc : α → Dat} {kf : α → List Int} {vf : α → Dat} (h : EvD tl γ (.tup (l.map enc))) (hj : ∀ j ∈ js, j ∈ vs) (hz : l.length < sizeLine)
    (hs : ∀ a ∈ l, ∃ δ, Tg g js (wipeG γ vs) (enc a) δ ∧ EvT tt δ true ∧ EvD tk δ (w (kf a)) ∧ EvD tv δ (vf a)) : EvM (tDcT (iTup K tl) g tt tk tv vs) γ (putAll l kf vf) := fun H0 A H σ k Q q =>
  h H0 A H σ k _ fun sv B H1 g1 r1 => by
    cases r1 with
    | @tup a us _ ha ru =>
      have hlen : us.length = l.length := by rw [ru.len, List.length_map]
      refine ⟨a, rfl, ⟨us, SqT.of (g1.sub _ _ ha)⟩, fun D hD => dcT_it (walk_tup (K := K) (a := a) (xs := us)) (CPd l kf vf B H1 D) (cpd_zero g1.sub hD) (fun i H' _ p => ?_) (fun i xv H' H'' hi p y => ?_) (fun H' p => ?_)⟩
      · obtain ⟨C, acc, gC, _⟩ := p
        exact SqT.of (gC.up _ _ (g1.sub _ _ ha))
      · obtain ⟨e2, hi⟩ := y
        obtain ⟨d, hd, rd⟩ := ru.getV hi
        rw [List.getElem?_map] at hd
        cases e : l[i]? with
        | none =>
          rw [e] at hd
          cases hd
        | some b =>
          rw [e] at hd
          cases hd
          obtain ⟨δ, t1, t2, t3, t4⟩ := hs b (List.mem_of_getElem? e)
          exact cpd_turn (k.mono g1) hD hz e p e2 (fun C ex => rd.mono ex) hj t1 t2 t3 t4
      · obtain ⟨C, acc, gC, cD, hAcc, rAcc⟩ := p
        rw [hlen, List.take_length] at rAcc
        exact q D acc C H' (g1.trans gC) (Evl.fresh_back g1.up hD) cD hAcc rAcc
theorem em_dcL {l : List α} {enc : α → Dat} {kf : α → List Int} {vf : α → Dat} (h : EvR tl γ (l.map enc)) (hj : ∀ j ∈ js, j ∈ vs) (hz : l.length < sizeLine)
    (hs : ∀ a ∈ l, ∃ δ, Tg g js (wipeG γ vs) (enc a) δ ∧ EvT tt δ true ∧ EvD tk δ (w (kf a)) ∧ EvD tv δ (vf a)) : EvM (tDcT (iList K tl) g tt tk tv vs) γ (putAll l kf vf) := fun H0 A H σ k Q q =>
  h H0 A H σ k _ fun a us B H1 g1 ha ru => by
    have hlen : us.length = l.length := by rw [ru.len, List.length_map]
    refine ⟨a, rfl, ⟨us, SqL.of ha⟩, fun D hD => dcT_it (walk_list (K := K) (a := a) (xs := us)) (CPd l kf vf B H1 D) (cpd_zero g1.sub hD) (fun i H' _ p => ?_) (fun i xv H' H'' hi p y => ?_) (fun H' p => ?_)⟩
    · obtain ⟨C, acc, gC, _⟩ := p
      exact SqL.of (gC.up _ _ ha)
    · obtain ⟨e2, hi⟩ := y
      obtain ⟨d, hd, rd⟩ := ru.getV hi
      rw [List.getElem?_map] at hd
      cases e : l[i]? with
      | none =>
        rw [e] at hd
        cases hd
      | some b =>
        rw [e] at hd
        cases hd
        obtain ⟨δ, t1, t2, t3, t4⟩ := hs b (List.mem_of_getElem? e)
        exact cpd_turn (k.mono g1) hD hz e p e2 (fun C ex => rd.mono ex) hj t1 t2 t3 t4
    · obtain ⟨C, acc, gC, cD, hAcc, rAcc⟩ := p
      rw [hlen, List.take_length] at rAcc
      exact q D acc C H' (g1.trans gC) (Evl.fresh_back g1.up hD) cD hAcc rAcc
/-! # reversed(range(n)), zip -/
theorem en_lcRev {te0 : TE} {n : Int} {v : Nat → Dat} (h : EvD te0 γ (.int n)) (hj : ∀ j ∈ js, j ∈ vs) (hn : 0 ≤ n ∧ n < sizeLine)
    (hs : ∀ a : Nat, (a : Int) < n → ∃ δ, Tg g js (wipeG γ vs) (.int (n - 1 - (a : Int))) δ ∧ EvT tt δ true ∧ EvD te δ (v a)) : EvN (tLc (iRevR (tRg1 te0)) g tt te vs) γ ((List.range n.toNat).map v) := fun H0 A H σ k Q q =>
  h H0 A H σ k _ fun us B H1 g1 ru => by
    have hsz : (sizeLine : Int) < 2 ^ 62 := by rw [sizeLine_eq]; decide
    cases ru
    have en : (n - 0).toNat = n.toNat := by rw [Int.sub_zero]
    refine ⟨n, rfl, by decide, by decide, by omega, by omega, fun D hD => lc_it (walk_rangeC (lo := 0 + (((n - 0).toNat : Nat) : Int) - 1) (c := -1) (n := (n - 0).toNat)) (CP (List.range n.toNat) (fun _ => true) v B H1 D) (cp_zero g1.sub hD) (fun _ _ _ _ => trivial) (fun i x H' H'' hi p y => ?_) (fun H' p => ?_)⟩
    · obtain ⟨e2, ex⟩ := y
      subst e2
      rw [en] at hi
      obtain ⟨δ, t1, t2, t3⟩ := hs i (by omega)
      have e0 : (0 : Int) + (((n - 0).toNat : Nat) : Int) - 1 + (i : Int) * (-1) = n - 1 - (i : Int) := by omega
      rw [show x = V.int (n - 1 - (i : Int)) from ex.trans (congrArg V.int e0)]
      exact cp_turn (l := List.range n.toNat) (f := fun _ => true) (k.mono g1) hD (by rw [List.length_range]; omega) (by rw [List.getElem?_range hi]) p (fun C _ => .int _) hj t1 t2 fun _ => t3
    · obtain ⟨C, acc, gC, cD, hAcc, rAcc⟩ := p
      rw [en] at rAcc
      have ht : (List.range n.toNat).take n.toNat = List.range n.toNat := List.take_of_length_le (by rw [List.length_range]; exact Nat.le_refl _)
      rw [ht, filter_yes] at rAcc
      exact q D acc C H' (g1.trans gC) (Evl.fresh_back g1.up hD) cD hAcc rAcc
theorem en_lcZip {l : List α} {β : Type} {m : List β} {enc : α → Dat} {enc2 : β → Dat} {f : α × β → Bool} {v : α × β → Dat} (h : EvR ta γ (l.map enc)) (h2 : EvR tb γ (m.map enc2)) (hj : ∀ j ∈ js, j ∈ vs) (hz : l.length < sizeLine)
    (hs : ∀ a ∈ l.zip m, ∃ δ, Tg g js (wipeG γ vs) (.tup [enc a.1, enc2 a.2]) δ ∧ EvT tt δ (f a) ∧ (f a = true → EvD te δ (v a))) : EvN (tLc (iZip K (tCons ta (tCons tb tNil))) g tt te vs) γ (((l.zip m).filter f).map v) := fun H0 A H σ k Q q =>
  h H0 A H σ k _ fun a us B H1 g1 ha ru => h2 H0 B H1 σ (k.mono g1) _ fun b ws C0 H2 g2 hb rw_ => by
    have hlen : us.length = l.length := by rw [ru.len, List.length_map]
    have hlen2 : ws.length = m.length := by rw [rw_.len, List.length_map]
    have g12 := g1.trans g2
    refine ⟨a, b, us, ws, rfl, SqL.of (g2.up _ _ ha), SqL.of hb, fun D hD => lc_it (walk_zip (K := K) (a := a) (b := b) (xs := us) (ys := ws) rfl) (CP (l.zip m) f v C0 H2 D) (cp_zero g12.sub hD) (fun i H' _ p => ?_) (fun i x H' H'' hi p y => ?_) (fun H' p => ?_)⟩
    · obtain ⟨C, acc, gC, _⟩ := p
      exact ⟨SqL.of (gC.up _ _ (g2.up _ _ ha)), SqL.of (gC.up _ _ hb)⟩
    · obtain ⟨T, x1, x2, rfl, hT, rfl, e1, e2⟩ := y
      obtain ⟨d1, hd1, r1⟩ := ru.getV e1
      obtain ⟨d2, hd2, r2⟩ := rw_.getV e2
      rw [List.getElem?_map] at hd1 hd2
      cases q1 : l[i]? with
      | none =>
        rw [q1] at hd1
        cases hd1
      | some u1 =>
        cases q2 : m[i]? with
        | none =>
          rw [q2] at hd2
          cases hd2
        | some u2 =>
          rw [q1] at hd1
          rw [q2] at hd2
          cases hd1
          cases hd2
          have hz2 : (l.zip m)[i]? = some (u1, u2) := by
            rw [List.getElem?_zip_eq_some]
            exact ⟨q1, q2⟩
          obtain ⟨δ, t1, t2, t3⟩ := hs (u1, u2) (List.mem_of_getElem? hz2)
          obtain ⟨C, acc, gC, cD, hAcc, rAcc⟩ := p
          have gT := Gr.new (o := .tup [x1, x2]) gC.sub hT
          have nD : D ≠ T := ne_of_none hAcc hT
          exact cp_step (l := l.zip m) (k.mono g12) hD (by rw [List.length_zip]; omega) hz2 (gC.trans gT) (by rw [upd_ne nD]; exact cD) (by rw [upd_ne nD]; exact hAcc) (rAcc.mono gT.view)
            (.tup upd_same (.cons ((r1.mono (g2.view.trans gC.view)).mono gT.view) (.cons ((r2.mono gC.view).mono gT.view) .nil))) hj t1 t2 t3
    · obtain ⟨C, acc, gC, cD, hAcc, rAcc⟩ := p
      have ht : (l.zip m).take (min us.length ws.length) = l.zip m := List.take_of_length_le (by rw [List.length_zip, hlen, hlen2]; exact Nat.le_refl _)
      rw [ht] at rAcc
      exact q D acc C H' (g12.trans gC) (Evl.fresh_back g12.up hD) cD hAcc rAcc
end
end Fr

set_option Elab.async false
set_option linter.all false
set_option maxRecDepth 100000
set_option maxHeartbeats 4000000
namespace Fr
open PySem PySem.Spec PyProof.Rows L2
open Evl (Ex)
/-! # sum of a tuple of ints -/
section
variable {prog : Program} {w0 : World} {A : Around} {E : Value → Shared → Prop} {s : Shared} {t : Addr} {its : List Value} {ns : List Int} {Q : Value → Shared → Prop}
theorem sum_tup_raw (hh : A.handled = none) (ht : s.heap.IsTuple t its.toArray) (hi : IntsAre its ns)
    (h : ∀ h' tk t', (∀ b o, s.heap.get? b = some o → h'.get? b = some o) → Q (.int ns.sum t') { s with heap := h', toks := tk }) : wpAny (model prog w0) A (call (.builtin "sum") [.ref t]) Q E s := by
  obtain ⟨xs, e⟩ := hi.allInts.items
  have hn : numsOf (intItems xs).toList = ns := by rw [← e]; exact hi.numsOf
  rw [nums_intItems] at hn
  rw [e] at ht
  have low : t < s.heap.objs.size := by
    obtain ⟨o, ho, _⟩ := ht
    exact Heap.lt_size ho
  refine call_sum_walkG (wpAny_pyIter_tuple ht ?_)
  refine ⟨_, _, _, _, _, _, numAt xs, rfl, Walks.tuple (A := A.in1) hh s.heap.objs.size t (Nat.ne_of_lt low) (intItems xs), ⟨⟨_, Heap.get?_push_size _ rfl, rfl, rfl⟩, ?_⟩, fun b hb => ?_, fun _ _ => intItems_at, fun h' tk t' hk => ?_⟩
  · obtain ⟨o, ho, r⟩ := ht
    exact ⟨o, Heap.get?_push_of_some _ ho, r⟩
  · show b < (s.heap.push _).objs.size
    rw [Heap.size_push]
    rcases List.mem_cons.mp hb with e1 | hb
    · rw [e1]
      exact Nat.lt_succ_self _
    · rw [List.mem_singleton.mp hb]
      exact Nat.lt_succ_of_lt low
  · have q := h h' tk t' fun b o e => hk b o (fun z => by
      rw [List.mem_singleton.mp z] at e
      exact absurd (Heap.lt_size e) (Nat.lt_irrefl _)) (Heap.get?_push_of_some _ e)
    have e2 : preSum (numAt xs) (intItems xs).size = ns.sum := by
      have sz : (intItems xs).size = xs.size := by simp [intItems]
      rw [sz, preSum_eq, List.take_of_length_le (by simp), hn]
    rw [e2]
    exact q
end
def rSumT (K : PySem.W.Frag) : List V → Hp → VK → Prop := fun vs H Q => ∃ (a : Addr) (ns : List Int), vs = [V.ref a] ∧ SqT K H a (ns.map V.int) ∧ Q (.int ns.sum) H
theorem cr_sumT {X : Cx} {K : PySem.W.Frag} (e : X.K = K) (hc : X.calm = true) : CallR X (.builtin "sum") (rSumT K) := by
  subst e
  intro pins s σ H vs us Q I r h
  obtain ⟨a, ns, rfl, hs, q⟩ := h
  obtain ⟨its, rv, ht, _⟩ := I.tuple hs
  rw [Vals.ref1 r]
  exact sum_tup_raw (I.ok.hd hc) ht rv.ints fun h' tk t' hk => ⟨.int _, H, I.kept hk, ⟨_, rfl⟩, q⟩
section
variable {K : PySem.W.Frag} {γ : Gam} {te : TE}
theorem ev_sumW {ns : List Int} (h : EvD te γ (w ns)) : EvD (tCB (rSumT K) (tCons te tNil)) γ (.int ns.sum) := fun H0 A H σ k Q q =>
  h H0 A H σ k _ fun v B H1 g r => by
    cases r with
    | @tup a us _ ha ru =>
      have e := ru.ints
      subst e
      exact ⟨a, ns, rfl, SqT.of (g.sub _ _ ha), q _ B H1 g (.int _)⟩
/-! # slices of words -/
def cutI (ns : List Int) (lo hi : Option Int) : List Int := cutA ns lo hi
theorem cutA_map (ns : List Int) (lo hi : Option Int) : cutA (ns.map Dat.int) lo hi = (cutI ns lo hi).map .int := by
  unfold cutI cutA
  rw [List.length_map, List.map_take, List.map_drop]
theorem ev_cut {tl th : TO} {ns : List Int} {lo hi : Option Int} (h : EvD te γ (w ns)) (h1 : EvO tl γ lo) (h2 : EvO th γ hi) : EvD (tSl (rSlA K) te tl th) γ (w (cutI ns lo hi)) := by
  have := ev_slT (K := K) h h1 h2
  rw [cutA_map] at this
  exact this
theorem ev_lenW {ns : List Int} (h : EvD te γ (w ns)) : EvD (tCB (Evl.rLenS K) (tCons te tNil)) γ (.int (ns.length : Int)) := by
  have := ev_lenT (K := K) h
  rw [List.length_map] at this
  exact this
theorem r2_catW {ns ms : List Int} (h : ns.length + ms.length ≤ sizeLine) : R2D (rCatA K) (w ns) (w ms) (w (ns ++ ms)) := by
  have := r2_cat (K := K) (xs := ns.map Dat.int) (ys := ms.map Dat.int) (by rw [List.length_map, List.length_map]; exact h)
  rw [← List.map_append] at this
  exact this
theorem ev_w1 {ta : TE} {n : Int} (h : EvD ta γ (.int n)) : EvD (tTup (tCons ta tNil)) γ (w [n]) := ev_tup (ea_cons h ea_nil) (by show 1 ≤ sizeLine; decide)
theorem ev_w0 : EvD (tTup tNil) γ (w []) := ev_tup ea_nil (by decide)
theorem cutI_all (ns : List Int) : cutI ns none none = ns := by
  unfold cutI cutA
  rw [HT.sIx_none, HT.sIx_none, List.drop_zero]
  exact List.take_length
theorem cutI_from (ns : List Int) (k : Nat) : cutI ns (some (k : Int)) none = ns.drop k := by
  unfold cutI cutA
  rw [HT.sIx_none, HT.sIx_nat]
  by_cases h : k ≤ ns.length
  · rw [Nat.min_eq_left h]
    exact List.take_of_length_le (by rw [List.length_drop]; exact Nat.le_refl _)
  · rw [Nat.min_eq_right (by omega), List.drop_of_length_le (Nat.le_refl _), List.drop_of_length_le (by omega), List.take_nil]
theorem cutI_to (ns : List Int) (k : Nat) : cutI ns none (some (k : Int)) = ns.take k := by
  unfold cutI cutA
  rw [HT.sIx_none, HT.sIx_nat, List.drop_zero, Nat.sub_zero]
  by_cases h : k ≤ ns.length
  · rw [Nat.min_eq_left h]
  · rw [Nat.min_eq_right (by omega), List.take_of_length_le (Nat.le_refl _), List.take_of_length_le (by omega)]
theorem cutI_both (ns : List Int) (j k : Nat) : cutI ns (some (j : Int)) (some (k : Int)) = (ns.take k).drop j := by
  unfold cutI cutA
  rw [HT.sIx_nat, HT.sIx_nat, List.drop_take]
  by_cases h : j ≤ ns.length
  · rw [Nat.min_eq_left h]
    by_cases h2 : k ≤ ns.length
    · rw [Nat.min_eq_left h2]
    · rw [Nat.min_eq_right (by omega : ns.length ≤ k), List.take_of_length_le (by rw [List.length_drop]; exact Nat.le_refl _), List.take_of_length_le (by rw [List.length_drop]; omega)]
  · rw [Nat.min_eq_right (by omega : ns.length ≤ j), List.drop_of_length_le (Nat.le_refl _), List.drop_of_length_le (by omega), List.take_nil, List.take_nil]
end
end Fr

set_option Elab.async false
set_option linter.all false
set_option maxRecDepth 100000
set_option maxHeartbeats 4000000
namespace Fr
open PySem PySem.Spec PyProof.Rows L2
open Evl (Ex)
/-! # [e for k in d for a in range(n)], d a dict of the frame's own that is locked meanwhile -/
theorem RepsK.keyAt {H : Hp} : ∀ {kvs : List (List L2.Key × V)} {es : List (List L2.Key × Dat)} {i : Nat} {k : List L2.Key} {v : V}, RepsK H kvs es → kvs[i]? = some (k, v) → (es.map (·.1))[i]? = some k
  | _, _, _, _, _, .nil, h => by simp at h
  | _, _, 0, _, _, .cons _ _, h => by
    simp at h
    simp [h.1]
  | _, _, i + 1, _, _, .cons _ r, h => by
    simp only [List.getElem?_cons_succ] at h
    simp only [List.map_cons, List.getElem?_cons_succ]
    exact RepsK.keyAt r h
/-- what is made of the keys -/
def flat2 (ks : List (List Int)) (n : List Int → Nat) (v : List Int → Nat → Dat) : List Dat := (ks.map fun ns => (List.range (n ns)).map (v ns)).flatten
theorem flat2_more {ks : List (List Int)} {n : List Int → Nat} {v : List Int → Nat → Dat} {i : Nat} {ns : List Int} (h : ks[i]? = some ns) : flat2 (ks.take (i + 1)) n v = flat2 (ks.take i) n v ++ (List.range (n ns)).map (v ns) := by
  unfold flat2
  rw [List.take_add_one, h]
  simp
section
variable {K : PySem.W.Frag} {γ : Gam} {te : TE} {tr : TA} {N : Gam → Prop} {R : Dat → Gam → Prop}
theorem flat2_len (ks : List (List Int)) (n : List Int → Nat) (v : List Int → Nat → Dat) (m : Nat) (h : ∀ ns ∈ ks, n ns ≤ m) : (flat2 ks n v).length ≤ ks.length * m := by
  induction ks with
  | nil => simp [flat2]
  | cons k ks ih =>
    have h1 := ih fun ns hn => h ns (List.mem_cons_of_mem _ hn)
    have h2 := h k List.mem_cons_self
    have e : flat2 (k :: ks) n v = (List.range (n k)).map (v k) ++ flat2 ks n v := by simp [flat2]
    rw [e, List.length_append, List.length_map, List.length_range, List.length_cons, Nat.succ_mul]
    omega
theorem take_len_le {α : Type} (l : List α) (i : Nat) : (l.take i).length ≤ l.length := by
  rw [List.length_take]
  exact Nat.min_le_right _ _
theorem run_lc2 {es : List (List L2.Key × Dat)} {ks : List (List Int)} {i j a0 a1 m : Nat} {n : List Int → Nat} {v : List Int → Nat → Dat} (h : γ[i]? = some (Slot.od es)) (hk : es.map (·.1) = ks.map kw) (hz : ks.length * m + m < sizeLine) (hm : ∀ ns ∈ ks, n ns ≤ m)
    (ne : a0 ≠ a1) (hs : ∀ ns ∈ ks, EvA tr ((wipeG (γ.set i .no) [a0, a1]).set a0 (.d (w ns))) [.int (n ns : Nat)] ∧ ∀ a, a < n ns → EvD te (((wipeG (γ.set i .no) [a0, a1]).set a0 (.d (w ns))).set a1 (.d (.int (a : Nat)))) (v ns a))
    (hn : N (γ.set j (.o (flat2 ks n v)))) : Run (tLock (tAsg (tLc2 (iKeys (tVar i)) (gName a0) tYes (iRng1 tr) (gName a1) tYes te [a0, a1] [a1]) (gName j))) γ N R := fun A0 H0 A H σ g0 k D dn dr => by
  obtain ⟨l, kvs, e, h0, hA, hH, rk⟩ := k.ownD i es h
  have hsz : (sizeLine : Int) < 2 ^ 62 := by rw [sizeLine_eq]; decide
  refine ⟨l, .dT kvs, hH, True.intro, fun od => ?_⟩
  have kLen : kvs.length = ks.length := by
    have := congrArg List.length hk
    rw [List.length_map, List.length_map] at this
    rw [rk.len, this]
  -- the locked heap
  obtain ⟨HL, eL⟩ : ∃ HL, HL = upd H l (.frz od (.dT kvs)) := ⟨_, rfl⟩
  rw [← eL]
  have sL : Ex A HL := by
    rw [eL]
    exact k.sub.mut hA
  have hL : HL l = some (.frz od (.dT kvs)) := by rw [eL, upd_same]
  have kL : Ok H0 A HL σ (γ.set i .no) := by
    have q := k.forget i (some (V.ref l))
    have e2 : σ.set i (some (V.ref l)) = σ := by
      refine List.ext_getElem? fun b => ?_
      by_cases z : i = b
      · subst z
        rw [List.getElem?_set_self (List.getElem?_eq_some_iff.mp e).1, e]
      · rw [List.getElem?_set_ne z]
    rw [e2] at q
    refine ⟨sL, q.len, q.get, fun b xs hb => ?_, fun b xs hb => ?_, fun b c xs hb => ?_, q.scr, q.sep⟩
    · obtain ⟨c, vs, x1, x2, x3, x4, x5⟩ := q.own b xs hb
      have nc : c ≠ l := fun z => by
        subst z
        rw [x4] at hH
        cases hH
      exact ⟨c, vs, x1, x2, x3, by rw [eL, upd_ne nc]; exact x4, x5⟩
    · obtain ⟨c, vs, x1, x2, x3, x4, x5⟩ := q.ownD b xs hb
      have hb' : γ[b]? = some (Slot.od xs) := by
        rcases set_get hb with ⟨_, z, _⟩ | ⟨_, hb⟩
        · cases z
        · exact hb
      have nc : c ≠ l := fun z => by
        subst z
        have := k.sep i b c _ _ h hb' rfl rfl e x1
        subst this
        rcases set_get hb with ⟨_, z, _⟩ | ⟨z, _⟩
        · cases z
        · exact z rfl
      exact ⟨c, vs, x1, x2, x3, by rw [eL, upd_ne nc]; exact x4, x5⟩
    · obtain ⟨vs, x1, x2, x3, x4, x5⟩ := q.bor b c xs hb
      have nc : c ≠ l := fun z => by
        subst z
        rw [x4] at hH
        cases hH
      exact ⟨vs, x1, x2, x3, by rw [eL, upd_ne nc]; exact x4, x5⟩
  refine ⟨.ref l, e, l, od, rfl, .inr ⟨kvs, hL, fun DL hDL => ?_⟩⟩
  -- what stands behind i keys, and behind a numbers of one more
  refine ⟨fun t mm H' => mm + t = ks.length ∧ ∃ C acc, Gr A HL C H' ∧ C DL = none ∧ H' DL = some (.lst acc) ∧ Reps C acc (flat2 (ks.take t) n v),
    ⟨ks.length, rfl, A, [], Gr.newU sL hDL, Evl.fresh_back sL hDL, upd_same, .nil⟩, fun t mm H' hW => ?_⟩
  obtain ⟨emm, C, acc, gC, cD, hAcc, rAcc⟩ := hW
  have hl' : H' l = some (.frz od (.dT kvs)) := gC.up _ _ hL
  cases mm with
  | zero =>
    have et : t = ks.length := by omega
    subst et
    rw [List.take_length] at rAcc
    refine .inl ⟨⟨hl', by omega⟩, hl', ?_⟩
    -- behind: unlocked, stored
    have hDL0 : H DL = none := by
      have z := hDL
      rw [eL] at z
      by_cases q : DL = l
      · subst q
        rw [upd_same] at z
        cases z
      · rwa [upd_ne q] at z
    have nDl : DL ≠ l := fun q => by
      subst q
      rw [hH] at hDL0
      cases hDL0
    rw [eL] at gC
    obtain ⟨gU, cl⟩ := g0.unlock (u := .dT kvs) h0 hA (by exact True.intro) gC
    have kU := k.unlock h e hH hA rk (by exact True.intro) gC
    refine dn _ C _ _ hn gU gC.view (kU.setM j (fun b t hb mt eb => ?_) (fun _ z => nomatch z) (fun _ _ z => nomatch z) (fun _ _ z => nomatch z) (fun _ z => by cases z; exact ⟨acc, Evl.fresh_back g0.up hDL0, cD, by rw [upd_ne nDl]; exact hAcc, rAcc⟩) fun _ z => nomatch z)
    obtain ⟨c, o, z1, _, _, z4⟩ := k.addr hb mt
    rw [z1] at eb
    cases eb
    rw [hDL0] at z4
    cases z4
  | succ mm =>
    obtain ⟨ns, hns⟩ : ∃ ns, ks[t]? = some ns := ⟨ks[t]'(by omega), List.getElem?_eq_getElem (by omega)⟩
    have mem := List.mem_of_getElem? hns
    obtain ⟨ha, hv⟩ := hs ns mem
    have hmn := hm ns mem
    refine .inr ⟨⟨hl', by omega⟩, fun H2 => ∃ C acc, Gr A HL C H2 ∧ C DL = none ∧ H2 DL = some (.lst acc) ∧ Reps C acc (flat2 (ks.take (t + 1)) n v), fun H2 hh => ⟨mm, Nat.lt_succ_self _, by omega, hh⟩, fun x H2 hy => ?_⟩
    obtain ⟨eH, key, val, q, hkv, ex, hq⟩ := hy
    subst eH ex
    have ekey : key = kw ns := by
      have z := rk.keyAt hkv
      rw [hk, List.getElem?_map, hns] at z
      exact (Option.some.inj z).symm
    have hq' : H2 q = some (.tup (ns.map V.int)) := by
      rw [hq, ekey]
      unfold kw
      rw [List.map_map]
      rfl
    have gq := Gr.tup gC.sub hq'
    have gC' := gC.trans gq
    have cD' : (upd C q (.tup (ns.map V.int))) DL = none := gq.hid DL _ hAcc True.intro cD
    have rq : Rep (upd C q (.tup (ns.map V.int))) (.ref q) (w ns) := .tup upd_same (Reps.ofInts ns)
    have kW := ((kL.mono gC').wipe [a0, a1]).setD rq a0
    have lenW : ((L2.wipe σ [a0, a1]).set a0 (some (V.ref q))).length = (L2.wipe σ [a0, a1]).length := List.length_set ..
    refine ⟨wipe_back (js := [a0]) lenW (fun b hb => by rw [List.getElem?_set_ne (fun z => hb (by rw [z]; exact List.mem_singleton.mpr rfl))]) (by intro b hb; rw [List.mem_singleton.mp hb]; exact List.mem_cons_self), ?_⟩
    refine ha H0 _ _ _ kW _ fun us C1 H3 g1 r1 => ?_
    cases r1 with
    | cons r1 r2 =>
      cases r1
      cases r2
      have hn1 : (n ns : Int) < 2 ^ 62 := by
        have : n ns < sizeLine := by omega
        omega
      have gC1 := gC'.trans g1
      refine ⟨_, rfl, by omega, hn1, fun b kk H4 => kk + b = n ns ∧ ∃ C acc, Gr A HL C H4 ∧ Ex C1 C ∧ C DL = none ∧ H4 DL = some (.lst acc) ∧ Reps C acc (flat2 (ks.take t) n v ++ (List.range b).map (v ns)),
        ⟨n ns, by omega, C1, acc, gC1, Ex.refl C1, g1.hid DL _ hAcc True.intro cD', g1.up _ _ hAcc, ?_⟩, fun b kk H4 hW1 => ?_⟩
      · rw [List.range_zero, List.map_nil, List.append_nil]
        exact (rAcc.mono gq.view).mono g1.view
      · obtain ⟨ekk, C2, acc2, g2, v2, cD2, hA2, rA2⟩ := hW1
        cases kk with
        | zero =>
          have eb : b = n ns := by omega
          subst eb
          refine .inl ⟨by show ((n ns : Int)).toNat ≤ n ns; omega, C2, acc2, g2, cD2, hA2, ?_⟩
          rw [flat2_more hns]
          exact rA2
        | succ kk =>
          refine .inr ⟨by show b < ((n ns : Int)).toNat; omega, fun H5 => ∃ C acc, Gr A HL C H5 ∧ Ex C1 C ∧ C DL = none ∧ H5 DL = some (.lst acc) ∧ Reps C acc (flat2 (ks.take t) n v ++ (List.range (b + 1)).map (v ns)), fun H5 hh => ⟨kk, Nat.lt_succ_self _, by omega, hh⟩, fun x H5 hy => ?_⟩
          obtain ⟨eH, ex⟩ := hy
          subst eH
          have ex2 : x = V.int ((b : Nat) : Int) := by
            rw [ex]
            exact congrArg V.int (Int.zero_add _)
          subst ex2
          have kX := ((((kL.mono g2).wipe [a0, a1]).setD (rq.mono (g1.view.trans v2)) a0).wipe [a1]).setD (v := .int ((b : Nat) : Int)) (.int _) a1
          have lenX : ((L2.wipe ((L2.wipe σ [a0, a1]).set a0 (some (V.ref q))) [a1]).set a1 (some (V.int ((b : Nat) : Int)))).length = (L2.wipe ((L2.wipe σ [a0, a1]).set a0 (some (V.ref q))) [a1]).length := List.length_set ..
          refine ⟨wipe_back (js := [a1]) lenX (fun c hc => by rw [List.getElem?_set_ne (fun z => hc (by rw [z]; exact List.mem_singleton.mpr rfl))]) (by intro c hc; exact hc), ?_⟩
          have eG : (wipeG ((wipeG (γ.set i .no) [a0, a1]).set a0 (.d (w ns))) [a1]).set a1 (.d (.int ((b : Nat) : Int))) = ((wipeG (γ.set i .no) [a0, a1]).set a0 (.d (w ns))).set a1 (.d (.int ((b : Nat) : Int))) := by
            show ((((wipeG (γ.set i .no) [a0, a1]).set a0 (.d (w ns))).set a1 .no).set a1 _) = _
            rw [List.set_set]
          rw [eG] at kX
          refine hv b (by omega) H0 C2 H5 _ kX _ fun yv C3 H6 g3 r3 => ?_
          have cD3 := g3.hid DL _ hA2 True.intro cD2
          have lz : acc2.length < sizeLine := by
            rw [rA2.len, List.length_append, List.length_map, List.length_range]
            have z := flat2_len (ks.take t) n v m fun ns' hn' => hm ns' (List.mem_of_mem_take hn')
            have z2 := Nat.mul_le_mul_right m (take_len_le ks t)
            omega
          refine ⟨acc2, g3.up _ _ hA2, lz, C3, acc2 ++ [yv], (g2.trans g3).mut hDL cD3, v2.trans g3.view, cD3, upd_same, ?_⟩
          rw [List.range_succ, List.map_append, ← List.append_assoc]
          exact (rA2.mono g3.view).app (Reps.one r3)
/-! # a star in a display -/
theorem ea_star {ta : TE} {xs ys : List Dat} (h : EvR ta γ xs) (hr : EvA tr γ ys) : EvA (StX.tStar K ta tr) γ (xs ++ ys) := fun H0 A H σ k Q q =>
  h H0 A H σ k _ fun l us B H1 g1 h1 r1 => ⟨l, us, rfl, .inr (SqL.of h1), hr H0 B H1 σ (k.mono g1) _ fun vs C H2 g2 r2 => q _ C H2 (g1.trans g2) ((r1.mono g2.view).app r2)⟩
theorem pa_starK {X : Cx} {e : Expr} {es : List Expr} {p : Pos} {t : TA} {ta : TE} (eK : X.K = K) (h : PA X (.Starred e p :: es) (StX.tStar X.K ta t)) : PA X (.Starred e p :: es) (StX.tStar K ta t) := eK ▸ h
end
end Fr

set_option Elab.async false
set_option linter.all false
set_option maxRecDepth 100000
set_option maxHeartbeats 4000000
namespace Fr
open PySem PySem.Spec PyProof.Rows L2
open Evl (Ex)
section
variable {K : PySem.W.Frag} {γ : Gam} {te : TE} {xs : List Dat}
/-- a slice of a list is a new list -/
theorem Reps.cutL {A : Hp} {us : List V} {lo hi : Option Int} (R : Reps A us xs) : Reps A (cutV us lo hi) (cutA xs lo hi) := R.cut
theorem en_slL {tl th : TO} {lo hi : Option Int} (h : EvR te γ xs) (h1 : EvO tl γ lo) (h2 : EvO th γ hi) : EvN (tSl (rSlL K) te tl th) γ (cutA xs lo hi) := fun H0 A H σ k Q q =>
  h H0 A H σ k _ fun l us B H1 g1 ha R => h1 H0 B H1 σ (k.mono g1) _ fun C H2 g2 => h2 H0 C H2 σ (k.mono (g1.trans g2)) _ fun D H3 g3 => by
    have g := (g1.trans g2).trans g3
    exact ⟨l, us, rfl, SqL.of (g3.up _ _ (g2.up _ _ ha)), fun p hp => q p _ D _ (g.trans (Gr.newU g.sub hp)) (Evl.fresh_back g.up hp) (Evl.fresh_back g.sub hp) upd_same ((R.mono (g2.view.trans g3.view)).cut)⟩
theorem cutA_from {α : Type} (xs : List α) (k : Nat) : cutA xs (some (k : Int)) none = xs.drop k := by
  unfold cutA
  rw [HT.sIx_none, HT.sIx_nat]
  by_cases h : k ≤ xs.length
  · rw [Nat.min_eq_left h]
    exact List.take_of_length_le (by rw [List.length_drop]; exact Nat.le_refl _)
  · rw [Nat.min_eq_right (by omega), List.drop_of_length_le (Nat.le_refl _), List.drop_of_length_le (by omega), List.take_nil]
theorem r2_eqN {i : Int} {x : Dat} (h : isNon x = false) (hx : ∃ d, x = .int d) : R2D rEq (.int i) x (.bl (match x with | .int d => decide (i = d) | _ => false)) := by
  obtain ⟨d, rfl⟩ := hx
  exact r2_eqI
end
end Fr

set_option Elab.async false
set_option linter.all false
set_option maxRecDepth 100000
set_option maxHeartbeats 4000000
namespace Fr
open PySem PySem.Spec PyProof.Rows L2
open Evl (Ex)
theorem Reps.set {A : Hp} {v : V} {x : Dat} (h : Rep A v x) : ∀ {us : List V} {ds : List Dat} (n : Nat), Reps A us ds → Reps A (us.set n v) (ds.set n x)
  | _, _, _, .nil => .nil
  | _, _, 0, .cons _ b => .cons h b
  | _, _, n + 1, .cons a b => .cons a (Reps.set h n b)
/-! # expressions that change what is the frame's own -/
def EvX (te : TE) (γ : Gam) (S : Dat → Gam → Prop) : Prop := ∀ A0 H0 A H σ, Gr A0 H0 A H → Ok H0 A H σ γ → ∀ Q : VK, (∀ v B H' x δ, S x δ → Gr A0 H0 B H' → Ex A B → Ok H0 B H' σ δ → Rep B v x → Q v H') → te σ H Q
def EvXT (t : TT) (γ : Gam) (S : Bool → Gam → Prop) : Prop := ∀ A0 H0 A H σ, Gr A0 H0 A H → Ok H0 A H σ γ → ∀ Q : Bool → Hp → Prop, (∀ b B H' δ, S b δ → Gr A0 H0 B H' → Ex A B → Ok H0 B H' σ δ → Q b H') → t σ H Q
def EvXA (ta : TA) (γ : Gam) (S : List Dat → Gam → Prop) : Prop := ∀ A0 H0 A H σ, Gr A0 H0 A H → Ok H0 A H σ γ → ∀ Q : List V → Hp → Prop, (∀ vs B H' xs δ, S xs δ → Gr A0 H0 B H' → Ex A B → Ok H0 B H' σ δ → Reps B vs xs → Q vs H') → ta σ H Q
def hide (c : Addr) (H : Hp) : Hp := fun a => if a = c then none else H a
theorem hide_ne {c a : Addr} {H : Hp} (h : a ≠ c) : hide c H a = H a := by
  unfold hide
  rw [if_neg h]
theorem hide_self {c : Addr} {H : Hp} : hide c H c = none := by
  unfold hide
  rw [if_pos rfl]
section
variable {K : PySem.W.Frag} {γ δ : Gam} {ta tb te : TE} {t u : TT} {x y z : Dat} {r : R2} {xs ys : List Dat} {S S1 S2 : Dat → Gam → Prop} {N M : Gam → Prop} {R : Dat → Gam → Prop} {tu tw : TS} {g : TG} {js : List Nat}
theorem ex_of (h : EvD te γ x) (hs : S x γ) : EvX te γ S := fun A0 H0 A H σ g0 k Q q => h H0 A H σ k Q fun v B H' g1 r1 => q v B H' x γ hs (g0.trans g1) g1.view (k.mono g1) r1
theorem ex_weak (h : EvX te γ S) (hw : ∀ x δ, S x δ → S1 x δ) : EvX te γ S1 := fun A0 H0 A H σ g0 k Q q => h A0 H0 A H σ g0 k Q fun v B H' x δ hs => q v B H' x δ (hw x δ hs)
theorem ex_op (ha : EvX ta γ S1) (hb : ∀ x δ, S1 x δ → EvX tb δ (fun y ε => ∃ z, R2D r x y z ∧ S z ε)) : EvX (tOp r ta tb) γ S := fun A0 H0 A H σ g0 k Q q =>
  ha A0 H0 A H σ g0 k _ fun v B H1 x δ hs g1 v1 k1 r1 => hb x δ hs A0 H0 B H1 σ g1 k1 _ fun v2 C H2 y ε hz g2 w2 k2 r2 => by
    obtain ⟨z, hr, hS⟩ := hz
    exact hr C H2 v v2 g2.sub (r1.mono w2) r2 Q fun p D H3 g3 r3 => q p D H3 z ε hS (g2.trans g3) ((v1.trans w2).trans g3.view) (k2.mono g3) r3
theorem ext_of {b : Bool} {S : Bool → Gam → Prop} (h : EvT t γ b) (hs : S b γ) : EvXT t γ S := fun A0 H0 A H σ g0 k Q q => h H0 A H σ k Q fun B H' g1 => q b B H' γ hs (g0.trans g1) g1.view (k.mono g1)
theorem ext_B {S : Bool → Gam → Prop} (h : EvX te γ (fun x δ => ∃ b, x = .bl b ∧ S b δ)) : EvXT (tB te) γ S := fun A0 H0 A H σ g0 k Q q => h A0 H0 A H σ g0 k _ fun v B H' x δ hs g1 v1 k1 r1 => by
  obtain ⟨b, rfl, hS⟩ := hs
  cases r1
  exact ⟨b, rfl, q b B H' δ hS g1 v1 k1⟩
theorem ext_test {S : Bool → Gam → Prop} (h : EvX te γ (fun x δ => ∃ b, x = .bl b ∧ S b δ)) : EvXT (tTest te) γ S := ext_B h
theorem ext_and {S S1 : Bool → Gam → Prop} (h : EvXT t γ S1) (h1 : ∀ δ, S1 true δ → EvXT u δ S) (h2 : ∀ δ, S1 false δ → S false δ) : EvXT (tAnd t u) γ S := fun A0 H0 A H σ g0 k Q q => h A0 H0 A H σ g0 k _ fun b B H' δ hs g1 v1 k1 => by
  cases b with
  | true => exact h1 δ hs A0 H0 B H' σ g1 k1 Q fun b2 C H2 ε hs2 g2 v2 k2 => q b2 C H2 ε hs2 g2 (v1.trans v2) k2
  | false => exact q false B H' δ (h2 δ hs) g1 v1 k1
theorem ex_if {S1 : Bool → Gam → Prop} (h : EvXT t γ S1) (h1 : ∀ δ, S1 true δ → EvX ta δ S) (h2 : ∀ δ, S1 false δ → EvX tb δ S) : EvX (tIf t ta tb) γ S := fun A0 H0 A H σ g0 k Q q => h A0 H0 A H σ g0 k _ fun b B H' δ hs g1 v1 k1 => by
  cases b with
  | true => exact h1 δ hs A0 H0 B H' σ g1 k1 Q fun v C H2 x ε hs2 g2 v2 k2 => q v C H2 x ε hs2 g2 (v1.trans v2) k2
  | false => exact h2 δ hs A0 H0 B H' σ g1 k1 Q fun v C H2 x ε hs2 g2 v2 k2 => q v C H2 x ε hs2 g2 (v1.trans v2) k2
theorem ex_and (h : EvX ta γ (fun x δ => ∃ b, x = .bl b ∧ (b = true → EvX tb δ S) ∧ (b = false → S (.bl false) δ))) : EvX (tAndV ta tb) γ S := fun A0 H0 A H σ g0 k Q q => h A0 H0 A H σ g0 k _ fun v B H' x δ hs g1 v1 k1 r1 => by
  obtain ⟨b, rfl, h1, h2⟩ := hs
  cases r1
  refine ⟨b, rfl, ?_⟩
  cases b with
  | true => exact h1 rfl A0 H0 B H' σ g1 k1 Q fun v C H2 x ε hs2 g2 v2 k2 => q v C H2 x ε hs2 g2 (v1.trans v2) k2
  | false => exact q _ B H' _ δ (h2 rfl) g1 v1 k1 (.bl false)
theorem ex_or (h : EvX ta γ (fun x δ => ∃ b, x = .bl b ∧ (b = false → EvX tb δ S) ∧ (b = true → S (.bl true) δ))) : EvX (tOrV ta tb) γ S := fun A0 H0 A H σ g0 k Q q => h A0 H0 A H σ g0 k _ fun v B H' x δ hs g1 v1 k1 r1 => by
  obtain ⟨b, rfl, h1, h2⟩ := hs
  cases r1
  refine ⟨b, rfl, ?_⟩
  cases b with
  | false => exact h1 rfl A0 H0 B H' σ g1 k1 Q fun v C H2 x ε hs2 g2 v2 k2 => q v C H2 x ε hs2 g2 (v1.trans v2) k2
  | true => exact q _ B H' _ δ (h2 rfl) g1 v1 k1 (.bl true)
theorem exa_nil {S : List Dat → Gam → Prop} (h : S [] γ) : EvXA tNil γ S := fun A0 H0 A H σ g0 k Q q => q [] A H [] γ h g0 (Ex.refl A) k .nil
theorem exa_cons {tr : TA} {S : List Dat → Gam → Prop} (h : EvX ta γ S1) (hr : ∀ x δ, S1 x δ → EvXA tr δ (fun xs ε => S (x :: xs) ε)) : EvXA (tCons ta tr) γ S := fun A0 H0 A H σ g0 k Q q =>
  h A0 H0 A H σ g0 k _ fun v B H1 x δ hs g1 v1 k1 r1 => hr x δ hs A0 H0 B H1 σ g1 k1 _ fun vs C H2 xs ε hs2 g2 v2 k2 r2 => q _ C H2 _ ε hs2 g2 (v1.trans v2) k2 (.cons (r1.mono v2) r2)
theorem exa_of {tr : TA} {S : List Dat → Gam → Prop} (h : EvA tr γ xs) (hs : S xs γ) : EvXA tr γ S := fun A0 H0 A H σ g0 k Q q => h H0 A H σ k Q fun vs B H' g1 r1 => q vs B H' xs γ hs (g0.trans g1) g1.view (k.mono g1) r1
theorem ex_tup {tr : TA} (h : EvXA tr γ (fun xs δ => xs.length ≤ sizeLine ∧ S (.tup xs) δ)) : EvX (tTup tr) γ S := fun A0 H0 A H σ g0 k Q q =>
  h A0 H0 A H σ g0 k _ fun vs B H1 xs δ hs g1 v1 k1 r1 => ⟨by rw [r1.len]; exact hs.1, fun p hp => by
    have g2 := Gr.new (o := .tup vs) g1.sub hp
    exact q _ _ _ _ δ hs.2 (g1.trans g2) (v1.trans g2.view) (k1.mono g2) (.tup upd_same (r1.mono g2.view))⟩
theorem ex_lst {tr : TA} (h : EvXA tr γ (fun xs δ => xs.length ≤ sizeLine ∧ S (.lst xs) δ)) : EvX (tLst tr) γ S := fun A0 H0 A H σ g0 k Q q =>
  h A0 H0 A H σ g0 k _ fun vs B H1 xs δ hs g1 v1 k1 r1 => ⟨by rw [r1.len]; exact hs.1, fun p hp => by
    have g2 := Gr.new (o := .lst vs) g1.sub hp
    exact q _ _ _ _ δ hs.2 (g1.trans g2) (v1.trans g2.view) (k1.mono g2) (.lst upd_same (r1.mono g2.view))⟩
theorem ex_call {Rf : List Dat → Dat → Prop} {E : XK} {tr : TA} (h : EvXA tr γ (fun xs δ => ∃ z, Rf xs z ∧ S z δ)) : EvX (tCall (Pr Rf) [] E tr) γ S := fun A0 H0 A H σ g0 k Q q =>
  h A0 H0 A H σ g0 k _ fun vs B H1 xs δ hs g1 v1 k1 r1 => by
    obtain ⟨z, hR, hS⟩ := hs
    exact ⟨B, xs, z, g1.sub, by rw [List.append_nil]; exact r1, hR, fun v C H2 g2 r2 => q v C H2 z δ hS (g1.trans g2) (v1.trans g2.view) (k1.mono g2) r2⟩
theorem r2_ixL {i : Int} (h : atI xs i = some z) : R2D (rIxL K) (.lst xs) (.int i) z := fun A H vx vy s r1 r2 Q q => by
  cases r2
  cases r1 with
  | @lst a us _ h1 R1 =>
    obtain ⟨v, e, rv⟩ := atI_rep R1 h
    exact ⟨a, us, i, v, rfl, rfl, SqL.of (s _ _ h1), e, q v A H (Gr.refl s) rv⟩
theorem ex_slT {tl th : TO} {lo hi : Option Int} (h : EvX te γ (fun x δ => ∃ xs, x = .tup xs ∧ EvO tl δ lo ∧ EvO th δ hi ∧ S (.tup (cutA xs lo hi)) δ)) : EvX (tSl (rSlA K) te tl th) γ S := fun A0 H0 A H σ g0 k Q q =>
  h A0 H0 A H σ g0 k _ fun v B H1 x δ hs g1 v1 k1 r1 => by
    obtain ⟨xs, rfl, o1, o2, hS⟩ := hs
    refine o1 H0 B H1 σ k1 _ fun C H2 g2 => o2 H0 C H2 σ (k1.mono g2) _ fun D H3 g3 => ?_
    cases r1 with
    | @tup a us _ ha R =>
      have g := g2.trans g3
      refine ⟨a, us, rfl, SqT.of (g.up _ _ (g1.sub _ _ ha)), fun e => ?_, fun _ p hp => ?_⟩
      · have ew : cutA xs lo hi = xs := by
          unfold cutA
          rw [← R.len, e.1, e.2, List.drop_zero, R.len]
          exact List.take_length
        rw [ew] at hS
        exact q _ D H3 _ δ hS (g1.trans g) (v1.trans g.view) (k1.mono g) (.tup (g.view _ _ ha) (R.mono g.view))
      · have g4 := Gr.new (o := .tup (cutV us lo hi)) g.sub hp
        exact q _ _ _ _ δ hS ((g1.trans g).trans g4) ((v1.trans g.view).trans g4.view) ((k1.mono g).mono g4) (.tup upd_same ((R.mono g.view).cut.mono g4.view))
/-! ### a list of another frame's is lent -/
theorem Gr.lent {A0 H0 A H B H' : Hp} {c : Addr} (g0 : Gr A0 H0 A H) (h0 : H0 c = none) (g : Gr A (hide c H) B H') : Gr A0 H0 B H' := by
  refine ⟨fun a o e => ?_, g0.view.trans g.view, g.sub, fun a o e m n => ?_⟩
  · have na : a ≠ c := ne_of_none e h0
    exact g.up a o (by rw [hide_ne na]; exact g0.up a o e)
  · have na : a ≠ c := ne_of_none e h0
    exact g.hid a o (by rw [hide_ne na]; exact g0.up a o e) m (g0.hid a o e m n)
/-- what the frame that lent it knows behind: the slot's new list -/
theorem Ok.lent {H0 A H B H' : Hp} {σ : L2.St} {i : Nat} {c : Addr} {s s' : Slot} {vs : List V} (k : Ok H0 A H σ γ) (h : γ[i]? = some s) (m : s.mine = true) (e : σ[i]? = some (some (V.ref c))) (g : Gr A (hide c H) B H') (hB : B c = none) (hH : H' c = some (.lst vs)) (rv : Reps B vs ys)
    (hs : s' = .o ys ∨ s' = .b c ys) : Ok H0 B H' σ (γ.set i s') := by
  obtain ⟨c', o, e1, h0, hA, _⟩ := k.addr h m
  rw [e] at e1
  cases e1
  have apart : ∀ (j : Nat) (t : Slot) (a : Addr), i ≠ j → γ[j]? = some t → t.mine = true → σ[j]? = some (some (V.ref a)) → a ≠ c := fun j t a q gj n e1 z => by
    subst z
    exact q (k.sep i j a s t h gj m n e e1)
  have ms : s'.mine = true := by rcases hs with rfl | rfl <;> rfl
  refine ⟨g.sub, by rw [List.length_set, k.len], fun j y hj => ?_, fun j zs hj => ?_, fun j zs hj => ?_, fun j d zs hj => ?_, fun j K m hj => ?_, fun j n a t u h1 h2 h3 h4 h5 h6 => ?_⟩
  · rcases set_get hj with ⟨rfl, z, _⟩ | ⟨q, hj⟩
    · rw [← z] at ms
      cases ms
    · obtain ⟨v, a, b⟩ := k.get j y hj
      exact ⟨v, a, b.mono g.view⟩
  · rcases set_get hj with ⟨rfl, z, _⟩ | ⟨q, hj⟩
    · rcases hs with rfl | rfl
      · cases z
        exact ⟨c, vs, e, h0, hB, hH, rv⟩
      · cases z
    · obtain ⟨a, vs', e1, e2, e3, e4, e5⟩ := k.own j zs hj
      have y : hide c H a = some (.lst vs') := by rw [hide_ne (apart j _ a q hj rfl e1)]; exact e4
      exact ⟨a, vs', e1, e2, g.hid a _ y True.intro e3, g.up a _ y, e5.mono g.view⟩
  · rcases set_get hj with ⟨rfl, z, _⟩ | ⟨q, hj⟩
    · rcases hs with rfl | rfl <;> cases z
    · obtain ⟨a, vs', e1, e2, e3, e4, e5⟩ := k.ownD j zs hj
      have y : hide c H a = some (.dT vs') := by rw [hide_ne (apart j _ a q hj rfl e1)]; exact e4
      exact ⟨a, vs', e1, e2, g.hid a _ y True.intro e3, g.up a _ y, e5.mono g.view⟩
  · rcases set_get hj with ⟨rfl, z, _⟩ | ⟨q, hj⟩
    · rcases hs with rfl | rfl
      · cases z
      · cases z
        exact ⟨vs, e, h0, hB, hH, rv⟩
    · obtain ⟨vs', e1, e2, e3, e4, e5⟩ := k.bor j d zs hj
      have y : hide c H d = some (.lst vs') := by rw [hide_ne (apart j _ d q hj rfl e1)]; exact e4
      exact ⟨vs', e1, e2, g.hid d _ y True.intro e3, g.up d _ y, e5.mono g.view⟩
  · rcases set_get hj with ⟨rfl, z, _⟩ | ⟨q, hj⟩
    · rcases hs with rfl | rfl <;> cases z
    · obtain ⟨a, h1, h2⟩ := k.scr j K m hj
      exact ⟨a, h1, Evl.ex_l g.view h2⟩
  · have back : ∀ (n : Nat) (t : Slot), (γ.set i s')[n]? = some t → t.mine = true → ∃ t', γ[n]? = some t' ∧ t'.mine = true := fun n t hn mt => by
      rcases set_get hn with ⟨rfl, z, _⟩ | ⟨q, hn⟩
      · exact ⟨s, h, m⟩
      · exact ⟨t, hn, mt⟩
    obtain ⟨z1, q1, m1⟩ := back j t h1 h3
    obtain ⟨z2, q2, m2⟩ := back n u h2 h4
    exact k.sep j n a z1 z2 q1 q2 m1 m2 h5 h6
end
/-- a def that changes the list that is its first argument: from the list ds and the data xs to a value and the list behind -/
def PrC (Rf : List Dat → List Dat → Dat → List Dat → Prop) (Pre : List Dat → List Dat → Prop) : Sp := fun vs H Q _ => ∃ A c cs ds us xs, vs = V.ref c :: us ∧ Ex A H ∧ A c = none ∧ H c = some (.lst cs) ∧ Reps A cs ds ∧ Reps A us xs ∧ Pre ds xs ∧
  ∀ v B H' x cs' ds', Rf ds xs x ds' → Gr A (hide c H) B H' → B c = none → H' c = some (.lst cs') → Reps B cs' ds' → Rep B v x → Q v H'
/-- a def that hands back a new list -/
def PrN (Rf : List Dat → List Dat → Prop) : Sp := fun vs H Q _ => ∃ A xs ys, Ex A H ∧ Reps A vs xs ∧ Rf xs ys ∧ ∀ l us B H', Gr A H B H' → H l = none → B l = none → H' l = some (.lst us) → Reps B us ys → Q (.ref l) H'
section
variable {K : PySem.W.Frag} {γ δ : Gam} {ta tb te : TE} {t u : TT} {x y z : Dat} {xs ys : List Dat} {S S1 S2 : Dat → Gam → Prop} {N M : Gam → Prop} {R : Dat → Gam → Prop} {tu tw : TS} {g : TG} {js : List Nat}
theorem en_callN {Rf : List Dat → List Dat → Prop} {E : XK} {tr : TA} (h : EvA tr γ xs) (hR : Rf xs ys) : EvN (tCall (PrN Rf) [] E tr) γ ys := fun H0 A H σ k Q q =>
  h H0 A H σ k _ fun vs B H1 g1 r1 => ⟨B, xs, ys, g1.sub, by rw [List.append_nil]; exact r1, hR, fun l us C H2 g2 hl hC h2 r2 => q l us C H2 (g1.trans g2) (Evl.fresh_back g1.up hl) hC h2 r2⟩
/-- a slot that holds a list that may be lent -/
def Lends (γ : Gam) (i : Nat) (ds : List Dat) : Prop := γ[i]? = some (Slot.o ds) ∨ ∃ c, γ[i]? = some (Slot.b c ds)
/-- the slot behind -/
def relend (γ : Gam) (i : Nat) (ds : List Dat) : Gam := match γ[i]? with
  | some (.b c _) => γ.set i (.b c ds)
  | _ => γ.set i (.o ds)
theorem exa_cons0 {tr : TA} {i : Nat} {ds : List Dat} (h : Lends γ i ds) {A0 H0 A H : Hp} {σ : L2.St} (g0 : Gr A0 H0 A H) (k : Ok H0 A H σ γ) : ∃ c cs s, γ[i]? = some s ∧ s.mine = true ∧ σ[i]? = some (some (V.ref c)) ∧ H0 c = none ∧ A c = none ∧ H c = some (.lst cs) ∧ Reps A cs ds ∧
    ∀ ds', relend γ i ds' = γ.set i (.o ds') ∨ relend γ i ds' = γ.set i (.b c ds') := by
  rcases h with h | ⟨c, h⟩
  · obtain ⟨c, cs, a, b, d, e, f⟩ := k.own i ds h
    exact ⟨c, cs, _, h, rfl, a, b, d, e, f, fun ds' => .inl (by unfold relend; rw [h])⟩
  · obtain ⟨cs, a, b, d, e, f⟩ := k.bor i c ds h
    exact ⟨c, cs, _, h, rfl, a, b, d, e, f, fun ds' => .inr (by unfold relend; rw [h])⟩
/-- f(crate, e, ..) -/
theorem ex_lend {Rf : List Dat → List Dat → Dat → List Dat → Prop} {Pre : List Dat → List Dat → Prop} {E : XK} {tr : TA} {i : Nat} {ds0 : List Dat} (h0 : Lends γ i ds0) (h : EvXA tr γ (fun xs δ => ∃ ds, Lends δ i ds ∧ Pre ds xs ∧ ∀ x ds', Rf ds xs x ds' → S x (relend δ i ds'))) :
    EvX (tCall (PrC Rf Pre) [] E (tCons (tVar i) tr)) γ S := fun A0 H0 A H σ g0 k Q q => by
  obtain ⟨c0, cs0, s0, e1, m1, e2, _⟩ := exa_cons0 (tr := tr) h0 g0 k
  refine ⟨.ref c0, e2, ?_⟩
  refine h A0 H0 A H σ g0 k _ fun us B H1 xs δ hs g1 v1 k1 r1 => ?_
  obtain ⟨ds, hl, hp, hS⟩ := hs
  obtain ⟨c, cs, s, x1, x2, x3, x4, x5, x6, x7, x8⟩ := exa_cons0 (tr := tr) hl g1 k1
  rw [e2] at x3
  cases x3
  refine ⟨B, c0, cs, ds, us, xs, by rw [List.append_nil], g1.sub, x5, x6, x7, r1, hp, fun v C H2 x cs' ds' hR g2 hC h2 rc rx => ?_⟩
  have gL := g1.lent x4 g2
  refine q v C H2 x _ (hS x ds' hR) gL (v1.trans g2.view) ?_ rx
  rcases x8 ds' with z | z
  · rw [z]
    exact k1.lent x1 x2 e2 g2 hC h2 rc (.inl rfl)
  · rw [z]
    exact k1.lent x1 x2 e2 g2 hC h2 rc (.inr rfl)
/-! ### statements -/
theorem runx_asg {i : Nat} (h : EvX te γ (fun x δ => N (δ.set i (.d x)))) : Run (tAsg te (gName i)) γ N R := fun A0 H0 A H σ g0 k D dn dr =>
  h A0 H0 A H σ g0 k _ fun v B H1 x δ hs g1 v1 k1 r1 => dn _ B H1 _ hs g1 v1 (k1.setD r1 i)
theorem runx_ret (h : EvX te γ R) : Run (tRet te) γ N R := fun A0 H0 A H σ g0 k D dn dr =>
  h A0 H0 A H σ g0 k _ fun v B H1 x δ hs g1 v1 k1 r1 => dr v B H1 x σ δ hs g1 k1 r1
theorem runx_drop (h : EvX te γ (fun _ δ => N δ)) : Run (tDrop te) γ N R := fun A0 H0 A H σ g0 k D dn dr =>
  h A0 H0 A H σ g0 k _ fun v B H1 x δ hs g1 v1 k1 r1 => dn _ B H1 _ hs g1 v1 k1
theorem runx_if {S : Bool → Gam → Prop} (h : EvXT t γ S) (h1 : ∀ δ, S true δ → Run tu δ N R) (h2 : ∀ δ, S false δ → Run tw δ N R) : Run (tIfS t tu tw) γ N R := fun A0 H0 A H σ g0 k D dn dr =>
  h A0 H0 A H σ g0 k _ fun b B H1 δ hs g1 v1 k1 => by
    have dn' : ∀ ε C H' σ', N ε → Gr A0 H0 C H' → Ex B C → Ok H0 C H' σ' ε → D.nx σ' H' := fun ε C H' σ' n g2 v2 k2 => dn ε C H' σ' n g2 (v1.trans v2) k2
    cases b with
    | true => exact h1 δ hs A0 H0 B H1 σ g1 k1 D dn' dr
    | false => exact h2 δ hs A0 H0 B H1 σ g1 k1 D dn' dr
/-- a, b = e1, e2 -/
theorem runx_par {i j : Nat} {ta : TA} (h : EvXA ta γ (fun xs δ => ∃ x y, xs = [x, y] ∧ N ((δ.set i (.d x)).set j (.d y)))) : Run (tPar i j ta) γ N R := fun A0 H0 A H σ g0 k D dn dr =>
  h A0 H0 A H σ g0 k _ fun vs B H1 xs δ hs g1 v1 k1 r1 => by
    obtain ⟨x, y, rfl, hn⟩ := hs
    cases r1 with
    | cons r1 r2 =>
      cases r2 with
      | cons r2 r3 =>
        cases r3
        exact ⟨_, _, rfl, dn _ B H1 _ hn g1 v1 ((k1.setD r1 i).setD r2 j)⟩
/-- crate[j] = e -/
theorem run_setB {i j : Nat} {c : Addr} (hi : γ[i]? = some (Slot.b c xs)) (h : EvD te γ x) (hj : j < xs.length) (hn : N (γ.set i (.b c (xs.set j x)))) : Run (tAsg te (gSub (tVar i) (tC (.int (j : Nat))) rSetL)) γ N R := fun A0 H0 A H σ g0 k D dn dr =>
  h H0 A H σ k _ fun v B H1 g1 r1 => by
    have k1 := k.mono g1
    obtain ⟨vs, e1, h0, hB, hH, rv⟩ := k1.bor i c xs hi
    refine ⟨.ref c, e1, c, vs, (j : Int), j, rfl, rfl, hH, Evl.ixN_nat (by rw [rv.len]; exact hj), ?_⟩
    exact dn _ B _ _ hn ((g0.trans g1).mut h0 hB) g1.view (k1.turn hi rfl e1 (fun _ z => nomatch z) (fun _ z => nomatch z) (fun _ z => nomatch z) (fun _ _ z => nomatch z) fun c' ys z => by cases z; exact ⟨rfl, _, rfl, rv.set r1 j⟩)
theorem er_varB {i : Nat} {c : Addr} (h : γ[i]? = some (Slot.b c xs)) : EvR (tVar i) γ xs := fun H0 A H σ k Q q => by
  obtain ⟨vs, a, _, _, b, d⟩ := k.bor i c xs h
  exact ⟨_, a, q c vs A H (Gr.refl k.sub) b d⟩
end
/-! # defs -/
theorem ok_entryC {A H : Hp} {c : Addr} {cs : List V} {ds : List Dat} (s : Ex A H) (hA : A c = none) (hH : H c = some (.lst cs)) (rc : Reps A cs ds) (N : List Str) {vs : List V} {xs : List Dat} (r : Reps A vs xs) (hN : vs.length < N.length) :
    Ok (hide c H) A H (L2.start N (V.ref c :: vs)) (Slot.b c ds :: entry (N.drop 1) xs) := by
  have q := ok_entry s (N.drop 1) r
  have e1 : L2.start N (V.ref c :: vs) = some (V.ref c) :: L2.start (N.drop 1) vs := by
    unfold L2.start
    rw [List.map_cons, List.cons_append, List.length_cons, List.length_drop]
    congr 3
    omega
  rw [e1]
  have no : ∀ (i : Nat) (t : Slot), (entry (N.drop 1) xs)[i]? = some t → t.mine = false ∧ ∀ K m, t ≠ .scr K m := fun i t h => by
    unfold entry at h
    by_cases hi : i < xs.length
    · rw [List.getElem?_append_left (by simpa using hi), List.getElem?_map] at h
      cases e : xs[i]? with
      | none => rw [e] at h; cases h
      | some a => rw [e] at h; cases h; exact ⟨rfl, fun _ _ z => nomatch z⟩
    · rw [List.getElem?_append_right (by simpa using hi), List.getElem?_replicate] at h
      split at h <;> cases h
      exact ⟨rfl, fun _ _ z => nomatch z⟩
  refine ⟨s, by rw [List.length_cons, List.length_cons, q.len], fun i x h => ?_, fun i ys h => ?_, fun i ys h => ?_, fun i d ys h => ?_, fun i K m h => ?_, fun i j l t u h1 h2 h3 h4 h5 h6 => ?_⟩
  · cases i with
    | zero => cases h
    | succ i => exact q.get i x h
  · cases i with
    | zero => cases h
    | succ i => exact absurd (no i _ h).1 (by intro z; cases z)
  · cases i with
    | zero => cases h
    | succ i => exact absurd (no i _ h).1 (by intro z; cases z)
  · cases i with
    | zero =>
      cases h
      exact ⟨cs, rfl, hide_self, hA, hH, rc⟩
    | succ i => exact absurd (no i _ h).1 (by intro z; cases z)
  · cases i with
    | zero => cases h
    | succ i => exact absurd rfl ((no i _ h).2 K m)
  · cases i with
    | zero =>
      cases j with
      | zero => rfl
      | succ j =>
        rw [(no j u h2).1] at h4
        cases h4
    | succ i =>
      rw [(no i t h1).1] at h3
      cases h3
theorem gr_lend {A H : Hp} {c : Addr} (s : Ex A H) : Gr A (hide c H) A H := ⟨fun a o e => by
  by_cases q : a = c
  · subst q
    rw [hide_self] at e
    cases e
  · rwa [hide_ne q] at e, Ex.refl A, s, fun _ _ _ _ n => n⟩
section
variable {P : Program} {w0 : World} {K : PySem.W.Frag} {mg : Str → Option Value} {base : Heap}
theorem fn_prC {x qual : Str} {st : Stmt} {f : Addr} {fd : FuncData} {N ps : List Str} {k : Nat} {Rf : List Dat → List Dat → Dat → List Dat → Prop} {Pre : List Dat → List Dat → Prop} (F : Fun K x qual st f fd) (S : FnScope N ps (defScope st)) (hlen : ∀ ds xs, Pre ds xs → xs.length + 1 = ps.length)
    (hbody : ∀ (cdv : Value) (A : Around) (outer : List PySem.Env) (s : Shared) (H : Hp) (E : XK), Room k (A.deeper (envOfC qual (defScope st) s.heap.objs.size f cdv)) →
      ∃ t, PSs (cxOf CX0 P w0 K mg base N qual (defScope st) f cdv A outer s H E).nox (defBody st) t ∧ ∀ c ds xs, Pre ds xs → Run t (Slot.b c ds :: entry (N.drop 1) xs) (fun δ => ∃ ds', δ[0]? = some (Slot.b c ds') ∧ Rf ds xs .non ds') (fun x δ => ∃ ds', δ[0]? = some (Slot.b c ds') ∧ Rf ds xs x ds')) :
    FnOk P w0 K mg base CX0 (k + 1) f fd ps (PrC Rf Pre) := by
  refine F.ok S (fun vs H Q E h => ?_) fun cdv A outer s H vs Q E hr h => ?_
  · obtain ⟨A, c, cs, ds, us, xs, rfl, _, _, _, _, r, hp, _⟩ := h
    rw [List.length_cons, r.len]
    exact hlen ds xs hp
  · obtain ⟨B, c, cs, ds, us, xs, rfl, sub, hB, hH, rc, r, hp, q⟩ := h
    obtain ⟨t, h1, h2⟩ := hbody cdv A outer s H E hr
    have pl := hlen ds xs hp
    have nl : us.length < N.length := by
      have e := congrArg List.length S.pre
      rw [List.length_take] at e
      rw [r.len]
      omega
    have fin : ∀ (v : V) (C H' : Hp) (z : Dat) (σ' : L2.St) (δ : Gam), (∃ ds', δ[0]? = some (Slot.b c ds') ∧ Rf ds xs z ds') → Gr B (hide c H) C H' → Ok (hide c H) C H' σ' δ → Rep C v z → Q v H' := fun v C H' z σ' δ hz g k' rz => by
      obtain ⟨ds', hd, hR⟩ := hz
      obtain ⟨cs', _, _, hC, hc, rc'⟩ := k'.bor 0 c ds' hd
      exact q v C H' z cs' ds' hR g hC hc rc' rz
    refine ⟨t, h1, h2 c ds xs hp B (hide c H) B H _ (gr_lend sub) (ok_entryC sub hB hH rc N r nl) _ (fun δ C H' σ' hn g _ k' => ?_) fun v C H' z σ' δ hz g k' rz => ?_⟩
    · exact fin .non C H' .non σ' δ hn g k' .non
    · exact fin v C H' z σ' δ hz g k' rz
end
end Fr

set_option Elab.async false
set_option linter.all false
set_option maxRecDepth 100000
set_option maxHeartbeats 4000000
namespace Fr
open PySem PySem.Spec PyProof.Rows L2
open Evl (Ex)
/-! # great powers -/
def CPowW (i j : Int) : Prop := 0 ≤ j ∧ (Builtin.Int.intBits i : Int) * j ≤ 2 ^ 27
theorem op_powW {X : Cx} : OpR X (binaryOp .Pow) (rI CPowW fun i j => .int (i ^ j.toNat)) := opI fun _ _ _ _ _ _ _ hc q => pow_int hc.1 hc.2 q
/-- int(n), abs(n), max(m, n), min(m, n) -/
def rInt1 : List V → Hp → VK → Prop := fun xs H Q => (∃ i, xs = [V.int i] ∧ Q (V.int i) H) ∨ ∃ k, xs = [V.bl k] ∧ Q (V.int (if k = true then 1 else 0)) H
theorem call_int1' {X : Cx} : CallR X (.type "int") rInt1 := call_int1
def rAbs1 : List V → Hp → VK → Prop := fun xs H Q => ∃ i, xs = [V.int i] ∧ Q (V.int (if i < 0 then -i else i)) H
theorem call_abs' {X : Cx} : CallR X (.builtin "abs") rAbs1 := call_abs
def rMax2' : List V → Hp → VK → Prop := fun xs H Q => ∃ i j, xs = [V.int i, V.int j] ∧ Q (V.int (if j > i then j else i)) H
theorem call_max2' {X : Cx} (h : X.calm = true) : CallR X (.builtin "max") rMax2' := call_max2 h
def rMin2' : List V → Hp → VK → Prop := fun xs H Q => ∃ i j, xs = [V.int i, V.int j] ∧ Q (V.int (if j < i then j else i)) H
theorem call_min2' {X : Cx} (h : X.calm = true) : CallR X (.builtin "min") rMin2' := call_min2 h
section
variable {K : PySem.W.Frag} {γ δ : Gam} {ta tb te : TE} {x y z : Dat} {xs ys : List Dat} {S S1 S2 : Dat → Gam → Prop} {N M : Gam → Prop} {R : Dat → Gam → Prop} {tu tw : TS}
theorem r2_powW {i j : Int} (h : CPowW i j) : R2D (rI CPowW fun i j => .int (i ^ j.toNat)) (.int i) (.int j) (.int (i ^ j.toNat)) := r2_I h fun _ => .int _
theorem r2_pow {i j : Int} (h : CPow i j) : R2D (rI CPow fun i j => .int (i ^ j.toNat)) (.int i) (.int j) (.int (i ^ j.toNat)) := r2_I h fun _ => .int _
theorem rc_int1 {i : Int} : RCD rInt1 [.int i] (.int i) := fun A H vs s r Q q => by
  cases r with
  | cons r1 r2 =>
    cases r1
    cases r2
    exact .inl ⟨i, rfl, q _ A H (Gr.refl s) (.int _)⟩
theorem rc_abs1 {i : Int} : RCD rAbs1 [.int i] (.int (if i < 0 then -i else i)) := fun A H vs s r Q q => by
  cases r with
  | cons r1 r2 =>
    cases r1
    cases r2
    exact ⟨i, rfl, q _ A H (Gr.refl s) (.int _)⟩
theorem rc_max2 {i j : Int} : RCD rMax2' [.int i, .int j] (.int (if j > i then j else i)) := fun A H vs s r Q q => by
  cases r with
  | cons r1 r2 =>
    cases r1
    cases r2 with
    | cons r2 r3 =>
      cases r2
      cases r3
      exact ⟨i, j, rfl, q _ A H (Gr.refl s) (.int _)⟩
theorem rc_min2 {i j : Int} : RCD rMin2' [.int i, .int j] (.int (if j < i then j else i)) := fun A H vs s r Q q => by
  cases r with
  | cons r1 r2 =>
    cases r1
    cases r2 with
    | cons r2 r3 =>
      cases r2
      cases r3
      exact ⟨i, j, rfl, q _ A H (Gr.refl s) (.int _)⟩
theorem ev_int1 {i : Int} (h : EvD te γ (.int i)) : EvD (tCB rInt1 (tCons te tNil)) γ (.int i) := ev_cb (ea_cons h ea_nil) rc_int1
/-- a built-in upon what changes -/
theorem ex_cb {rc : List V → Hp → VK → Prop} {tr : TA} (h : EvXA tr γ (fun xs δ => ∃ z, RCD rc xs z ∧ S z δ)) : EvX (tCB rc tr) γ S := fun A0 H0 A H σ g0 k Q q =>
  h A0 H0 A H σ g0 k _ fun vs B H1 xs δ hs g1 v1 k1 r1 => by
    obtain ⟨z, hR, hS⟩ := hs
    exact hR B H1 vs g1.sub r1 Q fun v C H2 g2 r2 => q v C H2 z δ hS (g1.trans g2) (v1.trans g2.view) (k1.mono g2) r2
/-- found.append(e), e a thing that changes the crate -/
theorem runx_app {i : Nat} {ys0 : List Dat} (h0 : γ[i]? = some (Slot.o ys0)) (h : EvX te γ (fun x δ => ∃ xs, δ[i]? = some (Slot.o xs) ∧ xs.length < sizeLine ∧ N (δ.set i (.o (xs ++ [x]))))) : Run (tDrop (tBM K "list" rAppend (tVar i) (tCons te tNil))) γ N R := fun A0 H0 A H σ g0 k D dn dr => by
  obtain ⟨l0, vs0, e0, _, _, hH0, _⟩ := k.own i ys0 h0
  refine ⟨.ref l0, e0, .inl ⟨rfl, vs0, SqL.of hH0⟩, h A0 H0 A H σ g0 k _ fun v B H1 x δ hs g1 v1 k1 r1 => ?_⟩
  obtain ⟨xs, hx, hz, hn⟩ := hs
  obtain ⟨l, vs, e, h0', hB, hH, r⟩ := k1.own i xs hx
  rw [e0] at e
  cases e
  refine ⟨l0, vs, v, rfl, rfl, hH, by rw [r.len]; exact hz, ?_⟩
  exact dn _ B _ σ hn (g1.mut h0' hB) v1 (k1.change hx e0 (r.app (Reps.one r1)))
/-- for k in range(e), e a thing that changes the crate -/
theorem runx_forR {tr : TA} {j : Nat} (I : Int → Nat → Gam → Prop) (h : EvXA tr γ (fun xs δ => ∃ n, xs = [.int n] ∧ -(2 ^ 62) ≤ n ∧ n < 2 ^ 62 ∧ I n 0 δ))
    (hs : ∀ (n : Int) (i : Nat) δ, (i : Int) < n → I n i δ → Run tu (δ.set j (.d (.int (i : Int)))) (I n (i + 1)) R) (hd : ∀ n δ, I n n.toNat δ → N δ) : Run (tFor (iRng1 tr) (gName j) tu) γ N R := fun A0 H0 A H σ g0 k D dn dr =>
  h A0 H0 A H σ g0 k _ fun vs B H1 xs δ hs' g1 v1 k1 r1 => by
    obtain ⟨n, rfl, b1, b2, hI0⟩ := hs'
    cases r1 with
    | cons r1 r2 =>
      cases r1
      cases r2
      refine ⟨n, rfl, b1, b2, for_range (lo := 0) (n := n.toNat) (fun i σ' H' => ∃ δ C, I n i δ ∧ Gr A0 H0 C H' ∧ Ex B C ∧ Ok H0 C H' σ' δ) ⟨δ, B, hI0, g1, Ex.refl B, k1⟩ ?_ ?_⟩
      · rintro i σ' H' hi ⟨δ, C, hI, g2, v2, k2⟩
        have e0 : (0 : Int) + (i : Int) = (i : Int) := Int.zero_add _
        rw [e0]
        have k3 := k2.setD (v := .int (i : Int)) (.int _) j
        exact hs n i δ (by omega) hI A0 H0 C H' _ g2 k3 { D with nx := _, ct := _, bk := D.nx } (fun δ' C' H3 σ4 hN g4 v4 k4 => ⟨δ', C', hN, g4, v2.trans v4, k4⟩) dr
      · rintro σ' H' ⟨δ, C, hI, g2, v2, k2⟩
        exact dn δ C H' σ' (hd n δ hI) g2 (v1.trans v2) k2
end
/-! # the law's crate: a number that is used up, one that is not, and how often it was asked -/
def CrOk (ds : List Dat) (n : Nat) : Prop := ∃ a b k : Int, ds = [.int a, .int b, .int k] ∧ 0 ≤ a ∧ 0 ≤ b ∧ b < 2 ^ 140 ∧ 0 ≤ k ∧ k ≤ (n : Int)
theorem CrOk.mono {ds : List Dat} {n m : Nat} (h : CrOk ds n) (hm : n ≤ m) : CrOk ds m := by
  obtain ⟨a, b, k, e, h1, h2, h3, h4, h5⟩ := h
  exact ⟨a, b, k, e, h1, h2, h3, h4, by omega⟩
theorem fmod_in {x m : Int} (h : 0 < m) : 0 ≤ x.fmod m ∧ x.fmod m < m := by
  rw [Int.fmod_eq_emod_of_nonneg x (by omega)]
  exact ⟨Int.emod_nonneg x (by omega), Int.emod_lt_of_pos x h⟩
theorem bits_of {x : Int} {k : Nat} (h0 : 0 ≤ x) (h : x < 2 ^ k) : Builtin.Int.intBits x ≤ k := by
  refine intBits_le ?_
  have e : (x.natAbs : Int) = x := Int.natAbs_of_nonneg h0
  have e2 : ((2 ^ k : Nat) : Int) = 2 ^ k := by norm_cast
  omega
end Fr

set_option Elab.async false
set_option linter.all false
set_option maxRecDepth 100000
set_option maxHeartbeats 4000000
namespace Fr
open PySem PySem.Spec PyProof.Rows L2
open Evl (Ex)
section
variable {K : PySem.W.Frag} {γ δ : Gam} {ta tb te : TE} {t u : TT} {x y z : Dat} {r : R2} {xs ys : List Dat} {S S1 S2 : Dat → Gam → Prop} {N M : Gam → Prop} {R : Dat → Gam → Prop} {tu tw : TS}
theorem exa_consC {tr : TA} {S : List Dat → Gam → Prop} (h : EvX ta γ (fun x δ => EvXA tr δ (fun xs ε => S (x :: xs) ε))) : EvXA (tCons ta tr) γ S := exa_cons h fun _ _ h => h
theorem ex_opC (h : EvX ta γ (fun x δ => EvX tb δ (fun y ε => ∃ z, R2D r x y z ∧ S z ε))) : EvX (tOp r ta tb) γ S := ex_op h fun _ _ h => h
theorem run_seqC (h : Run tu γ (fun δ => Run tw δ N R) R) : Run (tSeq tu tw) γ N R := run_seq h fun _ h => h
theorem ex_ifP {b : Bool} (h : EvT t γ b) (h1 : b = true → EvX ta γ S) (h2 : b = false → EvX tb γ S) : EvX (tIf t ta tb) γ S :=
  ex_if (S1 := fun b' δ => b' = b ∧ δ = γ) (ext_of h ⟨rfl, rfl⟩) (by rintro δ ⟨e, rfl⟩; exact h1 e.symm) (by rintro δ ⟨e, rfl⟩; exact h2 e.symm)
theorem ex_ifC (h : EvXT t γ (fun b δ => (b = true → EvX ta δ S) ∧ (b = false → EvX tb δ S))) : EvX (tIf t ta tb) γ S := ex_if h (fun _ h => h.1 rfl) fun _ h => h.2 rfl
theorem runx_ifC (h : EvXT t γ (fun b δ => (b = true → Run tu δ N R) ∧ (b = false → Run tw δ N R))) : Run (tIfS t tu tw) γ N R := runx_if h (fun _ h => h.1 rfl) fun _ h => h.2 rfl
theorem CrOk.least {ds : List Dat} {n : Nat} (h : CrOk ds n) : ∃ m : Nat, m ≤ n ∧ CrOk ds m ∧ ∀ k, CrOk ds k → m ≤ k := by
  obtain ⟨a, b, k, e, h1, h2, h3, h4, h5⟩ := h
  refine ⟨k.toNat, by omega, ⟨a, b, k, e, h1, h2, h3, h4, by omega⟩, fun n' h' => ?_⟩
  obtain ⟨a', b', k', e', g1, g2, g3, g4, g5⟩ := h'
  rw [e] at e'
  cases e'
  omega
end
structure CalS (P : Program) (w0 : World) (K : PySem.W.Frag) (mg : Str → Option Value) (base : Heap) (x : Str) (ps : List Str) (k : Nat) (S : Sp) (f : Addr) (fd : FuncData) : Prop where
  ok : FnOk P w0 K mg base CX0 k f fd ps S
  bd : Binds K fd ps []
  at_ : mg x = some (.ref f)
  kp : PySem.W.keepIn K (.ref f) = true
def Bits (ns : List Int) : Prop := ∀ b ∈ ns, b = 0 ∨ b = 1
theorem Bits.nil : Bits [] := fun _ h => nomatch h
theorem Bits.app {ns ms : List Int} (h : Bits ns) (k : Bits ms) : Bits (ns ++ ms) := fun b hb => (List.mem_append.mp hb).elim (h b) (k b)
theorem Bits.one {b : Int} (h : b = 0 ∨ b = 1) : Bits [b] := fun c hc => by
  rw [List.mem_singleton.mp hc]
  exact h
theorem Bits.two {b : Int} (h0 : 0 ≤ b) (h1 : b < 2) : Bits [b] := .one (by omega)
theorem Bits.take {ns : List Int} (h : Bits ns) (n : Nat) : Bits (ns.take n) := fun b hb => h b (List.mem_of_mem_take hb)
theorem Bits.drop {ns : List Int} (h : Bits ns) (n : Nat) : Bits (ns.drop n) := fun b hb => h b (List.mem_of_mem_drop hb)
/-- a def of which only a bound is told -/
def PrX (Pre : List Dat → Prop) (Rf : List Dat → Dat → Prop) : Sp := fun vs H Q _ => ∃ A xs, Ex A H ∧ Reps A vs xs ∧ Pre xs ∧ ∀ v B H' x, Rf xs x → Gr A H B H' → Rep B v x → Q v H'
section
variable {K : PySem.W.Frag} {γ δ : Gam} {ta tb te : TE} {t u : TT} {x y z : Dat} {r : R2} {xs ys : List Dat} {S S1 S2 : Dat → Gam → Prop} {N M : Gam → Prop} {R : Dat → Gam → Prop} {tu tw : TS}
theorem ex_callX {Pre : List Dat → Prop} {Rf : List Dat → Dat → Prop} {E : XK} {tr : TA} (h : EvXA tr γ (fun xs δ => Pre xs ∧ ∀ z, Rf xs z → S z δ)) : EvX (tCall (PrX Pre Rf) [] E tr) γ S := fun A0 H0 A H σ g0 k Q q =>
  h A0 H0 A H σ g0 k _ fun vs B H1 xs δ hs g1 v1 k1 r1 => by
    obtain ⟨hP, hS⟩ := hs
    exact ⟨B, xs, g1.sub, by rw [List.append_nil]; exact r1, hP, fun v C H2 z hR g2 r2 => q v C H2 z δ (hS z hR) (g1.trans g2) (v1.trans g2.view) (k1.mono g2) r2⟩
theorem r2_eqS {a b : Str} : R2D rEq (.str a) (.str b) (.bl (decide (a = b))) := fun A H vx vy s r1 r2 Q q => by
  cases r1
  cases r2
  refine ⟨rfl, q _ A H (Gr.refl s) ?_⟩
  have e : decide (V.str a = V.str b) = decide (a = b) := decide_eq_decide.mpr ⟨fun h => V.str.inj h, fun h => h ▸ rfl⟩
  rw [e]
  exact .bl _
theorem runx_forT {tl : TE} {g : TG} (I : List Dat → Nat → Gam → Prop) (h : EvX tl γ (fun x δ => ∃ xs, x = .tup xs ∧ I xs 0 δ))
    (hs : ∀ xs i x δ, xs[i]? = some x → I xs i δ → ∃ js ε, Tg g js δ x ε ∧ Run tu ε (I xs (i + 1)) R) (hd : ∀ xs δ, I xs xs.length δ → N δ) : Run (tFor (iTup K tl) g tu) γ N R := fun A0 H0 A H σ g0 k D dn dr =>
  h A0 H0 A H σ g0 k _ fun v B H1 x δ hs' g1 v1 k1 r1 => by
    obtain ⟨xs, rfl, h0⟩ := hs'
    cases r1 with
    | @tup a us _ ha ru =>
      refine ⟨a, rfl, ⟨us, SqT.of (g1.sub _ _ ha)⟩, for_tup (K := K) (xs := us) (fun i σ' H' => ∃ δ C, I xs i δ ∧ Gr A0 H0 C H' ∧ Ex B C ∧ Ok H0 C H' σ' δ) ⟨δ, B, h0, g1, Ex.refl B, k1⟩ ?_ ?_ ?_⟩
      · rintro i σ' H' _ ⟨δ, C, _, g2, v2, _⟩
        exact SqT.of (g2.sub _ _ (v2 _ _ ha))
      · rintro i u σ' H' hi ⟨δ, C, hI, g2, v2, k2⟩
        obtain ⟨x, hx, rx⟩ := ru.getV hi
        obtain ⟨js, ε, ht, hr⟩ := hs xs i x δ hx hI
        refine ht H0 C H' σ' u k2 (rx.mono v2) _ fun σ3 k3 _ _ => ?_
        exact hr A0 H0 C H' σ3 g2 k3 { D with nx := _, ct := _, bk := D.nx } (fun δ' C' H3 σ4 hN g4 v4 k4 => ⟨δ', C', hN, g4, v2.trans v4, k4⟩) dr
      · rintro σ' H' ⟨δ, C, hI, g2, v2, k2⟩
        rw [ru.len] at hI
        exact dn δ C H' σ' (hd xs δ hI) g2 (v1.trans v2) k2
theorem w_len {a b : List Int} (h : w a = w b) : a.length = b.length := by
  have e := congrArg List.length (Dat.tup.inj h)
  rwa [List.length_map, List.length_map] at e
theorem run_par {i j : Nat} {ta : TA} (h : EvA ta γ [x, y]) (hn : N ((γ.set i (.d x)).set j (.d y))) : Run (tPar i j ta) γ N R := runx_par (exa_of h ⟨x, y, rfl, hn⟩)
end
section
variable {P : Program} {w0 : World} {K : PySem.W.Frag} {mg : Str → Option Value} {base : Heap}
theorem fn_prX {x qual : Str} {st : Stmt} {f : Addr} {fd : FuncData} {N ps : List Str} {k : Nat} {Pre : List Dat → Prop} {Rf : List Dat → Dat → Prop} (F : Fun K x qual st f fd) (S : FnScope N ps (defScope st)) (hlen : ∀ xs, Pre xs → xs.length = ps.length)
    (hbody : ∀ (cdv : Value) (A : Around) (outer : List PySem.Env) (s : Shared) (H : Hp) (E : XK), Room k (A.deeper (envOfC qual (defScope st) s.heap.objs.size f cdv)) →
      ∃ t, PSs (cxOf CX0 P w0 K mg base N qual (defScope st) f cdv A outer s H E).nox (defBody st) t ∧ ∀ xs, Pre xs → Run t (entry N xs) (fun _ => Rf xs .non) (fun z _ => Rf xs z)) : FnOk P w0 K mg base CX0 (k + 1) f fd ps (PrX Pre Rf) := by
  refine F.ok S (fun vs H Q E h => ?_) fun cdv A outer s H vs Q E hr h => ?_
  · obtain ⟨A, xs, s, r, hP, _⟩ := h
    rw [r.len]
    exact hlen xs hP
  · obtain ⟨B, xs, sub, r, hP, q⟩ := h
    obtain ⟨t, h1, h2⟩ := hbody cdv A outer s H E hr
    refine ⟨t, h1, h2 xs hP B H B H _ (Gr.refl sub) (ok_entry sub N r) _ (fun δ C H' σ' hn g _ k' => ?_) fun v C H' z σ' δ hz g _ rz => ?_⟩
    · exact q _ C H' _ hn g .non
    · exact q v C H' z hz g rz
end
end Fr

set_option Elab.async false
set_option linter.all false
set_option maxRecDepth 100000
set_option maxHeartbeats 4000000
namespace Fr
open PySem PySem.Spec PyProof.Rows L2
open Evl (Ex)
theorem Ok.move {H0 A H H0' A' H' : Hp} {σ : L2.St} {γ : Gam} (k : Ok H0 A H σ γ) (s : Ex A' H') (v : Ex A A') (h : ∀ c o, H0 c = none → A c = none → H c = some o → H0' c = none ∧ A' c = none ∧ H' c = some o) : Ok H0' A' H' σ γ := by
  refine ⟨s, k.len, fun i x q => ?_, fun i xs q => ?_, fun i xs q => ?_, fun i c xs q => ?_, fun i K m q => ?_, k.sep⟩
  · obtain ⟨u, a, b⟩ := k.get i x q
    exact ⟨u, a, b.mono v⟩
  · obtain ⟨a, vs, x1, x2, x3, x4, x5⟩ := k.own i xs q
    obtain ⟨y1, y2, y3⟩ := h a _ x2 x3 x4
    exact ⟨a, vs, x1, y1, y2, y3, x5.mono v⟩
  · obtain ⟨a, vs, x1, x2, x3, x4, x5⟩ := k.ownD i xs q
    obtain ⟨y1, y2, y3⟩ := h a _ x2 x3 x4
    exact ⟨a, vs, x1, y1, y2, y3, x5.mono v⟩
  · obtain ⟨vs, x1, x2, x3, x4, x5⟩ := k.bor i c xs q
    obtain ⟨y1, y2, y3⟩ := h c _ x2 x3 x4
    exact ⟨vs, x1, y1, y2, y3, x5.mono v⟩
  · obtain ⟨a, h1, h2⟩ := k.scr i K m q
    exact ⟨a, h1, Evl.ex_l v h2⟩
theorem Ok.unwipe {H0 A H : Hp} {σ : L2.St} {γ : Gam} {vs : List Nat} (k : Ok H0 A H (L2.wipe σ vs) γ) (hv : ∀ v ∈ vs, ∀ s, γ[v]? = some s → s = .no) : Ok H0 A H σ γ := by
  have at_ : ∀ (i : Nat) (s : Slot), γ[i]? = some s → s ≠ .no → (L2.wipe σ vs)[i]? = σ[i]? := fun i s h n => by
    rw [wipe_get, if_neg fun z => n (hv i z.1 s h)]
  have ne : ∀ s : Slot, s.mine = true → s ≠ .no := fun s m z => by rw [z] at m; cases m
  refine ⟨k.sub, by rw [← wipe_length σ vs]; exact k.len, fun i x q => ?_, fun i xs q => ?_, fun i xs q => ?_, fun i c xs q => ?_, fun i K m q => ?_, fun i j l s t h1 h2 h3 h4 h5 h6 => ?_⟩
  · have := k.get i x q
    rwa [at_ i _ q (by intro z; cases z)] at this
  · have := k.own i xs q
    rwa [at_ i _ q (by intro z; cases z)] at this
  · have := k.ownD i xs q
    rwa [at_ i _ q (by intro z; cases z)] at this
  · have := k.bor i c xs q
    rwa [at_ i _ q (by intro z; cases z)] at this
  · have := k.scr i K m q
    rwa [at_ i _ q (by intro z; cases z)] at this
  · exact k.sep i j l s t h1 h2 h3 h4 (by rw [at_ i s h1 (ne s h3)]; exact h5) (by rw [at_ j t h2 (ne t h4)]; exact h6)
theorem t_yes {σ : L2.St} {H : Hp} {X Y : Hp → Prop} (h : X H) : tYes σ H (fun b H3 => if b = true then X H3 else Y H3) := by
  show if true = true then X H else Y H
  rw [if_pos rfl]
  exact h
section
variable {K : PySem.W.Frag} {γ δ : Gam} {ta tb te : TE} {t u : TT} {x y z : Dat} {xs ys : List Dat} {S S1 S2 : Dat → Gam → Prop} {N M : Gam → Prop} {R : Dat → Gam → Prop} {tu tw : TS}
/-- [e for k in range(n)], n and e things that change what is the frame's own -/
theorem ex_lcRX {tr : TA} {j : Nat} {vs : List Nat} (I : Int → Nat → Gam → List Dat → Prop) (hj : j ∈ vs) (h : EvXA tr γ (fun xs δ => ∃ n, xs = [.int n] ∧ -(2 ^ 62) ≤ n ∧ n < sizeLine ∧ I n 0 (wipeG δ vs) []))
    (hv : ∀ n i δ zs, I n i δ zs → ∀ v ∈ vs, ∀ s, δ[v]? = some s → s = .no)
    (hs : ∀ (n : Int) (i : Nat) δ zs, (i : Int) < n → I n i δ zs → EvX te (δ.set j (.d (.int (i : Int)))) (fun x ε => I n (i + 1) (wipeG ε vs) (zs ++ [x]))) (hd : ∀ n δ zs, I n n.toNat δ zs → S (.lst zs) δ) : EvX (tLc (iRng1 tr) (gName j) tYes te vs) γ S := fun A0 H0 A H σ g0 k Q q =>
  h A0 H0 A H σ g0 k _ fun us B H1 xs δ hs' g1 v1 k1 r1 => by
    obtain ⟨n, rfl, b1, b2, hI0⟩ := hs'
    have hsz : (sizeLine : Int) < 2 ^ 62 := by rw [sizeLine_eq]; decide
    cases r1 with
    | cons r1 r2 =>
      cases r1
      cases r2
      refine ⟨n, rfl, b1, by omega, fun D hD => ?_⟩
      have d0 : H0 D = none := Evl.fresh_back g1.up hD
      have dA : A0 D = none := Evl.fresh_back (g1.view.trans g1.sub) hD
      have dB : B D = none := Evl.fresh_back g1.sub hD
      have e0 : ∀ a o, H0 a = some o → a ≠ D := fun a o e => ne_of_none e d0
      have step : ∀ (C H4 : Hp) (σ2 : L2.St) (ε : Gam) (acc us : List V), Gr A0 (upd H0 D (.lst acc)) C H4 → Ok (upd H0 D (.lst acc)) C H4 σ2 ε → Gr A0 (upd H0 D (.lst us)) C (upd H4 D (.lst us)) ∧ Ok (upd H0 D (.lst us)) C (upd H4 D (.lst us)) σ2 ε := fun C H4 σ2 ε acc us g k => by
        have cD : C D = none := g.hid D _ upd_same True.intro dA
        refine ⟨⟨fun a o e => ?_, g.view, g.sub.mut cD, fun a o e m nn => ?_⟩, k.move (g.sub.mut cD) (Ex.refl C) fun c o x1 x2 x3 => ?_⟩
        · by_cases z : a = D
          · subst z
            rw [upd_same] at e ⊢
            exact e
          · rw [upd_ne z] at e ⊢
            exact g.up a o (by rw [upd_ne z]; exact e)
        · by_cases z : a = D
          · subst z
            exact cD
          · rw [upd_ne z] at e
            exact g.hid a o (by rw [upd_ne z]; exact e) m nn
        · have z : c ≠ D := fun z => by
            subst z
            rw [upd_same] at x1
            cases x1
          rw [upd_ne z] at x1 ⊢
          exact ⟨x1, x2, by rw [upd_ne z]; exact x3⟩
      refine lc_range (lo := 0) (n := n.toNat) (fun i H' => ∃ C δ acc zs, I n i δ zs ∧ zs.length = i ∧ Gr A0 (upd H0 D (.lst acc)) C H' ∧ Ex B C ∧ Ok (upd H0 D (.lst acc)) C H' (L2.wipe σ vs) δ ∧ Reps C acc zs) ?_ ?_ ?_
      · refine ⟨B, wipeG δ vs, [], [], hI0, rfl, ⟨fun a o e => ?_, g1.view, g1.sub.trans (Ex.new hD), fun a o e m nn => ?_⟩, Ex.refl B, (k1.wipe vs).move (g1.sub.trans (Ex.new hD)) (Ex.refl B) fun c o x1 x2 x3 => ?_, .nil⟩
        · by_cases z : a = D
          · subst z
            rw [upd_same] at e ⊢
            exact e
          · rw [upd_ne z] at e ⊢
            exact g1.up a o e
        · by_cases z : a = D
          · subst z
            exact dB
          · rw [upd_ne z] at e
            exact g1.hid a o e m nn
        · have z : c ≠ D := ne_of_none x3 hD
          rw [upd_ne z]
          exact ⟨x1, x2, by rw [upd_ne z]; exact x3⟩
      · rintro i H' hi ⟨C, δ, acc, zs, hI, hl, g2, v2, k2, r2⟩
        have ez : (0 : Int) + (i : Int) = (i : Int) := Int.zero_add _
        rw [ez]
        have back : L2.wipe ((L2.wipe σ vs).set j (some (V.int (i : Int)))) vs = L2.wipe σ vs := wipe_back (js := [j]) (by rw [List.length_set]) (fun a ha => by rw [List.getElem?_set_ne (fun e => ha (by rw [e]; exact List.mem_singleton.mpr rfl))]) fun a ha => by rw [List.mem_singleton.mp ha]; exact hj
        refine ⟨back, ?_⟩
        refine t_yes ?_
        refine hs n i δ zs (by omega) hI A0 _ C H' _ g2 (k2.setD (v := .int (i : Int)) (.int _) j) _ fun yv C3 H4 x ε hI3 g3 v3 k3 r3 => ?_
        refine ⟨acc, g3.up _ _ upd_same, by rw [r2.len]; omega, C3, wipeG ε vs, acc ++ [yv], zs ++ [x], hI3, by rw [List.length_append, List.length_singleton, hl], ?_⟩
        have k4 := k3.wipe vs
        rw [back] at k4
        obtain ⟨s1, s2⟩ := step C3 H4 (L2.wipe σ vs) (wipeG ε vs) acc (acc ++ [yv]) g3 k4
        exact ⟨s1, v2.trans v3, s2, (r2.mono v3).app (Reps.one r3)⟩
      · rintro H' ⟨C, δ, acc, zs, hI, hl, g2, v2, k2, r2⟩
        have cD : C D = none := g2.hid D _ upd_same True.intro dA
        have hD' : H' D = some (.lst acc) := g2.up _ _ upd_same
        have g3 : Gr A0 H0 C H' := ⟨fun a o e => g2.up a o (by rw [upd_ne (e0 a o e)]; exact e), g2.view, g2.sub, fun a o e m nn => g2.hid a o (by rw [upd_ne (e0 a o e)]; exact e) m nn⟩
        have g4 := g3.show hD' d0 cD
        refine q (.ref D) _ H' _ δ (hd n δ zs hI) g4 ((v1.trans v2).trans (Ex.new cD)) ?_ (.lst upd_same (r2.mono (Ex.new cD)))
        refine (k2.unwipe (hv n _ δ zs hI)).move g4.sub (Ex.new cD) fun c o x1 x2 x3 => ?_
        have z : c ≠ D := fun z => by
          subst z
          rw [upd_same] at x1
          cases x1
        rw [upd_ne z] at x1 ⊢
        exact ⟨x1, x2, x3⟩
def EvXO (to : TO) (γ : Gam) (S : Option Int → Gam → Prop) : Prop := ∀ A0 H0 A H σ, Gr A0 H0 A H → Ok H0 A H σ γ → ∀ Q : Option Int → Hp → Prop, (∀ b B H' δ, S b δ → Gr A0 H0 B H' → Ex A B → Ok H0 B H' σ δ → Q b H') → to σ H Q
theorem exo_none {S : Option Int → Gam → Prop} (h : S none γ) : EvXO tNoPart γ S := fun A0 H0 A H σ g0 k Q q => q none A H γ h g0 (Ex.refl A) k
theorem exo_some {S : Option Int → Gam → Prop} (h : EvX te γ (fun x δ => ∃ i, x = .int i ∧ S (some i) δ)) : EvXO (tPart te) γ S := fun A0 H0 A H σ g0 k Q q =>
  h A0 H0 A H σ g0 k _ fun v B H1 x δ hs g1 v1 k1 r1 => by
    obtain ⟨i, rfl, hS⟩ := hs
    cases r1
    exact ⟨i, rfl, q _ B H1 δ hS g1 v1 k1⟩
theorem ex_cut {tl th : TO} (h : EvX te γ (fun x δ => ∃ ns, x = w ns ∧ EvXO tl δ (fun lo ε => EvXO th ε (fun hi ζ => S (w (cutI ns lo hi)) ζ)))) : EvX (tSl (rSlA K) te tl th) γ S := fun A0 H0 A H σ g0 k Q q =>
  h A0 H0 A H σ g0 k _ fun v B H1 x δ hs g1 v1 k1 r1 => by
    obtain ⟨ns, rfl, o1⟩ := hs
    refine o1 A0 H0 B H1 σ g1 k1 _ fun lo C H2 ε o2 g2 v2 k2 => o2 A0 H0 C H2 σ g2 k2 _ fun hi D H3 ζ hS g3 v3 k3 => ?_
    have hS : S (w (cutI ns lo hi)) ζ := hS
    rw [show w (cutI ns lo hi) = .tup (cutA (ns.map Dat.int) lo hi) by rw [cutA_map]; rfl] at hS
    cases r1 with
    | @tup a us _ ha R =>
      have vv := v2.trans v3
      refine ⟨a, us, rfl, SqT.of (g3.sub _ _ (vv _ _ ha)), fun e => ?_, fun _ p hp => ?_⟩
      · have ew : cutA (ns.map Dat.int) lo hi = ns.map Dat.int := by
          unfold cutA
          rw [← R.len, e.1, e.2, List.drop_zero, R.len]
          exact List.take_length
        rw [ew] at hS
        exact q _ D H3 _ ζ hS g3 (v1.trans vv) k3 (.tup (vv _ _ ha) (R.mono vv))
      · have g4 := Gr.new (o := .tup (cutV us lo hi)) g3.sub hp
        exact q _ _ _ _ ζ hS (g3.trans g4) ((v1.trans vv).trans g4.view) (k3.mono g4) (.tup upd_same ((R.mono vv).cut.mono g4.view))
end
end Fr

set_option Elab.async false
set_option linter.all false
set_option maxRecDepth 100000
set_option maxHeartbeats 4000000
namespace Fr
open PySem PySem.Spec PyProof.Rows L2
open Evl (Ex)
/-! # sorted: words of unlike lengths, none empty -/
theorem lex_asym : ∀ x y : List Int, HT.lexLt x y = true → HT.lexLt y x = false
  | [], [], h => by cases h
  | [], _ :: _, _ => rfl
  | _ :: _, [], h => by cases h
  | x :: xs, y :: ys, h => by
    rw [HT.lexLt_cons] at h ⊢
    by_cases e : x = y
    · subst e
      rw [if_pos rfl] at h ⊢
      exact lex_asym xs ys h
    · rw [if_neg e] at h
      rw [if_neg (fun z => e z.symm)]
      have := of_decide_eq_true h
      exact decide_eq_false (by omega)
theorem lex_tr : ∀ x y z : List Int, HT.lexLt y x = false → HT.lexLt z y = false → HT.lexLt z x = false
  | [], [], [], _, _ => rfl
  | [], [], _ :: _, _, _ => rfl
  | [], _ :: _, [], _, h => by cases h
  | [], _ :: _, _ :: _, _, _ => rfl
  | _ :: _, [], _, h, _ => by cases h
  | _ :: _, _ :: _, [], _, h => by cases h
  | x :: xs, y :: ys, z :: zs, h1, h2 => by
    rw [HT.lexLt_cons] at h1 h2 ⊢
    by_cases e1 : y = x
    · subst e1
      rw [if_pos rfl] at h1
      by_cases e2 : z = y
      · subst e2
        rw [if_pos rfl] at h2 ⊢
        exact lex_tr xs ys zs h1 h2
      · rw [if_neg e2] at h2 ⊢
        exact h2
    · rw [if_neg e1] at h1
      have a1 := of_decide_eq_false h1
      by_cases e2 : z = y
      · subst e2
        rw [if_neg e1]
        exact h1
      · rw [if_neg e2] at h2
        have a2 := of_decide_eq_false h2
        rw [if_neg (by omega)]
        exact decide_eq_false (by omega)
/-- two of which none is above the other are one -/
theorem lex_tri : ∀ x y : List Int, HT.lexLt x y = false → HT.lexLt y x = false → x = y
  | [], [], _, _ => rfl
  | [], _ :: _, h, _ => by cases h
  | _ :: _, [], _, h => by cases h
  | x :: xs, y :: ys, h1, h2 => by
    rw [HT.lexLt_cons] at h1 h2
    by_cases e : x = y
    · subst e
      rw [if_pos rfl] at h1 h2
      rw [lex_tri xs ys h1 h2]
    · rw [if_neg e] at h1
      rw [if_neg (fun z => e z.symm)] at h2
      have a1 := of_decide_eq_false h1
      have a2 := of_decide_eq_false h2
      omega
theorem swo_words {α : Type} (k : α → List Int) : SrtO.Swo fun v u => HT.lexLt (k v) (k u) := ⟨fun x y => lex_asym _ _, fun x y z => lex_tr _ _ _⟩
section
variable {prog : Program} {w : World} {A : Around} {E : Value → Shared → Prop} {s : Shared}
theorem kat_words {Q : Bool → Shared → Prop} {b fin : Bool} {xs ys : List Value} {ns ms : List Int} (i : Nat) (hx : IntsAre xs ns) (hy : IntsAre ys ms) (hf : fin = decide (ns.length < ms.length)) (h : Q (HT.lexLt ns ms) s) : PySem.W.KatLex prog w A b fin Q (xs.zip ys) i s := by
  induction hx generalizing ys ms i with
  | nil =>
    cases hy with
    | nil =>
      subst hf
      exact PySem.W.kat_nil h
    | cons q u hy =>
      have e : fin = true := by rw [hf]; exact decide_eq_true (Nat.zero_lt_succ _)
      subst e
      exact PySem.W.kat_nil h
  | @cons p t xs ns hx ih =>
    cases hy with
    | nil =>
      have e : fin = false := by rw [hf]; exact decide_eq_false (Nat.not_lt_zero _)
      subst e
      exact PySem.W.kat_nil h
    | @cons q u ys ms hy =>
      show PySem.W.KatLex prog w A b fin Q ((Value.int p t, Value.int q u) :: xs.zip ys) i s
      refine PySem.W.kat_cons (wpAny_eqBool_int ?_)
      rw [HT.lexLt_cons] at h
      have hf' : fin = decide (ns.length < ms.length) := by
        rw [hf]
        exact decide_eq_decide.mpr (by rw [List.length_cons, List.length_cons]; omega)
      by_cases e : p = q
      · subst e
        rw [beq_self_eq_true]
        rw [if_pos rfl] at h
        exact PySem.W.kat_yes (ih (i + 1) hy hf' h)
      · rw [show (p == q) = false from beq_eq_false_iff_ne.mpr e]
        rw [if_neg e] at h
        exact PySem.W.kat_no (TS.oneLt_ints _ h)
/-- each is a tuple of ints, not the empty one -/
def WordsAre (h : Heap) (k : Value → List Int) (vs : List Value) : Prop := ∀ v ∈ vs, TS.TupInts h v (k v) ∧ 0 < (k v).length
theorem words_firsts {h : Heap} {k : Value → List Int} : ∀ vs : List Value, WordsAre h k vs → ∃ fs, PySem.W.KatTups h vs fs ∧ fs.length = vs.length ∧ ∀ f, f ∈ fs → ∃ n t, f = Value.int n t
  | [], _ => ⟨[], PySem.W.KatTups.nil, rfl, fun f hf => by simp at hf⟩
  | v :: vs, x => by
    obtain ⟨fs, kk, hl, hi⟩ := words_firsts vs fun u hu => x u (List.mem_cons_of_mem _ hu)
    obtain ⟨⟨a, xs, rfl, ⟨o, ho, hc, n, hdt⟩, i⟩, hn⟩ := x v List.mem_cons_self
    obtain ⟨y, ys, e⟩ : ∃ y ys, xs.toList = y :: ys := by
      cases q : xs.toList with
      | nil =>
        have l := i.length
        rw [q, List.length_nil] at l
        omega
      | cons y ys => exact ⟨y, ys, rfl⟩
    obtain ⟨m, t, hy⟩ := i.all y (by rw [e]; exact List.mem_cons_self)
    refine ⟨y :: fs, PySem.W.KatTups.cons ho hc hdt ?_ kk, by simp [hl], ?_⟩
    · have z := congrArg (fun l : List Value => l[0]?) e
      simpa using z
    · intro f hf
      rcases List.mem_cons.mp hf with rfl | hf
      · exact ⟨m, t, hy⟩
      · exact hi f hf
theorem words_cmp {k : Value → List Int} {vs : List Value} (hp : WordsAre s.heap k vs) : SrtO.Cmp prog w A s (tuples' true) (fun p => p.1 ∈ vs) (SrtO.lt2 fun v u => HT.lexLt (k v) (k u)) := by
  intro p q hm hm'
  obtain ⟨⟨a, xs, e1, ⟨o, ho, hc, n, hdt⟩, i⟩, _⟩ := hp _ hm
  obtain ⟨⟨a', ys, e2, ⟨o', ho', hc', n', hdt'⟩, i'⟩, _⟩ := hp _ hm'
  show wpAny (model prog w) A (keyLt' (tuples' true) p.1 q.1) (fun r s' => s' = s ∧ r = HT.lexLt (k p.1) (k q.1)) (fun _ _ => False) s
  generalize k p.1 = ns at i ⊢
  generalize k q.1 = ms at i' ⊢
  rw [e1, e2]
  refine PySem.W.kat_lt ho hdt ho' hdt' (kat_words 0 i i' ?_ ⟨rfl, rfl⟩)
  have l1 := i.length
  have l2 := i'.length
  rw [Array.length_toList] at l1 l2
  rw [l1, l2]
theorem words_sortable {a : Addr} {k : Value → List Int} {vs : List Value} (h0 : 0 < vs.length) (hp : WordsAre s.heap k vs) (ha : ∀ o, s.heap.get? a = some o → o.cls ≠ .type "tuple") : SrtO.SortableO prog w A s a vs fun v u => HT.lexLt (k v) (k u) := by
  intro h' keep
  have hp' : WordsAre h' k vs := fun v hm => ⟨(hp v hm).1.keeps fun b o e c => keep b o (fun z => by subst z; exact ha o e c) e, (hp v hm).2⟩
  obtain ⟨fs, h1, h2, h3⟩ := words_firsts vs hp'
  refine ⟨tuples' true, fun Q E hq => ?_, words_cmp hp'⟩
  refine PySem.W.kat_kind (T := .type "int") h1 (by omega) (fun f hm => ?_) (by rfl) ?_
  · obtain ⟨x, t, rfl⟩ := h3 f hm
    exact PySem.W.Looks.now
  · have e : (Value.type "int" != Value.type "tuple") = true := by first | decide +kernel | rfl | decide
    rw [e]
    exact hq
end
/-- sorted(xs), xs a list of words, none empty (k says which) -/
def rSortedI (K : PySem.W.Frag) : List V → Hp → VK → Prop := fun vs H Q => ∃ (a : Addr) (xs : List V) (k : V → List Int), vs = [V.ref a] ∧ SqL K H a xs ∧ (∀ x ∈ xs, ∃ t, x = V.ref t ∧ H t = some (.tup ((k x).map V.int)) ∧ 0 < (k x).length) ∧
  ∀ (ys : List V) (p : Addr), SrtO.Srtd (fun x y => HT.lexLt (k x) (k y)) ys → ys.Perm xs → H p = none → Q (.ref p) (upd H p (.lst ys))
theorem cr_sortedI {X : Cx} : CallR X (.builtin "sorted") (rSortedI X.K) := by
  intro pins s σ H vs us Q I r h
  obtain ⟨a, xs, k, rfl, hs, hx, q⟩ := h
  obtain ⟨its, rv, hl, hz⟩ := I.list hs
  obtain ⟨u, rfl, ru⟩ := vals1 r
  obtain rfl : u = Value.ref a := ru
  obtain ⟨e1, e2⟩ := refs_back rv fun x m => by
    obtain ⟨t, e, _⟩ := hx x m
    exact ⟨t, e⟩
  have hp : WordsAre s.heap (fun u => k (backV u)) its := fun v hv => by
    obtain ⟨t, rfl⟩ := e2 v hv
    have hm : V.ref t ∈ xs := by rw [e1]; exact List.mem_map.mpr ⟨_, hv, rfl⟩
    obtain ⟨t', e, ht, hn⟩ := hx _ hm
    cases e
    obtain ⟨_, its2, r2, o⟩ := I.hok _ _ ht
    exact ⟨⟨t, _, rfl, o, r2.ints⟩, hn⟩
  refine SrtO.sorted_ord (swo_words fun u => k (backV u)) hl.isList (by rw [← rv.length]; exact hz) (fun h2 h₁ a' ha' kk => ?_) fun out h1 h2 => ?_
  · refine words_sortable (s := { s with heap := h₁ }) (by omega) (fun v hm => ⟨(hp v hm).1.keeps fun b o e _ => (kk b o e).2, (hp v hm).2⟩) fun o e => ?_
    have e' : some o = some (seqObj "list" its.toArray 0) := e.symm.trans ha'
    cases e'
    intro c
    exact absurd (Value.type.inj c) (by decide)
  · have h3 : ∀ u ∈ out, ∃ a, u = Value.ref a := fun u hu => e2 u (h2.perm.mem_iff.mp hu)
    obtain ⟨n, hn⟩ := sortedAll_at s.heap its out.toArray
    have hb : SrtO.Stb (fun x y => HT.lexLt (k x) (k y)) (out.map backV) xs := by
      rw [e1]
      exact SrtO.Stb.map (swo_words k) backV h2
    refine ⟨.ref (s.heap.objs.size + 1), upd H (s.heap.objs.size + 1) (.lst (out.map backV)), I.laid (t' := s.toks) (fun _ _ => PyProof.Rows.sortedAll_old) (Nat.le_succ _) ⟨?_, out, n, vals_back h3, hn⟩, rfl, q _ _ (SrtO.srtd_map h1) hb.perm (I.hok.fresh (Nat.le_succ _))⟩
    rw [hb.len]
    exact hz
theorem cr_sortedIK {X : Cx} {K : PySem.W.Frag} (e : X.K = K) : CallR X (.builtin "sorted") (rSortedI K) := e ▸ cr_sortedI
section
variable {K : PySem.W.Frag} {γ δ : Gam} {ta tb te : TE} {t u : TT} {x y z : Dat} {xs ys : List Dat} {N M : Gam → Prop} {R : Dat → Gam → Prop} {tu tw : TS}
end
end Fr

set_option Elab.async false
set_option linter.all false
set_option maxRecDepth 100000
set_option maxHeartbeats 4000000
namespace Fr
open PySem PySem.Spec PyProof.Rows L2
open Evl (Ex)
/-! # a tuple times an int that is 1 or more -/
theorem tuple_mul1 (l : Addr) (items : Array Value) (n : Nat) (dd : Option Addr) (sl : Array (Option Value)) (u : Tok) : Meets (Builtin.«tuple.__mul__» ⟨[.ref l, .int 1 u], []⟩) (fun _ R s => s.heap.get? l = some { cls := .type "tuple", dict := dd, data := .seq items n, slots := sl } ∧ R (.ok (.ret (Value.ref l))) s) :=
  .of_wp fun prog w A R s h => by
    obtain ⟨hp, g, d, tk, os⟩ := s
    obtain ⟨hl, h⟩ := h
    have f1 := AutoSeq1.idx_int
    wp_walk using wpAny_loadPart' hl
    exact ⟨_, rfl, h⟩
def rRepA (K : PySem.W.Frag) : R2 := fun x y H Q => rRepT K x y H Q ∨ ∃ l xs, x = .ref l ∧ y = .int 1 ∧ SqT K H l xs ∧ Q (.ref l) H
theorem op_repA {X : Cx} : OpR X (binaryOp .Mult) (rRepA X.K) := by
  intro pins s σ H x y v u Q I rx ry h
  rcases h with h | ⟨l, xs, rfl, rfl, hT, q⟩
  · exact op_repT pins s σ H x y v u Q I rx ry h
  · cases rx
    obtain ⟨t, rfl⟩ := ry
    obtain ⟨its, r, ⟨⟨cls, dd, data, sl⟩, ho, hc, n, hd⟩, hs⟩ := I.tuple hT
    simp only at hc hd
    subst hc hd
    exact wpAny_binaryOp_repeat_ref (T := "tuple") (U := "int") (by decide) ⟨_, ho, rfl⟩ (fun s' => typeIs_int s' 1 t) noFill_tuple_mul F.fills_int_mul F.slot_int_rmul repeat_tuple F.slot_int_index.lookup
      (call_meets F.slot_int_rmul (typeIs_int s 1 t) F.entry_int_rmul (F.args_int_rmul_2 _ _) (int_rmul_tuple 1 t l its.toArray n dd sl)
        ⟨ho, rfl, ⟨_, ho, rfl⟩, call_meets F.slot_tuple_mul ⟨_, ho, rfl⟩ F.entry_tuple_mul (F.args_tuple_mul_2 _ _) (tuple_mul1 l its.toArray n dd sl t) ⟨ho, ⟨.ref l, H, I, rfl, q⟩⟩⟩)
theorem op_repAK {X : Cx} {K : PySem.W.Frag} (e : X.K = K) : OpR X (binaryOp .Mult) (rRepA K) := e ▸ op_repA
def repW (k : Nat) (ns : List Int) : List Int := (List.replicate k ns).flatten
theorem repW_len (k : Nat) (ns : List Int) : (repW k ns).length = k * ns.length := by
  unfold repW
  rw [List.length_flatten, List.map_replicate, List.sum_replicate_nat]
section
variable {K : PySem.W.Frag} {γ δ : Gam} {ta tb te td tk tv : TE} {t u : TT} {x y z : Dat} {xs ys : List Dat} {es : List (List L2.Key × Dat)} {S : Dat → Gam → Prop} {N M : Gam → Prop} {R : Dat → Gam → Prop} {tu tw : TS}
theorem Reps.rep {A : Hp} {us : List V} (r : Reps A us xs) : ∀ k : Nat, Reps A (List.replicate k us).flatten (List.replicate k xs).flatten
  | 0 => .nil
  | k + 1 => by
    rw [List.replicate_succ, List.replicate_succ, List.flatten_cons, List.flatten_cons]
    exact r.app (Reps.rep r k)
theorem r2_rep {ns : List Int} {k : Int} (h0 : 0 < ns.length) (h1 : ns.length ≤ 1000) (k1 : 1 ≤ k) (k2 : k ≤ 1000) : R2D (rRepA K) (w ns) (.int k) (w (repW k.toNat ns)) := fun A H vx vy s r1 r2 Q q => by
  cases r2
  have e : w (repW k.toNat ns) = .tup (List.replicate k.toNat (ns.map Dat.int)).flatten := by
    unfold w repW
    rw [List.map_flatten, List.map_replicate]
  rw [e] at q
  cases r1 with
  | @tup a us _ ha R =>
    have ul : us.length = ns.length := by rw [R.len, List.length_map]
    by_cases z : k = 1
    · subst z
      refine .inr ⟨a, us, rfl, rfl, SqT.of (s _ _ ha), q _ A H (Gr.refl s) ?_⟩
      have e2 : (List.replicate (1 : Int).toNat (ns.map Dat.int)).flatten = ns.map Dat.int := by
        show (List.replicate 1 (ns.map Dat.int)).flatten = _
        simp
      rw [e2]
      exact .tup ha R
    · refine .inl ⟨a, k, us, rfl, rfl, SqT.of (s _ _ ha), fun z => by rw [z] at ul; rw [List.length_nil] at ul; omega, by omega, k2, by omega, fun p hp => ?_⟩
      have g := Gr.new (o := .tup (List.replicate k.toNat us).flatten) s hp
      exact q _ _ _ g (.tup upd_same ((R.rep k.toNat).mono g.view))
/-! # sorted -/
def sortW (ks : List (List Int)) : List (List Int) := ks.mergeSort fun x y => !HT.lexLt y x
theorem sortW_perm (ks : List (List Int)) : (sortW ks).Perm ks := List.mergeSort_perm _ _
theorem sortW_srtd (ks : List (List Int)) : SrtO.Srtd HT.lexLt (sortW ks) := by
  have h := List.pairwise_mergeSort (le := fun x y => !HT.lexLt y x) (fun a b c h1 h2 => by
    rw [Bool.not_eq_true'] at h1 h2 ⊢
    exact lex_tr a b c h1 h2) (fun a b => by
    cases q : HT.lexLt b a with
    | false => rfl
    | true =>
      rw [lex_asym b a q]
      rfl) ks
  exact h.imp fun h => by rwa [Bool.not_eq_true'] at h
theorem srtd_one : ∀ {l m : List (List Int)}, SrtO.Srtd HT.lexLt l → SrtO.Srtd HT.lexLt m → l.Perm m → l = m
  | [], m, _, _, h => (List.Perm.eq_nil h.symm).symm
  | x :: l, [], _, _, h => List.Perm.eq_nil h
  | x :: l, y :: m, h1, h2, h => by
    have a1 := List.pairwise_cons.mp h1
    have a2 := List.pairwise_cons.mp h2
    have e : x = y := by
      have hx : x ∈ y :: m := h.mem_iff.mp List.mem_cons_self
      have hy : y ∈ x :: l := h.mem_iff.mpr List.mem_cons_self
      rcases List.mem_cons.mp hx with z | z
      · exact z
      · rcases List.mem_cons.mp hy with z2 | z2
        · exact z2.symm
        · exact lex_tri _ _ (a2.1 x z) (a1.1 y z2)
    subst e
    rw [srtd_one a1.2 a2.2 h.cons_inv]
def numV : V → Int
  | .int i => i
  | _ => 0
theorem nums_ints (ns : List Int) : (ns.map V.int).map numV = ns := by
  rw [List.map_map]
  exact List.map_id _
def wordAt (H : Hp) : V → List Int
  | .ref t => match H t with
    | some (.tup vs) => vs.map numV
    | _ => []
  | _ => []
theorem wordAt_rep {A H : Hp} (s : Ex A H) {v : V} {ns : List Int} (r : Rep A v (w ns)) : wordAt H v = ns ∧ ∃ t, v = .ref t ∧ H t = some (.tup (ns.map V.int)) := by
  cases r with
  | @tup a us _ ha R =>
    have e := R.ints
    subst e
    have hH := s _ _ ha
    exact ⟨by simp only [wordAt, hH]; exact nums_ints ns, a, rfl, hH⟩
theorem words_at {A H : Hp} (s : Ex A H) : ∀ {us : List V} {ks : List (List Int)}, Reps A us (ks.map w) → us.map (wordAt H) = ks ∧ ∀ u ∈ us, Rep A u (w (wordAt H u)) ∧ wordAt H u ∈ ks
  | _, [], .nil => ⟨rfl, fun _ h => nomatch h⟩
  | _, k :: ks, .cons (v := u) (vs := us) r rs => by
    obtain ⟨h1, h2⟩ := words_at s rs
    obtain ⟨h3, _⟩ := wordAt_rep s r
    refine ⟨by rw [List.map_cons, h3, h1], fun u' hu => ?_⟩
    rcases List.mem_cons.mp hu with rfl | hu
    · rw [h3]
      exact ⟨r, List.mem_cons_self⟩
    · exact ⟨(h2 u' hu).1, List.mem_cons_of_mem _ (h2 u' hu).2⟩
theorem reps_words {A H : Hp} : ∀ {us : List V}, (∀ u ∈ us, Rep A u (w (wordAt H u))) → Reps A us ((us.map (wordAt H)).map w)
  | [], _ => .nil
  | u :: us, h => .cons (h u List.mem_cons_self) (reps_words fun v hv => h v (List.mem_cons_of_mem _ hv))
theorem en_sorted {ks : List (List Int)} (h : EvR te γ (ks.map w)) (hk : ∀ k ∈ ks, 0 < k.length) : EvN (tCB (rSortedI K) (tCons te tNil)) γ ((sortW ks).map w) := fun H0 A H σ k Q q =>
  h H0 A H σ k _ fun l vs B H1 g1 h1 r1 => by
    obtain ⟨e1, e2⟩ := words_at g1.sub r1
    refine ⟨l, vs, wordAt H1, rfl, SqL.of h1, fun x hx => ?_, fun ys p hs hp hn => ?_⟩
    · obtain ⟨a1, a2⟩ := e2 x hx
      obtain ⟨_, t, b1, b2⟩ := wordAt_rep g1.sub a1
      exact ⟨t, b1, b2, hk _ a2⟩
    · have g2 := Gr.newU (o := .lst ys) g1.sub hn
      have e3 : ys.map (wordAt H1) = sortW ks := srtd_one (List.pairwise_map.mpr hs) (sortW_srtd ks) (by
        have := hp.map (wordAt H1)
        rw [e1] at this
        exact this.trans (sortW_perm ks).symm)
      refine q p ys B _ (g1.trans g2) (Evl.fresh_back g1.up hn) (Evl.fresh_back g1.sub hn) upd_same ?_
      rw [← e3]
      exact reps_words fun u hu => (e2 u (hp.mem_iff.mp hu)).1
/-! # list(d), d a dict with tuple keys -/
def rListDT : List V → Hp → VK → Prop := fun xs H Q => ∃ d kvs, xs = [V.ref d] ∧ Rd H d (.dT kvs) ∧ ∀ p bs, H p = none → IsKeys H kvs bs → Q (.ref p) (upd H p (.lst (bs.map V.ref)))
theorem call_list_dT' {X : Cx} (hc : X.calm = true) : CallR X (.type "list") rListDT := call_list_dT hc
theorem keys_show {H : Hp} : ∀ {kvs : List (List L2.Key × V)} {bs : List Addr}, IsKeys H kvs bs → ∀ {A : Hp} {es : List (List L2.Key × Dat)} {ks : List (List Int)}, Ex A H → RepsK A kvs es → es.map (·.1) = ks.map kw → ∃ B, Gr A H B H ∧ Reps B (bs.map V.ref) (ks.map w)
  | _, _, .nil, A, _, ks, s, .nil, hk => by
    cases ks with
    | nil => exact ⟨A, Gr.refl s, .nil⟩
    | cons k ks => cases hk
  | _, _, .cons h t, A, _, ks, s, .cons r rs, hk => by
    cases ks with
    | nil => cases hk
    | cons k ks =>
      obtain ⟨e1, e2⟩ := List.cons.inj hk
      have g1 := Gr.tup s h
      obtain ⟨B, g2, r2⟩ := keys_show t g1.sub (rs.mono g1.view) e2
      have ek : (kw k).map kV = k.map V.int := by
        unfold kw
        rw [List.map_map]
        rfl
      refine ⟨B, g1.trans g2, .cons (.tup (g2.view _ _ upd_same) ?_) r2⟩
      have e3 : _ = kw k := e1
      simp only at e3
      rw [e3, ek]
      exact Reps.ofInts k
theorem en_listD {ks : List (List Int)} (h : EvK te γ es) (hk : es.map (·.1) = ks.map kw) : EvN (tCB rListDT (tCons te tNil)) γ (ks.map w) := fun H0 A H σ k Q q =>
  h H0 A H σ k _ fun l kvs B H1 g1 h1 r1 => by
    refine ⟨l, kvs, rfl, .inl h1, fun p bs hp hb => ?_⟩
    obtain ⟨C, g2, r2⟩ := keys_show hb g1.sub r1 hk
    have g3 := Gr.newU (o := .lst (bs.map V.ref)) g2.sub hp
    exact q p _ C _ ((g1.trans g2).trans g3) (Evl.fresh_back g1.up hp) (Evl.fresh_back g2.sub hp) upd_same r2
/-! # {} and d[k] = v -/
theorem em_new : EvM tDNewT γ [] := fun H0 A H σ k Q q p hp => q p [] A _ (Gr.newU k.sub hp) hp (Evl.fresh_back k.sub hp) upd_same .nil
/-- a, b = e, {..} -/
theorem runx_parM {i j : Nat} (h : EvX ta γ (fun x δ => ∃ es, EvM td δ es ∧ N ((δ.set i (.d x)).set j (.od es)))) : Run (tPar i j (tCons ta (tCons td tNil))) γ N R := fun A0 H0 A H σ g0 k D dn dr =>
  h A0 H0 A H σ g0 k _ fun v B H1 x δ hs g1 v1 k1 r1 => by
    obtain ⟨es, hm, hn⟩ := hs
    refine hm H0 B H1 σ k1 _ fun l kvs C H2 g2 hl hC h2 r2 => ⟨_, _, rfl, ?_⟩
    have k2 := (k1.mono g2).setD (r1.mono g2.view) i
    refine dn _ C H2 _ hn (g1.trans g2) (v1.trans g2.view) (k2.setM j (fun b t hj mt e => ?_) (fun _ z => nomatch z) (fun _ _ z => nomatch z) (fun _ _ z => nomatch z) (fun _ z => nomatch z) fun _ z => by cases z; exact ⟨kvs, Evl.fresh_back g1.up hl, hC, h2, r2⟩)
    have k0 := k1.setD r1 i
    obtain ⟨a, o, e2, _, _, e3⟩ := k0.addr hj mt
    rw [e2] at e
    cases e
    rw [hl] at e3
    cases e3
/-- a, b = e, {..}, a or b a cell: by a tuple that is thrown away -/
theorem runx_tupM {i j : Nat} (h : EvX ta γ (fun x δ => ∃ es, EvM td δ es ∧ N ((δ.set i (.d x)).set j (.od es)))) : Run (tAsg (tTup (tCons ta (tCons td tNil))) (gTup K 2 (gCons (gName i) (gCons (gName j) gNil)))) γ N R := fun A0 H0 A H σ g0 k D dn dr =>
  h A0 H0 A H σ g0 k _ fun v B H1 x δ hs g1 v1 k1 r1 => by
    obtain ⟨es, hm, hn⟩ := hs
    refine hm H0 B H1 σ k1 _ fun l kvs C H2 g2 hl hC h2 r2 => ⟨by show 2 ≤ sizeLine; decide, fun p hp => ?_⟩
    have g3 := Gr.newU (o := .tup [v, .ref l]) g2.sub hp
    have gg := g2.trans g3
    have nl : l ≠ p := ne_of_none h2 hp
    refine ⟨p, [v, .ref l], rfl, SqT.of upd_same, rfl, v, [.ref l], rfl, .ref l, [], rfl, rfl, ?_⟩
    have k2 := (k1.mono gg).setD (r1.mono gg.view) i
    refine dn _ C _ _ hn (g1.trans gg) (v1.trans gg.view) (k2.setM j (fun b t hj mt e => ?_) (fun _ z => nomatch z) (fun _ _ z => nomatch z) (fun _ _ z => nomatch z) (fun _ z => nomatch z) fun _ z => by cases z; exact ⟨kvs, Evl.fresh_back g1.up hl, hC, by rw [upd_ne nl]; exact h2, r2⟩)
    have k0 := k1.setD r1 i
    obtain ⟨a, o, e2, _, _, e3⟩ := k0.addr hj mt
    rw [e2] at e
    cases e
    rw [hl] at e3
    cases e3
/-- d[k] = e, d an own dict in slot i, e a thing that changes what is lent -/
theorem runx_dput {i : Nat} {ns : List Int} (h : EvX tv γ (fun x δ => ∃ es, δ[i]? = some (Slot.od es) ∧ EvD tk δ (w ns) ∧ es.length < sizeLine ∧ N (δ.set i (.od (putE es (kw ns) x))))) : Run (sDPut (tVar i) tk tv) γ N R := fun A0 H0 A H σ g0 k D dn dr =>
  h A0 H0 A H σ g0 k _ fun v B H1 x δ hs g1 v1 k1 r1 => by
    obtain ⟨es, hi, hk, hz, hn⟩ := hs
    obtain ⟨l, kvs, e, h0, hB, hH, rk⟩ := k1.ownD i es hi
    refine ⟨.ref l, e, hk H0 B H1 σ k1 _ fun y C H2 g2 r2 => ?_⟩
    have k2 := k1.mono g2
    cases r2 with
    | @tup b us _ hb R =>
      have eu := R.ints
      subst eu
      have ek : (kw ns).map kV = ns.map V.int := by
        unfold kw
        rw [List.map_map]
        rfl
      have hl2 : H2 l = some (.dT kvs) := g2.up _ _ hH
      have hC : C l = none := g2.hid l _ hH True.intro hB
      refine ⟨l, _, rfl, DPut.t hl2 (by rw [ek]; exact g2.sub _ _ hb) (by rw [rk.len]; exact hz), ?_⟩
      exact dn _ C _ σ hn ((g1.trans g2).mut h0 hC) (v1.trans g2.view) (k2.turn hi rfl e (fun _ z => nomatch z) (fun _ z => nomatch z) (fun es' z => by cases z; exact ⟨_, rfl, (rk.mono g2.view).put (r1.mono g2.view)⟩) (fun _ _ z => nomatch z) fun _ _ z => nomatch z)
end
end Fr

set_option Elab.async false
set_option linter.all false
set_option maxRecDepth 100000
set_option maxHeartbeats 4000000
namespace Fr
open PySem PySem.Spec PyProof.Rows L2
open Evl (Ex)
section
variable {K : PySem.W.Frag} {γ δ : Gam} {ta tb tc te : TE} {x y z : Dat} {xs ys : List Dat} {N M : Gam → Prop} {R : Dat → Gam → Prop}
/-- a, b, c = e1, e2, e3 -/
theorem run_par3 {i j l : Nat} {tr : TA} (h : EvA tr γ [x, y, z]) (hn : N (((γ.set i (.d x)).set j (.d y)).set l (.d z))) : Run (tPar3 i j l tr) γ N R := fun A0 H0 A H σ g0 k D dn dr =>
  h H0 A H σ k _ fun vs B H1 g1 r1 => by
    cases r1 with
    | cons r1 r2 =>
      cases r2 with
      | cons r2 r3 =>
        cases r3 with
        | cons r3 r4 =>
          cases r4
          exact ⟨_, _, _, rfl, dn _ B H1 _ hn (g0.trans g1) g1.view ((((k.mono g1).setD r1 i).setD r2 j).setD r3 l)⟩
/-- a, b, c = e1, e2, [..] -/
theorem run_par3N {i j l : Nat} (h1 : EvD ta γ x) (h2 : EvD tb γ y) (h3 : EvN tc γ xs) (hn : N (((γ.set i (.d x)).set j (.d y)).set l (.o xs))) : Run (tPar3 i j l (tCons ta (tCons tb (tCons tc tNil)))) γ N R := fun A0 H0 A H σ g0 k D dn dr =>
  h1 H0 A H σ k _ fun u B H1 g1 r1 => h2 H0 B H1 σ (k.mono g1) _ fun v C H2 g2 r2 => h3 H0 C H2 σ (k.mono (g1.trans g2)) _ fun p us E H3 g3 hp hE h4 r3 => by
    refine ⟨u, v, .ref p, rfl, ?_⟩
    have gg := (g1.trans g2).trans g3
    have k0 := ((k.mono (g1.trans g2)).setD (r1.mono g2.view) i).setD r2 j
    have k3 := ((k.mono gg).setD ((r1.mono g2.view).mono g3.view) i).setD (r2.mono g3.view) j
    refine dn _ E H3 _ hn (g0.trans gg) gg.view (k3.setM l (fun b t hj mt e => ?_) (fun _ z => nomatch z) (fun _ _ z => nomatch z) (fun _ _ z => nomatch z) (fun _ z => by cases z; exact ⟨us, Evl.fresh_back (g0.trans (g1.trans g2)).up hp, hE, h4, r3⟩) fun _ z => nomatch z)
    obtain ⟨a, o, e2, _, _, e3⟩ := k0.addr hj mt
    rw [e2] at e
    cases e
    rw [hp] at e3
    cases e3
theorem run_forR2 {tr : TA} {lo hi : Int} {j : Nat} {tu : TS} (h : EvA tr γ [.int lo, .int hi]) (hb : -(2 ^ 62) ≤ lo ∧ lo < 2 ^ 62 ∧ -(2 ^ 62) ≤ hi ∧ hi < 2 ^ 62) (I : Nat → Gam → Prop) (h0 : I 0 γ)
    (hs : ∀ (i : Nat) δ, i < (hi - lo).toNat → I i δ → Run tu (δ.set j (.d (.int (lo + (i : Int))))) (I (i + 1)) R) (hd : ∀ δ, I (hi - lo).toNat δ → N δ) : Run (tFor (iRng2 tr) (gName j) tu) γ N R := fun A0 H0 A H σ g0 k D dn dr =>
  h H0 A H σ k _ fun vs B H1 g1 r1 => by
    cases r1 with
    | cons r1 r2 =>
      cases r1
      cases r2 with
      | cons r2 r3 =>
        cases r2
        cases r3
        refine ⟨lo, hi, rfl, hb, for_range (lo := lo) (n := (hi - lo).toNat) (fun i σ' H' => ∃ δ C, I i δ ∧ Gr A0 H0 C H' ∧ Ex B C ∧ Ok H0 C H' σ' δ) ⟨γ, B, h0, g0.trans g1, Ex.refl B, k.mono g1⟩ ?_ ?_⟩
        · rintro i σ' H' hi' ⟨δ, C, hI, g2, v2, k2⟩
          have k3 := k2.setD (v := .int (lo + (i : Int))) (.int _) j
          exact hs i δ hi' hI A0 H0 C H' _ g2 k3 { D with nx := _, ct := _, bk := D.nx } (fun δ' C' H3 σ4 hN g4 v4 k4 => ⟨δ', C', hN, g4, v2.trans v4, k4⟩) dr
        · rintro σ' H' ⟨δ, C, hI, g2, v2, k2⟩
          exact dn δ C H' σ' (hd δ hI) g2 (g1.view.trans v2) k2
end
end Fr

set_option Elab.async false
set_option linter.all false
set_option maxRecDepth 100000
set_option maxHeartbeats 4000000
namespace Fr
open PySem PySem.Spec PyProof.Rows L2
open Evl (Ex)
section
variable {K : PySem.W.Frag} {γ : Gam} {ta tb te : TE} {x y z : Dat} {xs ys : List Dat}
/-- isinstance(x, (list, tuple)) -/
theorem ev_isLT (h : EvD te γ x) (hf : Fine K x := by first | exact True.intro | assumption) : EvD (tCB (rIsiT K) (tCons te (tCons (tTup (tCons (tC (.ty "list")) (tCons (tC (.ty "tuple")) tNil))) tNil))) γ (.bl (isaLst x || isaTup x)) := fun H0 A H σ k Q q =>
  h H0 A H σ k _ fun v B H1 g1 r1 => ⟨by show 2 ≤ sizeLine; decide, fun p hp => by
    have g2 := Gr.newU (o := .tup [V.ty "list", V.ty "tuple"]) g1.sub hp
    refine ⟨v, p, [V.ty "list", V.ty "tuple"], tyV x, [.type "list", .type "tuple"], isaLst x || isaTup x, rfl, upd_same, .cons (.ty "list") (.cons (.ty "tuple") .nil), r1.ty g2.sub hf, ?_, q _ B _ (g1.trans g2) (.bl _)⟩
    refine kitAny_cons (kit_lst x hf) (fun e => ?_) (fun e => by rw [e]; rfl)
    refine kitAny_cons (kit_tup x hf) (fun e2 => ?_) (fun e2 => by rw [e, e2]; rfl)
    rw [e, e2]
    rfl⟩
theorem r2_eqB' {a b : Bool} : R2D rEq (.bl a) (.bl b) (.bl (decide (a = b))) := fun A H vx vy s r1 r2 Q q => by
  cases r1
  cases r2
  refine ⟨rfl, q _ A H (Gr.refl s) ?_⟩
  have e : decide (V.bl a = V.bl b) = decide (a = b) := decide_eq_decide.mpr ⟨fun h => V.bl.inj h, fun h => h ▸ rfl⟩
  rw [e]
  exact .bl _
theorem r2_neB {a b : Bool} : R2D rNe (.bl a) (.bl b) (.bl (!decide (a = b))) := fun A H vx vy s r1 r2 Q q => by
  cases r1
  cases r2
  refine ⟨rfl, q _ A H (Gr.refl s) ?_⟩
  have e : decide (V.bl a = V.bl b) = decide (a = b) := decide_eq_decide.mpr ⟨fun h => V.bl.inj h, fun h => h ▸ rfl⟩
  rw [e]
  exact .bl _
theorem r2_ixSL {i : Int} (h : atI xs i = some z) : R2D (rIx K) (.lst xs) (.int i) z := fun A H vx vy s r1 r2 Q q => .inl (r2_ixL (K := K) h A H vx vy s r1 r2 Q q)
theorem r2_ixST {i : Int} (h : atI xs i = some z) : R2D (rIx K) (.tup xs) (.int i) z := fun A H vx vy s r1 r2 Q q => .inr (.inl (r2_ixT (K := K) h A H vx vy s r1 r2 Q q))
theorem r2_eqNil : R2D (rEqD K) (.lst []) (.lst []) (.bl true) := by
  have q := r2_eqD (K := K) (x := .lst []) (y := .lst []) rfl rfl (by decide +kernel) (by decide +kernel)
  have e : PyData.eqv (py (.lst [])) (py (.lst [])) = true := by
    show PyData.eqv (.list []) (.list []) = true
    simp only [PyData.eqv, PyData.eqvAll]
  rw [e] at q
  exact q
/-- what has no parts -/
def Scal (d : Dat) : Prop := d = .non ∨ (∃ b, d = .bl b) ∨ (∃ i, d = .int i) ∨ ∃ s, d = .str s ∧ PyData.strOk s = true
theorem r2_eqScal {d : Dat} (h : Scal d) : R2D (rEqD K) d d (.bl true) := by
  have main : noDic d = true ∧ SeqAt.shaped (py d) = true ∧ PyData.eqv (py d) (py d) = true := by
    rcases h with rfl | ⟨b, rfl⟩ | ⟨i, rfl⟩ | ⟨s, rfl, hs⟩
    · exact ⟨rfl, by decide +kernel, by simp [py, PyData.eqv]⟩
    · exact ⟨rfl, by cases b <;> decide +kernel, by simp [py, PyData.eqv]⟩
    · exact ⟨rfl, by simp [py, SeqAt.shaped, PyData.canLay0, PyData.depth], by simp [py, PyData.eqv]⟩
    · exact ⟨rfl, by simp [py, SeqAt.shaped, PyData.canLay0, PyData.depth, hs], by simp [py, PyData.eqv]⟩
  have q := r2_eqD (K := K) main.1 main.1 main.2.1 main.2.1
  rw [main.2.2] at q
  exact q
end
end Fr

set_option Elab.async false
set_option linter.all false
set_option maxRecDepth 100000
set_option maxHeartbeats 4000000
namespace Fr
open PySem PySem.Spec PyProof.Rows L2
open Evl (Ex)
/-! # defs that hand back a new list of their own -/
def RunN (ts : TS) (γ : Gam) (ys : List Dat) : Prop := ∀ A0 H0 A H σ, Gr A0 H0 A H → Ok H0 A H σ γ → ∀ D : Ends, (∀ l us B H', Gr A0 H0 B H' → H0 l = none → B l = none → H' l = some (.lst us) → Reps B us ys → D.rt (.ref l) H') → ts D σ H
section
variable {γ δ : Gam} {te : TE} {ys : List Dat} {M : Gam → Prop} {tu tw : TS}
theorem runN_seq (h : Run tu γ M (fun _ _ => False)) (hk : ∀ δ, M δ → RunN tw δ ys) : RunN (tSeq tu tw) γ ys := fun A0 H0 A H σ g k D dr =>
  h A0 H0 A H σ g k { D with nx := tw D } (fun δ B H' σ' m g' v k' => hk δ m A0 H0 B H' σ' g' k' D dr) fun _ _ _ _ _ _ z => z.elim
theorem runN_seq1 (h : Run tu γ (fun ε => ε = δ) (fun _ _ => False)) (hk : RunN tw δ ys) : RunN (tSeq tu tw) γ ys := runN_seq h fun _ e => e ▸ hk
theorem runN_ret (h : EvN te γ ys) : RunN (tRet te) γ ys := fun A0 H0 A H σ g k D dr =>
  h H0 A H σ k _ fun l us B H1 g1 hl hB h1 r => dr l us B H1 (g.trans g1) (Evl.fresh_back g.up hl) hB h1 r
end
section
variable {P : Program} {w0 : World} {K : PySem.W.Frag} {mg : Str → Option Value} {base : Heap}
theorem fn_prN {x qual : Str} {st : Stmt} {f : Addr} {fd : FuncData} {N ps : List Str} {k : Nat} {Rf : List Dat → List Dat → Prop} (F : Fun K x qual st f fd) (S : FnScope N ps (defScope st)) (hlen : ∀ xs ys, Rf xs ys → xs.length = ps.length)
    (hbody : ∀ (cdv : Value) (A : Around) (outer : List PySem.Env) (s : Shared) (H : Hp) (E : XK), Room k (A.deeper (envOfC qual (defScope st) s.heap.objs.size f cdv)) →
      ∃ t, PSs (cxOf CX0 P w0 K mg base N qual (defScope st) f cdv A outer s H E).nox (defBody st) t ∧ ∀ xs ys, Rf xs ys → RunN t (entry N xs) ys) : FnOk P w0 K mg base CX0 (k + 1) f fd ps (PrN Rf) := by
  refine F.ok S (fun vs H Q E h => ?_) fun cdv A outer s H vs Q E hr h => ?_
  · obtain ⟨A, xs, ys, s, r, hR, _⟩ := h
    rw [r.len]
    exact hlen xs ys hR
  · obtain ⟨B, xs, ys, sub, r, hR, q⟩ := h
    obtain ⟨t, h1, h2⟩ := hbody cdv A outer s H E hr
    exact ⟨t, h1, h2 xs ys hR B H B H _ (Gr.refl sub) (ok_entry sub N r) _ fun l us C H' g hl hC h4 ru => q l us C H' g hl hC h4 ru⟩
/-- told as data -/
theorem prN_data {k : Nat} {f : Addr} {fd : FuncData} {ps : List Str} {Rf : List Dat → List Dat → Prop} {R : List Dat → Dat → Prop} (F : FnOk P w0 K mg base CX0 k f fd ps (PrN Rf)) (h : ∀ xs y, R xs y → ∃ ys, y = .lst ys ∧ Rf xs ys) : FnOk P w0 K mg base CX0 k f fd ps (Pr R) :=
  F.imp fun vs H Q E hp => by
    obtain ⟨A, xs, y, s, r, hR, q⟩ := hp
    obtain ⟨ys, rfl, hf⟩ := h xs y hR
    exact ⟨A, xs, ys, s, r, hf, fun l us B H' g hl hB h1 ru => q _ _ H' (g.show h1 hl hB) (.lst upd_same (ru.mono (Ex.new hB)))⟩
end
end Fr

set_option Elab.async false
set_option linter.all false
set_option maxRecDepth 100000
set_option maxHeartbeats 4000000
namespace Fr
open PySem PySem.Spec PyProof.Rows L2
open Evl (Ex)
/-! # calls by name alone -/
def pick {α : Type} (js : List Nat) (l : List α) : List α := js.filterMap (l[·]?)
theorem vals_pick {vs : List V} {us : List Value} (r : Vals vs us) : ∀ js, Vals (pick js vs) (pick js us)
  | [] => .nil
  | j :: js => by
    have ih := vals_pick r js
    unfold pick at ih ⊢
    rw [List.filterMap_cons, List.filterMap_cons]
    cases e : vs[j]? with
    | none => rw [r.none_of e]; exact ih
    | some x =>
      obtain ⟨u, e2, rx⟩ := r.get e
      rw [e2]
      exact .cons rx ih
theorem reps_pick {A : Hp} {vs : List V} {xs : List Dat} (r : Reps A vs xs) : ∀ js, Reps A (pick js vs) (pick js xs)
  | [] => .nil
  | j :: js => by
    have ih := reps_pick r js
    unfold pick at ih ⊢
    rw [List.filterMap_cons, List.filterMap_cons]
    cases e : vs[j]? with
    | none =>
      have e2 : xs[j]? = none := by
        rw [List.getElem?_eq_none_iff] at e ⊢
        rw [← r.len]
        exact e
      rw [e2]
      exact ih
    | some x =>
      obtain ⟨u, e2, rx⟩ := r.getV e
      rw [e2]
      exact .cons rx ih
/-- a def is called by the names ks -/
def KwOk (K : PySem.W.Frag) (fd : FuncData) (ps ks : List Str) (js : List Nat) : Prop := KBn K fd ps 0 ks (fun _ ws => pick js ws) (fun _ zs => pick js zs)
theorem kw_ok {K : PySem.W.Frag} {x qual : Str} {st : Stmt} {f : Addr} {fd : FuncData} {ps ks : List Str} {js : List Nat} (F : Fun K x qual st f fd)
    (h : ∀ (kV doc pm : Value) (an : Option Addr) (cdv ct : Value) (ws : List Value), ws.length = ks.length → bindArgs (PySem.W.fnOf x qual (defArgs st) (defBody st) (defScope st) .none kV doc pm an cdv ct) ⟨[], ks.zip ws⟩ = pure (ps.zip (pick js ws))) : KwOk K fd ps ks js := by
  obtain ⟨oc, od, kV, doc, pm, an, cdv, ct, osl, rfl, lk, hcd⟩ := F.ex
  refine ⟨fun s us ws X l1 l2 => ?_, fun _ r2 => vals_pick r2 js⟩
  rw [List.length_eq_zero_iff.mp l1]
  exact .of_eq (h kV doc pm an cdv ct ws l2)
section
variable {X : Cx} {CX : CXT} {k : Nat} {f : Addr} {fd : FuncData} {ps ks : List Str} {js : List Nat} {sp : Sp} {E : XK} {x : Str} {p pos : Pos} {kws : List Keyword} {tk : TA}
def tCallW (js : List Nat) (m : Nat) (sp : Sp) (E : XK) (tk : TA) : TE := fun σ H Q => tk σ H fun zs H2 => zs.length = m ∧ sp (pick js zs) H2 Q E
theorem pe_callK (F : FnOk X.prog X.w X.K X.mg X.base CX k f fd ps sp) (hr : Room k X.A) (hg : Gl X x) (hm : X.mg x = some (.ref f)) (hk : PySem.W.keepIn X.K (.ref f) = true) (hb : KwOk X.K fd ps ks js) (hx : Passes CX X E) (hkw : PK X kws tk)
    (hall : (backToKw pos (keywordEach kws X.env)).all (·.1.isSome) = true := by rfl) (hks : (backToKw pos (keywordEach kws X.env)).filterMap (·.1) = ks := by rfl) (hdb : (x == ("__debug__" : Str)) = false := by decide)
    (hpl : ((backTo pos (starEach [] X.env)).any (·.1) || (backToKw pos (keywordEach kws X.env)).any (·.1.isNone)) = false := by rfl) :
    PE X (.Call (.Name x p) [] kws pos) (tCallW js ks.length sp E tk) := by
  refine ⟨fun pins s σ H Q I h => ?_⟩
  refine wpAny_Call_Name_kw (ld_glob I hg hm ?_ hdb)
  refine PySem.W.callWith_KW0 (h₀ := X.base) I.ok.mod.kin hk hall ?_ hpl
  refine thn (hkw.run pos pins s σ H _ I h) fun ws s2 ⟨zs, H2, I2, rz, l2, q2⟩ => ⟨I2.kIn, ?_⟩
  rw [hks]
  exact run_fnN (us := []) (vs := []) F hr hb hx I2 .nil rz rfl l2 q2
end
section
variable {K : PySem.W.Frag} {γ : Gam} {ta tb te : TE} {x y z : Dat} {xs ys : List Dat}
theorem ev_callW {R : List Dat → Dat → Prop} {E : XK} {tk : TA} {js : List Nat} (h : EvA tk γ xs) (hR : R (pick js xs) z) {m : Nat} (hm : xs.length = m) : EvD (tCallW js m (Pr R) E tk) γ z := fun H0 A H σ k Q q =>
  h H0 A H σ k _ fun vs B H1 g1 r1 => ⟨by rw [r1.len]; exact hm, B, pick js xs, z, g1.sub, reps_pick r1 js, hR, fun v C H2 g2 r2 => q v C H2 (g1.trans g2) r2⟩
/-- list + list -/
theorem en_cat (ha : EvR ta γ xs) (hb : EvR tb γ ys) (hl : xs.length + ys.length ≤ sizeLine) : EvN (tOp rCat ta tb) γ (xs ++ ys) := fun H0 A H σ k Q q =>
  ha H0 A H σ k _ fun l vs B H1 g1 h1 r1 => hb H0 B H1 σ (k.mono g1) _ fun l2 us C H2 g2 h2 r2 => ⟨l, l2, vs, us, rfl, rfl, g2.up _ _ h1, h2, by rw [r1.len, r2.len]; exact hl, fun p hp =>
    q p _ C _ ((g1.trans g2).trans (Gr.newU g2.sub hp)) (Evl.fresh_back (g1.trans g2).up hp) (Evl.fresh_back g2.sub hp) upd_same ((r1.mono g2.view).app r2)⟩
theorem Reps.strs : ∀ {A : Hp} {vs : List V} {ns : List Str}, Reps A vs (ns.map Dat.str) → vs = ns.map V.str
  | _, _, [], h => by cases h; rfl
  | _, _, n :: ns, h => by
    cases h with
    | cons h r =>
      cases h
      rw [Reps.strs r]
      rfl
/-- x in (texts) -/
theorem r2_inS {i : Str} {ns : List Str} : R2D (rIn K false) (.str i) (.tup (ns.map .str)) (.bl (ns.any fun n => n == i)) := fun A H vx vy s r1 r2 Q q => by
  cases r1
  cases r2 with
  | @tup a us _ h1 R1 =>
    have e := R1.strs
    subst e
    refine ⟨a, ns.map V.str, rfl, .inr (SqT.of (s _ _ h1)), rfl, ?_, ?_⟩
    · rw [List.all_map]
      exact List.all_eq_true.mpr fun _ _ => rfl
    · have e : inV (.str i) (ns.map V.str) = ns.any fun n => n == i := by
        unfold inV
        rw [List.any_map]
        rfl
      show Q (.bl (if false = true then _ else inV (.str i) (ns.map V.str))) H
      rw [if_neg Bool.false_ne_true, e]
      exact q _ A H (Gr.refl s) (.bl _)
end
end Fr

set_option Elab.async false
set_option linter.all false
set_option maxRecDepth 100000
set_option maxHeartbeats 4000000
namespace Fr
open PySem PySem.Spec PyProof.Rows L2
open Evl (Ex)
section
variable {K : PySem.W.Frag} {γ : Gam} {ta tb te : TE} {x y z : Dat} {xs ys : List Dat} {N : Gam → Prop} {R : Dat → Gam → Prop}
theorem en_callW {Rf : List Dat → List Dat → Prop} {E : XK} {tk : TA} {js : List Nat} (h : EvA tk γ xs) (hR : Rf (pick js xs) ys) {m : Nat} (hm : xs.length = m) : EvN (tCallW js m (PrN Rf) E tk) γ ys := fun H0 A H σ k Q q =>
  h H0 A H σ k _ fun vs B H1 g1 r1 => ⟨by rw [r1.len]; exact hm, B, pick js xs, ys, g1.sub, reps_pick r1 js, hR, fun l us C H2 g2 hl hC h2 r2 => q l us C H2 (g1.trans g2) (Evl.fresh_back g1.up hl) hC h2 r2⟩
/-- found = [e1, e2] of new lists; again = e; if test: return; found[0].append(None); found[1].append(None): behind it the lists are forgotten, and all else is as before -/
theorem run_dirty {i j : Nat} {c1 c2 te2 : TE} {t3 : TT} {tu3 tw : TS} {us1 us2 : List Dat} {x2 : Dat} (hij : i ≠ j) (hi : i < γ.length) (h1 : EvN c1 γ us1) (h2 : EvN c2 γ us2) (z1 : us1.length < sizeLine) (z2 : us2.length < sizeLine)
    (h3 : EvD te2 (γ.set i (.d (.lst [.lst us1, .lst us2]))) x2) (h4 : EvT t3 ((γ.set i (.d (.lst [.lst us1, .lst us2]))).set j (.d x2)) false) (hr : Run tw ((γ.set i .no).set j .no) N R) :
    Run (tSeq (tAsg (tLst (tCons c1 (tCons c2 tNil))) (gName i)) (tSeq (tAsg te2 (gName j)) (tSeq (tIfS t3 tu3 tNext) (tSeq (tDrop (tBM K "list" rAppend (tOp (rIxL K) (tVar i) (tC (.int 0))) (tCons (tC .non) tNil))) (tSeq (tDrop (tBM K "list" rAppend (tOp (rIxL K) (tVar i) (tC (.int 1))) (tCons (tC .non) tNil))) tw))))) γ N R := fun A0 H0 A H σ g0 k D dn dr => by
  refine h1 H0 A H σ k _ fun l1 vs1 B1 H1 g1 f1 b1 e1 r1 => ?_
  refine h2 H0 B1 H1 σ (k.mono g1) _ fun l2 vs2 B2 H2 g2 f2 b2 e2 r2 => ?_
  refine ⟨by show 2 ≤ sizeLine; decide, fun p hp => ?_⟩
  have l12 : l1 ≠ l2 := ne_of_none e1 f2
  have f2' : H l2 = none := Evl.fresh_back g1.up f2
  have e1' : H2 l1 = some (.lst vs1) := g2.up _ _ e1
  have p1 : l1 ≠ p := ne_of_none e1' hp
  have p2 : l2 ≠ p := ne_of_none e2 hp
  have g12 : Gr A H B2 H2 := g1.trans g2
  have hp0 : H p = none := Evl.fresh_back g12.up hp
  have g3 : Gr A H B2 (upd H2 p (.lst [.ref l1, .ref l2])) := g12.trans (Gr.newU g12.sub hp)
  have n1 : B2 l1 = none := g2.hid l1 _ e1 True.intro b1
  have np : B2 p = none := Evl.fresh_back g12.sub hp
  have q1 : upd H2 p (.lst [.ref l1, .ref l2]) l1 = some (.lst vs1) := by rw [upd_ne p1]; exact e1'
  have q2 : upd H2 p (.lst [.ref l1, .ref l2]) l2 = some (.lst vs2) := by rw [upd_ne p2]; exact e2
  have qp : upd H2 p (.lst [.ref l1, .ref l2]) p = some (.lst [.ref l1, .ref l2]) := upd_same
  generalize upd H2 p (.lst [.ref l1, .ref l2]) = H3 at g3 q1 q2 qp
  have gA := g3.show q1 f1 n1
  have n2 : upd B2 l1 (.lst vs1) l2 = none := by rw [upd_ne (Ne.symm l12)]; exact b2
  have gB := gA.show q2 f2' n2
  have n3 : upd (upd B2 l1 (.lst vs1)) l2 (.lst vs2) p = none := by rw [upd_ne (Ne.symm p2), upd_ne (Ne.symm p1)]; exact np
  have gV := gB.show qp hp0 n3
  have x1 : Ex B2 (upd (upd (upd B2 l1 (.lst vs1)) l2 (.lst vs2)) p (.lst [.ref l1, .ref l2])) := (Ex.new n1).trans ((Ex.new n2).trans (Ex.new n3))
  have w1 : upd (upd (upd B2 l1 (.lst vs1)) l2 (.lst vs2)) p (.lst [.ref l1, .ref l2]) l1 = some (.lst vs1) := by rw [upd_ne p1, upd_ne l12]; exact upd_same
  have w2 : upd (upd (upd B2 l1 (.lst vs1)) l2 (.lst vs2)) p (.lst [.ref l1, .ref l2]) l2 = some (.lst vs2) := by rw [upd_ne p2]; exact upd_same
  have wp : upd (upd (upd B2 l1 (.lst vs1)) l2 (.lst vs2)) p (.lst [.ref l1, .ref l2]) p = some (.lst [.ref l1, .ref l2]) := upd_same
  generalize upd (upd (upd B2 l1 (.lst vs1)) l2 (.lst vs2)) p (.lst [.ref l1, .ref l2]) = VV at gV x1 w1 w2 wp
  have rp : Rep VV (.ref p) (.lst [.lst us1, .lst us2]) := .lst wp (.cons (.lst w1 (r1.mono (g2.view.trans x1))) (.cons (.lst w2 (r2.mono x1)) .nil))
  have k1 := (k.mono gV).setD rp i
  refine h3 H0 VV H3 _ k1 _ fun v2 V2 H4 g4 r4 => ?_
  have k2 := (k1.mono g4).setD r4 j
  refine h4 H0 V2 H4 _ k2 _ fun V3 H5 g5 => ?_
  have up5 : Ex H3 H5 := g4.up.trans g5.up
  have si : ((σ.set i (some (V.ref p))).set j (some v2))[i]? = some (some (V.ref p)) := by
    rw [List.getElem?_set_ne (Ne.symm hij), List.getElem?_set_self (by rw [k.len]; exact hi)]
  rw [if_neg Bool.false_ne_true]
  refine ⟨.ref p, si, p, [.ref l1, .ref l2], 0, .ref l1, rfl, rfl, SqL.of (up5 _ _ qp), rfl, .inl ⟨rfl, vs1, SqL.of (up5 _ _ q1)⟩, l1, vs1, .non, rfl, rfl, up5 _ _ q1, by rw [r1.len]; exact z1, ?_⟩
  have u2 : upd H5 l1 (.lst (vs1 ++ [.non])) l2 = some (.lst vs2) := by rw [upd_ne (Ne.symm l12)]; exact up5 _ _ q2
  have up : upd H5 l1 (.lst (vs1 ++ [.non])) p = some (.lst [.ref l1, .ref l2]) := by rw [upd_ne (Ne.symm p1)]; exact up5 _ _ qp
  refine ⟨.ref p, si, p, [.ref l1, .ref l2], 1, .ref l2, rfl, rfl, SqL.of up, rfl, .inl ⟨rfl, vs2, SqL.of u2⟩, l2, vs2, .non, rfl, rfl, u2, by rw [r2.len]; exact z2, ?_⟩
  have ex : Ex H (upd (upd H5 l1 (.lst (vs1 ++ [.non]))) l2 (.lst (vs2 ++ [.non]))) := fun a o e => by
    rw [upd_ne (ne_of_none e f2'), upd_ne (ne_of_none e f1)]
    exact up5 _ _ (gV.up _ _ e)
  refine hr A0 H0 A _ _ ⟨g0.up.trans ex, g0.view, k.sub.trans ex, g0.hid⟩ ?_ D dn dr
  exact ((k.move (k.sub.trans ex) (Ex.refl A) fun c o a b e => ⟨a, b, ex _ _ e⟩).forget i _).forget j _
end
end Fr

set_option Elab.async false
set_option linter.all false
set_option maxRecDepth 100000
set_option maxHeartbeats 4000000
namespace Fr
open PySem PySem.Spec PyProof.Rows L2
open Evl (Ex)
section
variable {K : PySem.W.Frag} {γ : Gam}
/-- [y for x in words for y in x] -/
theorem en_flat {tl : TE} {a0 a1 : Nat} {ls : List (List Int)} (h : EvR tl γ (ls.map w)) (h0 : a0 < γ.length) (h1 : a1 < γ.length) (hz : ls.flatten.length < sizeLine) :
    EvN (tLc2 (iList K tl) (gName a0) tYes (iTup K (tVar a0)) (gName a1) tYes (tVar a1) [a0, a1] [a1]) γ (ls.flatten.map .int) := fun H0 A H σ k Q q =>
  h H0 A H σ k _ fun a us B H1 g1 ha ru => by
    have kLen : us.length = ls.length := by rw [ru.len, List.length_map]
    refine ⟨a, rfl, ⟨us, SqL.of ha⟩, fun DL hDL => ?_⟩
    refine ⟨fun t mm H' => mm + t = ls.length ∧ ∃ C acc, Gr B H1 C H' ∧ C DL = none ∧ H' DL = some (.lst acc) ∧ Reps C acc ((ls.take t).flatten.map .int),
      ⟨ls.length, rfl, B, [], Gr.newU g1.sub hDL, Evl.fresh_back g1.sub hDL, upd_same, .nil⟩, fun t mm H' hW => ?_⟩
    obtain ⟨emm, C, acc, gC, cD, hAcc, rAcc⟩ := hW
    have ha' : H' a = some (.lst us) := gC.up _ _ ha
    cases mm with
    | zero =>
      have et : t = ls.length := by omega
      subst et
      rw [List.take_length] at rAcc
      exact .inl ⟨⟨us, SqL.of ha', by omega⟩, q DL acc C H' (g1.trans gC) (Evl.fresh_back g1.up hDL) cD hAcc rAcc⟩
    | succ mm =>
      obtain ⟨ns, hns⟩ : ∃ ns, ls[t]? = some ns := ⟨ls[t]'(by omega), List.getElem?_eq_getElem (by omega)⟩
      obtain ⟨u, hu⟩ : ∃ u, us[t]? = some u := ⟨us[t]'(by omega), List.getElem?_eq_getElem (by omega)⟩
      refine .inr ⟨⟨us, u, SqL.of ha', hu⟩, fun H2 => ∃ C acc, Gr B H1 C H2 ∧ C DL = none ∧ H2 DL = some (.lst acc) ∧ Reps C acc ((ls.take (t + 1)).flatten.map .int), fun H2 hh => ⟨mm, Nat.lt_succ_self _, by omega, hh⟩, fun x H2 hy => ?_⟩
      obtain ⟨eH, hx⟩ := hy
      subst eH
      have hx := hx us (SqL.of ha')
      have rx : Rep C x (w ns) := by
        obtain ⟨d, hd, rd⟩ := ru.getV hx
        rw [List.getElem?_map, hns] at hd
        cases hd
        exact rd.mono gC.view
      have kW := ((k.mono (g1.trans gC)).wipe [a0, a1]).setD rx a0
      have lenW : ((L2.wipe σ [a0, a1]).set a0 (some x)).length = (L2.wipe σ [a0, a1]).length := List.length_set ..
      have lenS : a0 < (L2.wipe σ [a0, a1]).length := by rw [wipe_length, k.len]; exact h0
      have lenS1 : a1 < ((L2.wipe σ [a0, a1]).set a0 (some x)).length := by rw [List.length_set, wipe_length, k.len]; exact h1
      refine ⟨wipe_back (js := [a0]) lenW (fun b hb => by rw [List.getElem?_set_ne (fun z => hb (by rw [z]; exact List.mem_singleton.mpr rfl))]) (by intro b hb; rw [List.mem_singleton.mp hb]; exact List.mem_cons_self), ?_⟩
      have more : ((ls.take (t + 1)).flatten) = (ls.take t).flatten ++ ns := by
        rw [List.take_add_one, hns]
        simp
      have lim : ((ls.take t).flatten ++ ns).length ≤ ls.flatten.length := by
        rw [← more]
        have e : ls.flatten = (ls.take (t + 1)).flatten ++ (ls.drop (t + 1)).flatten := by rw [← List.flatten_append, List.take_append_drop]
        rw [e, List.length_append (as := (ls.take (t + 1)).flatten)]
        omega
      cases rx with
      | @tup b ws _ hb rw_ =>
        have ew := rw_.ints
        subst ew
        refine ⟨.ref b, by rw [List.getElem?_set_self lenS], b, rfl, ⟨_, SqT.of (gC.sub _ _ hb)⟩, fun c kk H4 => kk + c = ns.length ∧ ∃ C2 acc, Gr B H1 C2 H4 ∧ Ex C C2 ∧ C2 DL = none ∧ H4 DL = some (.lst acc) ∧ Reps C2 acc (((ls.take t).flatten ++ ns.take c).map .int),
          ⟨ns.length, by omega, C, acc, gC, Ex.refl C, cD, hAcc, by rw [List.take_zero, List.append_nil]; exact rAcc⟩, fun c kk H4 hW1 => ?_⟩
        obtain ⟨ekk, C2, acc2, g2, v2, cD2, hA2, rA2⟩ := hW1
        have hb4 : H4 b = some (.tup (ns.map V.int)) := g2.sub _ _ (v2 _ _ hb)
        cases kk with
        | zero =>
          have ec : c = ns.length := by omega
          subst ec
          rw [List.take_length] at rA2
          exact .inl ⟨⟨_, SqT.of hb4, by rw [List.length_map]; exact Nat.le_refl _⟩, C2, acc2, g2, cD2, hA2, by rw [more]; exact rA2⟩
        | succ kk =>
          obtain ⟨n, hn⟩ : ∃ n, ns[c]? = some n := ⟨ns[c]'(by omega), List.getElem?_eq_getElem (by omega)⟩
          have hn' : (ns.map V.int)[c]? = some (V.int n) := by rw [List.getElem?_map, hn]; rfl
          refine .inr ⟨⟨_, _, SqT.of hb4, hn'⟩, fun H5 => ∃ C2 acc, Gr B H1 C2 H5 ∧ Ex C C2 ∧ C2 DL = none ∧ H5 DL = some (.lst acc) ∧ Reps C2 acc (((ls.take t).flatten ++ ns.take (c + 1)).map .int), fun H5 hh => ⟨kk, Nat.lt_succ_self _, by omega, hh⟩, fun y H5 hy => ?_⟩
          obtain ⟨eH, hy⟩ := hy
          subst eH
          have hy := hy _ (SqT.of hb4)
          rw [hn'] at hy
          cases hy
          have lenX : ((L2.wipe ((L2.wipe σ [a0, a1]).set a0 (some (V.ref b))) [a1]).set a1 (some (V.int n))).length = (L2.wipe ((L2.wipe σ [a0, a1]).set a0 (some (V.ref b))) [a1]).length := List.length_set ..
          refine ⟨wipe_back (js := [a1]) lenX (fun d hd => by rw [List.getElem?_set_ne (fun z => hd (by rw [z]; exact List.mem_singleton.mpr rfl))]) (by intro d hd; exact hd), ?_⟩
          have tk : ns.take (c + 1) = ns.take c ++ [n] := by rw [List.take_add_one, hn]; rfl
          have lz : acc2.length < sizeLine := by
            rw [rA2.len, List.length_map, List.length_append, List.length_take]
            rw [List.length_append] at lim
            omega
          refine ⟨V.int n, by rw [List.getElem?_set_self (by rw [wipe_length]; exact lenS1)], acc2, hA2, lz, C2, acc2 ++ [V.int n], g2.mut hDL cD2, v2, cD2, upd_same, ?_⟩
          rw [tk, ← List.append_assoc, List.map_append]
          exact rA2.app (Reps.one (.int n))
end
end Fr

set_option Elab.async false
set_option linter.all false
set_option maxRecDepth 100000
set_option maxHeartbeats 4000000
namespace Fr
open PySem PySem.Spec PyProof.Rows L2
open Evl (Ex)
section
variable {K : PySem.W.Frag} {γ : Gam} {ta tb te : TE} {x y z : Dat} {xs ys : List Dat} {N : Gam → Prop} {R : Dat → Gam → Prop}
/-- x, y = e, [..]: the second is a list of its own -/
theorem run_parN {i j : Nat} (h1 : EvD ta γ x) (h2 : EvN tb γ ys) (hn : N ((γ.set i (.d x)).set j (.o ys))) : Run (tPar i j (tCons ta (tCons tb tNil))) γ N R := fun A0 H0 A H σ g0 k D dn dr =>
  h1 H0 A H σ k _ fun v B H1 g1 r1 => h2 H0 B H1 σ (k.mono g1) _ fun l vs C H2 g2 hl hC e2 r2 => by
    have k2 := (k.mono g1).mono g2
    have k3 := k2.setD (r1.mono g2.view) i
    refine ⟨v, .ref l, rfl, dn _ C H2 _ hn ((g0.trans g1).trans g2) (g1.view.trans g2.view) (k3.setM j (fun b t hj mt e => ?_) (fun _ z => nomatch z) (fun _ _ z => nomatch z) (fun _ _ z => nomatch z) (fun _ z => by cases z; exact ⟨vs, Evl.fresh_back (g0.trans g1).up hl, hC, e2, r2⟩) fun _ z => nomatch z)⟩
    rcases set_get hj with ⟨_, z, _⟩ | ⟨q, hj⟩
    · subst z
      cases mt
    · rw [List.getElem?_set_ne q] at e
      obtain ⟨a, o, e2', _, _, e3⟩ := (k.mono g1).addr hj mt
      rw [e2'] at e
      cases e
      rw [hl] at e3
      cases e3
theorem r2_notB {a b : Bool} : R2D rNotB (.bl a) (.bl b) (.bl (!decide (a = b))) := fun A H vx vy s r1 r2 Q q => by
  cases r1
  cases r2
  exact ⟨a, b, rfl, rfl, q _ A H (Gr.refl s) (.bl _)⟩
theorem eqv_lst (xs ys : List Dat) : PyData.eqv (py (.lst xs)) (py (.lst ys)) = PyData.eqv (py (.tup xs)) (py (.tup ys)) := by
  show PyData.eqv (.list (pys xs)) (.list (pys ys)) = PyData.eqv (.tuple (pys xs)) (.tuple (pys ys))
  simp only [PyData.eqv]
theorem shaped_lst (ns : List Int) : SeqAt.shaped (py (.lst (ns.map .int))) = true := by
  have h := shaped_w ns
  unfold SeqAt.shaped at h ⊢
  have e1 : PyData.depth (py (.lst (ns.map Dat.int))) = PyData.depth (py (w ns)) := by
    show PyData.depth (.list (pys (ns.map Dat.int))) = PyData.depth (.tuple (pys (ns.map Dat.int)))
    simp only [PyData.depth]
  have e2 : PyData.canLay0 (py (.lst (ns.map Dat.int))) = PyData.canLay0 (py (w ns)) := by
    show PyData.canLay0 (.list (pys (ns.map Dat.int))) = PyData.canLay0 (.tuple (pys (ns.map Dat.int)))
    simp only [PyData.canLay0]
  rw [e1, e2]
  exact h
/-- [ints] == [ints] -/
theorem r2_eqLI {ns ms : List Int} : R2D (rEqD K) (.lst (ns.map .int)) (.lst (ms.map .int)) (.bl (decide (ns = ms))) := by
  have q := r2_eqD (K := K) (x := .lst (ns.map .int)) (y := .lst (ms.map .int)) (noDic_w ns) (noDic_w ms) (shaped_lst ns) (shaped_lst ms)
  rw [eqv_lst, show PyData.eqv (py (.tup (ns.map Dat.int))) (py (.tup (ms.map Dat.int))) = decide (ns = ms) from eqv_w ns ms] at q
  exact q
/-- a list of texts == [] -/
theorem r2_eqNilS (h : ∀ d ∈ xs, ∃ s, d = .str s ∧ PyData.strOk s = true) : R2D (rEqD K) (.lst xs) (.lst []) (.bl xs.isEmpty) := by
  cases xs with
  | nil => exact r2_eqNil
  | cons x xs =>
    have all : ∀ l : List Dat, (∀ d ∈ l, ∃ s, d = Dat.str s ∧ PyData.strOk s = true) → noDics l = true ∧ PyData.canLayAll0 (pys l) = true ∧ PyData.depthAll (pys l) ≤ 2 := fun l => by
      induction l with
      | nil => exact fun _ => ⟨rfl, by simp [pys, PyData.canLayAll0], by simp [pys, PyData.depthAll]⟩
      | cons d l ih =>
        intro h
        obtain ⟨a1, a2, a3⟩ := ih fun d hd => h d (List.mem_cons_of_mem _ hd)
        obtain ⟨s, rfl, hs⟩ := h d List.mem_cons_self
        refine ⟨Bool.and_eq_true_iff.mpr ⟨rfl, a1⟩, ?_, ?_⟩
        · simp only [pys, py, PyData.canLayAll0, PyData.canLay0, hs, a2, Bool.and_self]
        · simp only [pys, py, PyData.depthAll, PyData.depth]
          omega
    obtain ⟨a1, a2, a3⟩ := all _ h
    have sh : SeqAt.shaped (py (.lst (x :: xs))) = true := by
      unfold SeqAt.shaped
      have d : PyData.depth (py (.lst (x :: xs))) ≤ 64 := by
        show PyData.depth (.list (pys (x :: xs))) ≤ 64
        simp only [PyData.depth]
        omega
      rw [decide_eq_true d, Bool.and_true]
      show PyData.canLay0 (.list (pys (x :: xs))) = true
      simp only [PyData.canLay0]
      exact a2
    have q := r2_eqD (K := K) (x := .lst (x :: xs)) (y := .lst []) a1 rfl sh (by decide +kernel)
    have e2 : PyData.eqv (py (.lst (x :: xs))) (py (.lst [])) = false := by
      show PyData.eqv (.list (pys (x :: xs))) (.list []) = false
      simp only [pys, PyData.eqv, PyData.eqvAll]
    rw [e2] at q
    exact q
end
end Fr

set_option Elab.async false
set_option linter.all false
set_option maxRecDepth 100000
set_option maxHeartbeats 4000000
namespace Fr
open PySem PySem.Spec PyProof.Rows L2
open Evl (Ex)
/-! # sorted: words, the empty one among them -/
section
variable {prog : Program} {w : World} {A : Around} {E : Value → Shared → Prop} {s : Shared}
/-- each is a tuple of ints -/
def WordsE (h : Heap) (k : Value → List Int) (vs : List Value) : Prop := ∀ v ∈ vs, TS.TupInts h v (k v)
theorem lt_gen {x y : Value} {ns ms : List Int} (hx : TS.TupInts s.heap x ns) (hy : TS.TupInts s.heap y ms) (hu : A.units < cLine) {Q : Bool → Shared → Prop} (h : Q (HT.lexLt ns ms) s) : wpAny (model prog w) A (keyLt' general' x y) Q E s := by
  obtain ⟨a, xs, rfl, h1, i1⟩ := hx
  obtain ⟨b, ys, rfl, h2, i2⟩ := hy
  exact PySem.W.kat_one _ _ (HT.lt_tupInts h1 h2 i1 i2 hu h)
theorem lt_one {x y : Value} {ns ms : List Int} (hx : TS.TupInts s.heap x ns) (hy : TS.TupInts s.heap y ms) (hu : A.units < cLine) {Q : Bool → Shared → Prop} (h : Q (HT.lexLt ns ms) s) : wpAny (model prog w) A (keyLt' oneType' x y) Q E s := by
  obtain ⟨a, xs, rfl, h1, i1⟩ := hx
  obtain ⟨b, ys, rfl, h2, i2⟩ := hy
  obtain ⟨⟨cls, dd, data, sl⟩, ho, hc, n, hd⟩ := id h1
  obtain ⟨⟨cls2, dd2, data2, sl2⟩, ho2, hc2, n2, hd2⟩ := id h2
  simp only at hc hd hc2 hd2
  subst hc hd hc2 hd2
  rw [keyLt'_oneType, oneLt'_eq]
  simp only [if_true]
  refine wpAny_bind (wpAny_cRoomFor hu ?_)
  refine wpAny_bind (wpAny_callSpecialIfBound?_slot (T := "tuple") ⟨_, ho, rfl⟩ PySem.F.slot_tuple_lt (call_meets PySem.F.slot_tuple_lt ⟨_, ho, rfl⟩ PySem.F.entry_tuple_lt (PySem.F.args_tuple_lt_2 _ _) (HT.tuple_lt_ints a b xs ys n n2 dd dd2 sl sl2 ns ms i1 i2) ⟨ho, ho2, ?_⟩))
  exact wpAny_truthy_bool h
/-- the firsts -/
theorem firsts_e {M : Model} {k : Value → List Int} : ∀ (vs : List Value), WordsE s.heap k vs → ∃ fs : List (Option Value), fs.length = vs.length ∧ (∀ (i : Nat) (v : Value), vs[i]? = some v → ∃ f : Option Value, fs[i]? = some f ∧ (f.isSome = decide (0 < (k v).length))) ∧
    ∀ (Q : List (Option Value) → Shared → Prop), Q fs s → wpAny M A (vs.mapM firstOfTuple') Q E s
  | [], _ => ⟨[], rfl, fun i v h => by simp at h, fun Q h => by rw [List.mapM_nil]; exact wpAny_pure h⟩
  | v :: vs, x => by
    obtain ⟨fs, h1, h2, h3⟩ := firsts_e (M := M) vs fun u hu => x u (List.mem_cons_of_mem _ hu)
    obtain ⟨a, xs, rfl, ⟨o, ho, hc, n, hdt⟩, i⟩ := x v List.mem_cons_self
    have sz : xs.size = (k (.ref a)).length := by
      have := i.length
      rw [Array.length_toList] at this
      exact this
    refine ⟨xs[0]? :: fs, by rw [List.length_cons, List.length_cons, h1], fun j u hj => ?_, fun Q h => ?_⟩
    · cases j with
      | zero =>
        simp at hj
        subst hj
        refine ⟨_, rfl, ?_⟩
        by_cases z : 0 < xs.size
        · rw [Array.getElem?_eq_getElem z, decide_eq_true (by omega)]
          rfl
        · rw [Array.getElem?_eq_none (by omega), decide_eq_false (by omega)]
          rfl
      | succ j => exact h2 j u (by simpa using hj)
    · rw [List.mapM_cons]
      refine wpAny_bind ?_
      rw [PySem.W.kas_first_eq]
      refine wpAny_bind (PySem.W.Looks.here (show PySem.W.Looks M s.heap (typeOf (.ref a)) o.cls from (PySem.W.Looks.ld ho).andThen .now) ?_)
      rw [hc, if_neg (by first | decide | simp)]
      refine wpAny_bind (listItems_at ho hdt (wpAny_pure ?_))
      exact wpAny_bind (h3 (fun bs s' => wpAny M A (pure (xs[0]? :: bs)) Q E s') (wpAny_pure h))
theorem words_sortE {a : Addr} {k : Value → List Int} {vs : List Value} (h2 : 0 < vs.length) (hu : A.units < cLine) (hp : WordsE s.heap k vs) (ha : ∀ o, s.heap.get? a = some o → o.cls ≠ .type "tuple") : SrtO.SortableO prog w A s a vs fun v u => HT.lexLt (k v) (k u) := by
  by_cases all : ∀ v ∈ vs, 0 < (k v).length
  · exact words_sortable h2 (fun v hv => ⟨hp v hv, all v hv⟩) ha
  intro h' keep
  have hp' : WordsE h' k vs := fun v hm => (hp v hm).keeps fun b o e c => keep b o (fun z => by subst z; exact ha o e c) e
  have some0 : ∃ v ∈ vs, (k v).length = 0 := by
    apply Classical.byContradiction
    intro z
    refine all fun v hv => ?_
    rcases Nat.eq_zero_or_pos (k v).length with y | y
    · exact absurd ⟨v, hv, y⟩ z
    · exact y
  obtain ⟨fs, f1, f2, f3⟩ := firsts_e (A := A) (E := fun _ _ => False) (s := { s with heap := h' }) (M := model prog w) vs hp'
  have nall : ¬ (fs.toArray.all fun x => x.isSome) = true := by
    obtain ⟨v, hv, hz⟩ := some0
    obtain ⟨i, hi⟩ := List.getElem?_of_mem hv
    obtain ⟨f, hf, hb⟩ := f2 i v hi
    rw [List.all_toArray]
    intro q
    have := List.all_eq_true.mp q f (List.mem_of_getElem? hf)
    rw [hb, hz] at this
    cases this
  obtain ⟨v0, rest, rfl⟩ : ∃ v rest, vs = v :: rest := by
    cases vs with
    | nil => cases h2
    | cons v rest => exact ⟨v, rest, rfl⟩
  obtain ⟨f0, hf0, hb0⟩ := f2 0 v0 rfl
  have kind : ∀ κ, (κ = if 0 < (k v0).length then general' else oneType') → ∀ (Q : SortKind → Shared → Prop) (E : Value → Shared → Prop), Q κ { s with heap := h' } → wpAny (model prog w) A (keyKind' (v0 :: rest).toArray) Q E { s with heap := h' } := by
    intro κ hκ Q E hq
    obtain ⟨fs, f1, f2, f3⟩ := firsts_e (A := A) (E := E) (s := { s with heap := h' }) (M := model prog w) (v0 :: rest) hp'
    have nall : ¬ (fs.toArray.all fun x => x.isSome) = true := by
      obtain ⟨v, hv, hz⟩ := some0
      obtain ⟨i, hi⟩ := List.getElem?_of_mem hv
      obtain ⟨f, hf, hb⟩ := f2 i v hi
      rw [List.all_toArray]
      intro q
      have := List.all_eq_true.mp q f (List.mem_of_getElem? hf)
      rw [hb, hz] at this
      cases this
    obtain ⟨f0, hf0, hb0⟩ := f2 0 v0 rfl
    rw [kat_kind_eq, List.mapM_toArray, map_eq_pure_bind]
    refine wpAny_bind (wpAny_bind (f3 _ (wpAny_pure ?_)))
    rw [if_neg nall]
    have e0 : (fs.toArray[0]?.bind id) = f0 := by
      rw [List.getElem?_toArray, hf0]
      rfl
    rw [e0]
    by_cases z : 0 < (k v0).length
    · rw [if_pos z] at hκ
      subst hκ
      rw [if_pos (by rw [hb0]; exact decide_eq_true z)]
      exact wpAny_pure hq
    · rw [if_neg z] at hκ
      subst hκ
      rw [if_neg (by rw [hb0]; exact fun y => z (of_decide_eq_true y))]
      rw [oneTypeOnly'_eq, List.mapM_toArray, map_eq_pure_bind]
      have ty : ∀ v ∈ v0 :: rest, PySem.W.Looks (model prog w) h' (typeOf v) (.type "tuple") := fun v hv => by
        obtain ⟨a, xs, rfl, ⟨o, ho, hc, n, hdt⟩, i⟩ := hp' v hv
        rw [← hc]
        exact (PySem.W.Looks.ld ho).andThen .now
      refine wpAny_bind (wpAny_bind (wpAny_bind (PySem.W.kas_mapM (r := Value.type "tuple") _ (fun v hv Q' hq => (ty v hv).here hq) (wpAny_pure ?_))))
      have hall : ((List.map (fun _ => Value.type "tuple") (v0 :: rest)).toArray.all fun x => x == Value.type "tuple") = true := by
        simp only [List.all_toArray, List.all_map, List.all_eq_true]
        intro _ _
        rfl
      have h0 : (List.map (fun _ => Value.type "tuple") (v0 :: rest)).toArray[0]? = some (Value.type "tuple") := by simp
      rw [h0]
      simp only [hall, if_true]
      exact wpAny_pure (wpAny_pure hq)
  by_cases z : 0 < (k v0).length
  · refine ⟨general', kind _ (by rw [if_pos z]), fun p q hm hm' => ?_⟩
    exact lt_gen (s := { s with heap := h' }) (Q := fun r s' => s' = { s with heap := h' } ∧ r = HT.lexLt (k p.1) (k q.1)) (hp' _ hm) (hp' _ hm') hu ⟨rfl, rfl⟩
  · refine ⟨oneType', kind _ (by rw [if_neg z]), fun p q hm hm' => ?_⟩
    exact lt_one (s := { s with heap := h' }) (Q := fun r s' => s' = { s with heap := h' } ∧ r = HT.lexLt (k p.1) (k q.1)) (hp' _ hm) (hp' _ hm') hu ⟨rfl, rfl⟩
end
/-- sorted(xs), xs a list of words (k says which) -/
def rSortedE (K : PySem.W.Frag) : List V → Hp → VK → Prop := fun vs H Q => ∃ (a : Addr) (xs : List V) (k : V → List Int), vs = [V.ref a] ∧ SqL K H a xs ∧ (∀ x ∈ xs, ∃ t, x = V.ref t ∧ H t = some (.tup ((k x).map V.int))) ∧
  ∀ (ys : List V) (p : Addr), SrtO.Srtd (fun x y => HT.lexLt (k x) (k y)) ys → ys.Perm xs → H p = none → Q (.ref p) (upd H p (.lst ys))
theorem cr_sortedE {X : Cx} (hu : X.A.units + 64 < cLine) : CallR X (.builtin "sorted") (rSortedE X.K) := by
  intro pins s σ H vs us Q I r h
  obtain ⟨a, xs, k, rfl, hs, hx, q⟩ := h
  obtain ⟨its, rv, hl, hz⟩ := I.list hs
  obtain ⟨u, rfl, ru⟩ := vals1 r
  obtain rfl : u = Value.ref a := ru
  obtain ⟨e1, e2⟩ := refs_back rv fun x m => by
    obtain ⟨t, e, _⟩ := hx x m
    exact ⟨t, e⟩
  have hp : WordsE s.heap (fun u => k (backV u)) its := fun v hv => by
    obtain ⟨t, rfl⟩ := e2 v hv
    have hm : V.ref t ∈ xs := by rw [e1]; exact List.mem_map.mpr ⟨_, hv, rfl⟩
    obtain ⟨t', e, ht⟩ := hx _ hm
    cases e
    obtain ⟨_, its2, r2, o⟩ := I.hok _ _ ht
    exact ⟨t, _, rfl, o, r2.ints⟩
  refine SrtO.sorted_ord (swo_words fun u => k (backV u)) hl.isList (by rw [← rv.length]; exact hz) (fun h2 h₁ a' ha' kk => ?_) fun out h1 h2 => ?_
  · refine words_sortE (s := { s with heap := h₁ }) (by omega) (by show X.A.units + 1 + 1 < cLine; omega) (fun v hm => (hp v hm).keeps fun b o e _ => (kk b o e).2) fun o e => ?_
    have e' : some o = some (seqObj "list" its.toArray 0) := e.symm.trans ha'
    cases e'
    intro c
    exact absurd (Value.type.inj c) (by decide)
  · have h3 : ∀ u ∈ out, ∃ a, u = Value.ref a := fun u hu => e2 u (h2.perm.mem_iff.mp hu)
    obtain ⟨n, hn⟩ := sortedAll_at s.heap its out.toArray
    have hb : SrtO.Stb (fun x y => HT.lexLt (k x) (k y)) (out.map backV) xs := by
      rw [e1]
      exact SrtO.Stb.map (swo_words k) backV h2
    refine ⟨.ref (s.heap.objs.size + 1), upd H (s.heap.objs.size + 1) (.lst (out.map backV)), I.laid (t' := s.toks) (fun _ _ => PyProof.Rows.sortedAll_old) (Nat.le_succ _) ⟨?_, out, n, vals_back h3, hn⟩, rfl, q _ _ (SrtO.srtd_map h1) hb.perm (I.hok.fresh (Nat.le_succ _))⟩
    rw [hb.len]
    exact hz
theorem cr_sortedEK {X : Cx} {K : PySem.W.Frag} (e : X.K = K) (hu : X.A.units + 64 < cLine) : CallR X (.builtin "sorted") (rSortedE K) := e ▸ cr_sortedE hu
section
variable {K : PySem.W.Frag} {γ : Gam} {te : TE}
theorem en_sortedE {ks : List (List Int)} (h : EvR te γ (ks.map w)) : EvN (tCB (rSortedE K) (tCons te tNil)) γ ((sortW ks).map w) := fun H0 A H σ k Q q =>
  h H0 A H σ k _ fun l vs B H1 g1 h1 r1 => by
    obtain ⟨e1, e2⟩ := words_at g1.sub r1
    refine ⟨l, vs, wordAt H1, rfl, SqL.of h1, fun x hx => ?_, fun ys p hs hp hn => ?_⟩
    · obtain ⟨a1, a2⟩ := e2 x hx
      obtain ⟨_, t, b1, b2⟩ := wordAt_rep g1.sub a1
      exact ⟨t, b1, b2⟩
    · have g2 := Gr.newU (o := .lst ys) g1.sub hn
      have e3 : ys.map (wordAt H1) = sortW ks := srtd_one (List.pairwise_map.mpr hs) (sortW_srtd ks) (by
        have := hp.map (wordAt H1)
        rw [e1] at this
        exact this.trans (sortW_perm ks).symm)
      refine q p ys B _ (g1.trans g2) (Evl.fresh_back g1.up hn) (Evl.fresh_back g1.sub hn) upd_same ?_
      rw [← e3]
      exact reps_words fun u hu => (e2 u (hp.mem_iff.mp hu)).1
end
end Fr

set_option Elab.async false
set_option linter.all false
set_option maxRecDepth 100000
set_option maxHeartbeats 4000000
namespace Fr
open PySem PySem.Spec PyProof.Rows L2
open Evl (Ex)
theorem units65 {k : Nat} {A : Around} (r : Room k A) : A.units + 65 < cLine := by
  have := r.un
  omega
/-! # {k: v}, k a tuple -/
def tDisp1T (tk tv : TE) : TE := fun σ H Q => ∀ p, H p = none → tk σ (upd H p (.dT [])) fun x H1 => tv σ H1 fun y H2 => ∃ c ks, x = .ref c ∧ H2 c = some (.tup (ks.map kV)) ∧ H2 p = some (.dT []) ∧ Q (.ref p) (upd H2 p (.dT (putK [] ks y)))
theorem pe_disp1T {X : Cx} {pos : Pos} {k v : Expr} {tk tv : TE} (hu : X.A.units + 1 < cLine) (hk : PE X k tk) (hv : PE X v tv) : PE X (.Dict [some k] [v] pos) (tDisp1T tk tv) := by
  refine ⟨fun pins s σ H Q I q => ?_⟩
  have hn := I.hok.fresh (Nat.le_refl s.heap.objs.size)
  have I1 := I.laid (a := s.heap.objs.size) (o := .dT []) (h' := s.heap.push { cls := .type "dict", data := .dict #[] }) (t' := s.toks) (fun _ _ q => Heap.get?_push_of_some _ q) (Nat.le_refl _) (dt_empty s.heap I.big)
  rw [arm_eval_Dict, zip_pairTrees [some k] [v] X.env pos rfl rfl, dictDisplay_pairs (pairTrees [some k] [v] X.env pos) (List.cons_ne_nil _ _) (by show 1 < 17; decide)]
  refine wpAny_bind (wpAny_standAt (wpAny_bind ?_))
  unfold subDict
  refine wpAny_bind (wpAny_alloc ?_)
  refine wpAny_bind (wpAny_holding ?_)
  rw [if_pos (by show 1 ≤ 15; decide)]
  refine wpAny_bind ?_
  refine pairTrees_cons_walk (thn (hk.run pins _ σ _ _ I1 (q _ hn)) fun u s1 ⟨x, H1, I2, rx, q1⟩ => thn (hv.run pins s1 σ H1 _ I2 q1) fun w2 s2 ⟨y, H2, I3, ry, c, ks, ex, hc, hp, q2⟩ => pairTrees_nil_walk ?_)
  subst ex
  refine wpAny_holding ?_
  refine wpAny_bind ?_
  rw [List.forIn_cons]
  refine wpAny_bind (wpAny_bind (dict_set_t hu I3 hp (by show 0 < sizeLine; decide) hc rx ry fun s' I' => wpAny_pure ?_))
  simp only [List.forIn_nil]
  exact wpAny_pure (wpAny_pure (wpAny_pure (wpAny_pure ⟨.ref s.heap.objs.size, _, I', rfl, q2⟩)))
section
variable {K : PySem.W.Frag} {γ δ : Gam} {ta tb te td tk tv tl : TE} {tr : TA} {x y z : Dat} {xs ys : List Dat} {es : List (List L2.Key × Dat)} {N : Gam → Prop} {R : Dat → Gam → Prop} {tu : TS} {g : TG} {js : List Nat}
theorem em_disp1 {ns : List Int} (h1 : EvD tk γ (w ns)) (h2 : EvD tv γ x) : EvM (tDisp1T tk tv) γ [(kw ns, x)] := fun H0 A H σ k Q q p hp => by
  have g0 := Gr.newU (o := .dT []) k.sub hp
  have hA : A p = none := Evl.fresh_back k.sub hp
  refine h1 H0 A _ σ (k.mono g0) _ fun v B H1 g1 r1 => h2 H0 B H1 σ ((k.mono g0).mono g1) _ fun u C H2 g2 r2 => ?_
  cases r1 with
  | @tup c us _ hc R1 =>
    have e := R1.ints
    subst e
    have hpB : B p = none := g1.hid p _ upd_same True.intro hA
    have hp1 : H1 p = some (.dT []) := g1.up _ _ upd_same
    have hpC : C p = none := g2.hid p _ hp1 True.intro hpB
    have hp2 : H2 p = some (.dT []) := g2.up _ _ hp1
    have ek : (kw ns).map kV = ns.map V.int := by
      unfold kw
      rw [List.map_map]
      rfl
    refine ⟨c, kw ns, rfl, by rw [ek]; exact g2.sub _ _ (g2.view _ _ hc), hp2, ?_⟩
    have gg := ((g0.trans g1).trans g2)
    refine q p _ C _ ⟨fun a o e => ?_, gg.view, gg.sub.mut hpC, gg.hid⟩ hp hpC upd_same (.cons r2 .nil)
    rw [upd_ne (ne_of_none e hp)]
    exact gg.up a o e
/-- a, b = {..}, [..] -/
theorem run_parMN {i j : Nat} (h1 : EvM td γ es) (h2 : EvN tl γ ys) (hij : i ≠ j) (hn : N ((γ.set i (.od es)).set j (.o ys))) : Run (tPar i j (tCons td (tCons tl tNil))) γ N R := fun A0 H0 A H σ g0 k D dn dr =>
  h1 H0 A H σ k _ fun l kvs B H1 g1 hl hB e1 r1 => h2 H0 B H1 σ (k.mono g1) _ fun m vs C H2 g2 hm hC e2 r2 => by
    have k2 := (k.mono g1).mono g2
    have lC : C l = none := g2.hid l _ e1 True.intro hB
    have lm : l ≠ m := ne_of_none e1 hm
    have fresh : ∀ (a : Addr), H a = none → ∀ (b : Nat) (t : Slot), γ[b]? = some t → t.mine = true → σ[b]? ≠ some (some (V.ref a)) := fun a ha b t hj mt e => by
      obtain ⟨c, o, e2', _, _, e3⟩ := k.addr hj mt
      rw [e2'] at e
      cases e
      rw [ha] at e3
      cases e3
    have k3 := k2.setM (l := l) (s := .od es) i (fun b t hj mt e => fresh l hl b t hj mt e) (fun _ z => nomatch z) (fun _ _ z => nomatch z) (fun _ _ z => nomatch z) (fun _ z => nomatch z) fun _ z => by cases z; exact ⟨kvs, Evl.fresh_back g0.up hl, lC, g2.up _ _ e1, r1.mono g2.view⟩
    refine ⟨.ref l, .ref m, rfl, dn _ C H2 _ hn ((g0.trans g1).trans g2) (g1.view.trans g2.view) (k3.setM j (fun b t hj mt e => ?_) (fun _ z => nomatch z) (fun _ _ z => nomatch z) (fun _ _ z => nomatch z) (fun _ z => by cases z; exact ⟨vs, Evl.fresh_back (g0.trans g1).up hm, hC, e2, r2⟩) fun _ z => nomatch z)⟩
    rcases set_get hj with ⟨rfl, z, hi⟩ | ⟨q, hj⟩
    · rw [List.getElem?_set_self (by rw [k.len]; exact hi)] at e
      cases e
      exact lm rfl
    · rw [List.getElem?_set_ne q] at e
      exact fresh m (Evl.fresh_back g1.up hm) b t hj mt e
/-- x += e of ints -/
theorem run_aug {i : Nat} {a b : Int} (h : γ[i]? = some (.d (.int a))) (he : EvD te γ (.int b)) (hn : N (γ.set i (.d (.int (a + b))))) : Run (tAug i te (ipI fun i j => i + j)) γ N R := fun A0 H0 A H σ g0 k D dn dr => by
  obtain ⟨v, e, r⟩ := k.get i _ h
  cases r
  refine ⟨_, e, he H0 A H σ k _ fun u B H1 g1 r1 => ?_⟩
  cases r1
  exact ⟨a, b, rfl, rfl, dn _ B H1 _ hn (g0.trans g1) g1.view ((k.mono g1).setD (.int _) i)⟩
/-! ### words in a list -/
theorem flatW (ns : List Int) : noDic (w ns) = true ∧ PyData.canLay0 (py (w ns)) = true ∧ PyData.depth (py (w ns)) ≤ 2 := by
  have h := shaped_w ns
  unfold SeqAt.shaped at h
  refine ⟨noDic_w ns, (Bool.and_eq_true_iff.mp h).1, ?_⟩
  show PyData.depth (.tuple (pys (ns.map .int))) ≤ 2
  rw [pys_ints]
  have h2 := depth_ints ns
  simp only [PyData.depth]
  omega
theorem wordsFlat : ∀ ks : List (List Int), noDics (ks.map w) = true ∧ PyData.canLayAll0 (pys (ks.map w)) = true ∧ PyData.depthAll (pys (ks.map w)) ≤ 2
  | [] => ⟨rfl, by simp [pys, PyData.canLayAll0], by simp [pys, PyData.depthAll]⟩
  | k :: ks => by
    obtain ⟨a1, a2, a3⟩ := wordsFlat ks
    obtain ⟨b1, b2, b3⟩ := flatW k
    refine ⟨Bool.and_eq_true_iff.mpr ⟨b1, a1⟩, ?_, ?_⟩
    · show PyData.canLayAll0 (py (w k) :: pys (ks.map w)) = true
      simp only [PyData.canLayAll0, b2, a2, Bool.and_self]
    · show PyData.depthAll (py (w k) :: pys (ks.map w)) ≤ 2
      simp only [PyData.depthAll]
      omega
theorem shapedWs (ks : List (List Int)) : SeqAt.shaped (.list (pys (ks.map w))) = true := by
  obtain ⟨a1, a2, a3⟩ := wordsFlat ks
  unfold SeqAt.shaped
  have d : PyData.depth (.list (pys (ks.map w))) ≤ 64 := by
    simp only [PyData.depth]
    omega
  rw [decide_eq_true d, Bool.and_true]
  simp only [PyData.canLay0]
  exact a2
theorem anyWs (t : List Int) : ∀ ks : List (List Int), (pys (ks.map w)).any (fun z => PyData.eqv z (py (w t))) = decide (t ∈ ks)
  | [] => rfl
  | k :: ks => by
    show (PyData.eqv (py (w k)) (py (w t)) || (pys (ks.map w)).any _) = _
    rw [anyWs t ks, eqv_w]
    by_cases h : k = t
    · rw [decide_eq_true h, Bool.true_or, decide_eq_true (by rw [h]; exact List.mem_cons_self)]
    · rw [decide_eq_false h, Bool.false_or]
      exact decide_eq_decide.mpr ⟨List.mem_cons_of_mem _, fun z => (List.mem_cons.mp z).resolve_left fun y => h y.symm⟩
theorem ev_notinW {t : List Int} {ks : List (List Int)} (hx : EvD ta γ (w t)) (hl : EvR tb γ (ks.map w)) : EvD (tOp (rNotInD K) ta tb) γ (.bl (!decide (t ∈ ks))) := fun H0 A H σ k Q q =>
  hx H0 A H σ k _ fun v B H1 g1 r1 => hl H0 B H1 σ (k.mono g1) _ fun l vs C H2 g2 h2 r2 => by
    refine ⟨py (w t), pys (ks.map w), (r1.mono g2.view).dp g2.sub (noDic_w t), .lst (SqL.of h2) (r2.dp g2.sub (wordsFlat ks).1), shaped_w t, shapedWs ks, ?_⟩
    rw [anyWs]
    exact q _ C H2 (g1.trans g2) (.bl _)
/-- a list of words != [] -/
theorem r2_neNilW {ks : List (List Int)} : R2D (rNeD K) (.lst (ks.map w)) (.lst []) (.bl (!ks.isEmpty)) := by
  have q := r2_neD (K := K) (x := .lst (ks.map w)) (y := .lst []) (wordsFlat ks).1 rfl (shapedWs ks) (by decide +kernel)
  have e2 : PyData.eqv (py (.lst (ks.map w))) (py (.lst [])) = ks.isEmpty := by
    cases ks with
    | nil => decide +kernel
    | cons k ks =>
      show PyData.eqv (.list (pys (w k :: ks.map w))) (.list []) = false
      simp only [pys, PyData.eqv, PyData.eqvAll]
  rw [e2] at q
  exact q
theorem r2_eqNilW {ks : List (List Int)} : R2D (rEqD K) (.lst (ks.map w)) (.lst []) (.bl ks.isEmpty) := by
  have q := r2_eqD (K := K) (x := .lst (ks.map w)) (y := .lst []) (wordsFlat ks).1 rfl (shapedWs ks) (by decide +kernel)
  have e2 : PyData.eqv (py (.lst (ks.map w))) (py (.lst [])) = ks.isEmpty := by
    cases ks with
    | nil => decide +kernel
    | cons k ks =>
      show PyData.eqv (.list (pys (w k :: ks.map w))) (.list []) = false
      simp only [pys, PyData.eqv, PyData.eqvAll]
  rw [e2] at q
  exact q
/-- for i in range(n, 0, -1) -/
theorem run_forDown {n : Nat} (h : EvA tr γ [.int (n : Int), .int 0, .int (-1)]) (hn : n < 100000) (I : Nat → Gam → Prop) (h0 : I 0 γ)
    (hs : ∀ i δ, i < n → I i δ → ∃ js ε, Tg g js δ (.int ((n - i : Nat) : Int)) ε ∧ Run tu ε (I (i + 1)) R) (hd : ∀ δ, I n δ → N δ) : Run (tFor (iRng3 tr) g tu) γ N R := fun A0 H0 A H σ g0 k D dn dr =>
  h H0 A H σ k _ fun vs B H1 g1 r1 => by
    cases r1 with
    | cons r1 r2 =>
      cases r2 with
      | cons r2 r3 =>
        cases r3 with
        | cons r3 r4 =>
          cases r4
          cases r1
          cases r2
          cases r3
          have en : ((n : Int) - 0).toNat = n := by omega
          have rg := RgC.neg (i := (n : Int)) (j := 0) (by omega) (by omega) (by decide) (by decide)
          rw [en] at rg
          refine ⟨n, 0, -1, n, rfl, rg, for_rangeC (fun i σ' H' => ∃ δ C, I i δ ∧ Gr A0 H0 C H' ∧ Ex B C ∧ Ok H0 C H' σ' δ) ⟨γ, B, h0, g0.trans g1, Ex.refl B, k.mono g1⟩ ?_ ?_⟩
          · rintro i σ' H' hi ⟨δ, C, hI, g2, v2, k2⟩
            obtain ⟨js, ε, ht, hr⟩ := hs i δ hi hI
            have ev : (n : Int) + (i : Nat) * (-1) = ((n - i : Nat) : Int) := by omega
            rw [ev]
            refine ht H0 C H' σ' _ k2 (.int _) _ fun σ3 k3 _ _ => ?_
            exact hr A0 H0 C H' σ3 g2 k3 { D with nx := _, ct := _, bk := D.nx } (fun δ' C' H3 σ4 hN g4 v4 k4 => ⟨δ', C', hN, g4, v2.trans v4, k4⟩) dr
          · rintro σ' H' ⟨δ, C, hI, g2, v2, k2⟩
            exact dn δ C H' σ' (hd δ hI) g2 (g1.view.trans v2) k2
/-- heard = [e1, e2] of new lists; if test: return; heard[0].append(None): behind it the lists are forgotten -/
theorem run_dirty1 {i : Nat} {c1 c2 : TE} {t3 : TT} {tu3 tw : TS} {us1 us2 : List Dat} (hi : i < γ.length) (h1 : EvN c1 γ us1) (h2 : EvN c2 γ us2) (z1 : us1.length < sizeLine)
    (h4 : EvT t3 (γ.set i (.d (.lst [.lst us1, .lst us2]))) false) (hr : Run tw (γ.set i .no) N R) :
    Run (tSeq (tAsg (tLst (tCons c1 (tCons c2 tNil))) (gName i)) (tSeq (tIfS t3 tu3 tNext) (tSeq (tDrop (tBM K "list" rAppend (tOp (rIxL K) (tVar i) (tC (.int 0))) (tCons (tC .non) tNil))) tw))) γ N R := fun A0 H0 A H σ g0 k D dn dr => by
  refine h1 H0 A H σ k _ fun l1 vs1 B1 H1 g1 f1 b1 e1 r1 => ?_
  refine h2 H0 B1 H1 σ (k.mono g1) _ fun l2 vs2 B2 H2 g2 f2 b2 e2 r2 => ?_
  refine ⟨by show 2 ≤ sizeLine; decide, fun p hp => ?_⟩
  have l12 : l1 ≠ l2 := ne_of_none e1 f2
  have f2' : H l2 = none := Evl.fresh_back g1.up f2
  have e1' : H2 l1 = some (.lst vs1) := g2.up _ _ e1
  have p1 : l1 ≠ p := ne_of_none e1' hp
  have p2 : l2 ≠ p := ne_of_none e2 hp
  have g12 : Gr A H B2 H2 := g1.trans g2
  have hp0 : H p = none := Evl.fresh_back g12.up hp
  have g3 : Gr A H B2 (upd H2 p (.lst [.ref l1, .ref l2])) := g12.trans (Gr.newU g12.sub hp)
  have n1 : B2 l1 = none := g2.hid l1 _ e1 True.intro b1
  have np : B2 p = none := Evl.fresh_back g12.sub hp
  have q1 : upd H2 p (.lst [.ref l1, .ref l2]) l1 = some (.lst vs1) := by rw [upd_ne p1]; exact e1'
  have q2 : upd H2 p (.lst [.ref l1, .ref l2]) l2 = some (.lst vs2) := by rw [upd_ne p2]; exact e2
  have qp : upd H2 p (.lst [.ref l1, .ref l2]) p = some (.lst [.ref l1, .ref l2]) := upd_same
  generalize upd H2 p (.lst [.ref l1, .ref l2]) = H3 at g3 q1 q2 qp
  have gA := g3.show q1 f1 n1
  have n2 : upd B2 l1 (.lst vs1) l2 = none := by rw [upd_ne (Ne.symm l12)]; exact b2
  have gB := gA.show q2 f2' n2
  have n3 : upd (upd B2 l1 (.lst vs1)) l2 (.lst vs2) p = none := by rw [upd_ne (Ne.symm p2), upd_ne (Ne.symm p1)]; exact np
  have gV := gB.show qp hp0 n3
  have x1 : Ex B2 (upd (upd (upd B2 l1 (.lst vs1)) l2 (.lst vs2)) p (.lst [.ref l1, .ref l2])) := (Ex.new n1).trans ((Ex.new n2).trans (Ex.new n3))
  have w1 : upd (upd (upd B2 l1 (.lst vs1)) l2 (.lst vs2)) p (.lst [.ref l1, .ref l2]) l1 = some (.lst vs1) := by rw [upd_ne p1, upd_ne l12]; exact upd_same
  have w2 : upd (upd (upd B2 l1 (.lst vs1)) l2 (.lst vs2)) p (.lst [.ref l1, .ref l2]) l2 = some (.lst vs2) := by rw [upd_ne p2]; exact upd_same
  have wp : upd (upd (upd B2 l1 (.lst vs1)) l2 (.lst vs2)) p (.lst [.ref l1, .ref l2]) p = some (.lst [.ref l1, .ref l2]) := upd_same
  generalize upd (upd (upd B2 l1 (.lst vs1)) l2 (.lst vs2)) p (.lst [.ref l1, .ref l2]) = VV at gV x1 w1 w2 wp
  have rp : Rep VV (.ref p) (.lst [.lst us1, .lst us2]) := .lst wp (.cons (.lst w1 (r1.mono (g2.view.trans x1))) (.cons (.lst w2 (r2.mono x1)) .nil))
  have k1 := (k.mono gV).setD rp i
  refine h4 H0 VV H3 _ k1 _ fun V3 H5 g5 => ?_
  have up5 : Ex H3 H5 := g5.up
  have si : (σ.set i (some (V.ref p)))[i]? = some (some (V.ref p)) := List.getElem?_set_self (by rw [k.len]; exact hi)
  rw [if_neg Bool.false_ne_true]
  refine ⟨.ref p, si, p, [.ref l1, .ref l2], 0, .ref l1, rfl, rfl, SqL.of (up5 _ _ qp), rfl, .inl ⟨rfl, vs1, SqL.of (up5 _ _ q1)⟩, l1, vs1, .non, rfl, rfl, up5 _ _ q1, by rw [r1.len]; exact z1, ?_⟩
  have ex : Ex H (upd H5 l1 (.lst (vs1 ++ [.non]))) := fun a o e => by
    rw [upd_ne (ne_of_none e f1)]
    exact up5 _ _ (gV.up _ _ e)
  refine hr A0 H0 A _ _ ⟨g0.up.trans ex, g0.view, k.sub.trans ex, g0.hid⟩ ?_ D dn dr
  exact (k.move (k.sub.trans ex) (Ex.refl A) fun c o a b e => ⟨a, b, ex _ _ e⟩).forget i _
end
end Fr

set_option Elab.async false
set_option linter.all false
set_option maxRecDepth 100000
set_option maxHeartbeats 4000000
namespace Fr
open PySem PySem.Spec PyProof.Rows L2
open Evl (Ex)
section
variable {K : PySem.W.Frag} {γ : Gam} {ta tb te : TE} {x y z : Dat} {xs ys : List Dat}
/-- list * 2 -/
theorem en_rep2 (h : EvR ta γ xs) (hb : EvD tb γ (.int 2)) (hl : xs.length * 2 ≤ sizeLine) : EvN (tOp rRep ta tb) γ (xs ++ xs) := fun H0 A H σ k Q q =>
  h H0 A H σ k _ fun l vs B H1 g1 h1 r1 => hb H0 B H1 σ (k.mono g1) _ fun v C H2 g2 r2 => by
    cases r2
    refine ⟨l, 2, vs, rfl, rfl, g2.up _ _ h1, by decide, by decide, by rw [r1.len]; exact hl, fun p hp => ?_⟩
    have r3 := r1.mono g2.view
    have e : (List.replicate (2 : Int).toNat vs).flatten = vs ++ vs := by
      show (List.replicate 2 vs).flatten = _
      simp [List.replicate]
    rw [e]
    exact q p _ C _ ((g1.trans g2).trans (Gr.newU g2.sub hp)) (Evl.fresh_back (g1.trans g2).up hp) (Evl.fresh_back g2.sub hp) upd_same (r3.app r3)
/-- list(xs) -/
theorem en_listL (h : EvR te γ xs) : EvN (tCB (Evl.rListS K) (tCons te tNil)) γ xs := fun H0 A H σ k Q q =>
  h H0 A H σ k _ fun l vs B H1 g1 h1 r1 => ⟨l, vs, rfl, .inl (SqL.of h1), fun p hp => q p vs B _ (g1.trans (Gr.newU g1.sub hp)) (Evl.fresh_back g1.up hp) (Evl.fresh_back g1.sub hp) upd_same r1⟩
theorem r2_catL (hl : xs.length + ys.length ≤ sizeLine) : R2D rCat (.lst xs) (.lst ys) (.lst (xs ++ ys)) := fun A H vx vy s r1 r2 Q q => by
  cases r1 with
  | @lst a us _ h1 R1 =>
    cases r2 with
    | @lst b ws _ h2 R2 =>
      refine ⟨a, b, us, ws, rfl, rfl, s _ _ h1, s _ _ h2, by rw [R1.len, R2.len]; exact hl, fun p hp => ?_⟩
      have g := Gr.new (o := .lst (us ++ ws)) s hp
      exact q _ _ _ g (.lst upd_same ((R1.app R2).mono g.view))
theorem eqvAllW : ∀ ks : List (List Int), PyData.eqvAll (pys (ks.map w)) (pys (ks.map w)) = true
  | [] => by simp [pys, PyData.eqvAll]
  | k :: ks => by
    show PyData.eqvAll (py (w k) :: pys (ks.map w)) (py (w k) :: pys (ks.map w)) = true
    simp [PyData.eqvAll, eqv_w, eqvAllW ks]
/-- a list of words != the same -/
theorem r2_neSameW {ks : List (List Int)} : R2D (rNeD K) (.lst (ks.map w)) (.lst (ks.map w)) (.bl false) := by
  have q := r2_neD (K := K) (x := .lst (ks.map w)) (y := .lst (ks.map w)) (wordsFlat ks).1 (wordsFlat ks).1 (shapedWs ks) (shapedWs ks)
  have e2 : PyData.eqv (py (.lst (ks.map w))) (py (.lst (ks.map w))) = true := by
    show PyData.eqv (.list (pys (ks.map w))) (.list (pys (ks.map w))) = true
    simp only [PyData.eqv]
    exact eqvAllW ks
  rw [e2] at q
  exact q
end
end Fr

set_option Elab.async false
set_option linter.all false
set_option maxRecDepth 100000
set_option maxHeartbeats 4000000
namespace Fr
open PySem PySem.Spec PyProof.Rows L2
open Evl (Ex)
/-- a list of anything == [] -/
def rEqNil (K : PySem.W.Frag) : R2 := fun x y H Q => ∃ a b xs, x = .ref a ∧ y = .ref b ∧ SqL K H a xs ∧ SqL K H b [] ∧ Q (.bl xs.isEmpty) H
section
variable {X : Cx}
theorem op_eqNil (hu : X.A.units < cLine) : OpR X (compareOp .Eq) (rEqNil X.K) := by
  intro pins s σ H x y v u Q I rx ry h
  obtain ⟨a, b, xs, rfl, rfl, ha, hb, q⟩ := h
  cases (show v = Value.ref a from rx)
  cases (show u = Value.ref b from ry)
  obtain ⟨us, r1, p1, _⟩ := I.list ha
  obtain ⟨ws, r2, p2, _⟩ := I.list hb
  have e2 : ws = [] := by cases r2; rfl
  subst e2
  cases xs with
  | nil =>
    have e1 : us = [] := by cases r1; rfl
    subst e1
    exact SeqAt.eq_listAt (e := fun _ => true) p1.isList p2.isList rfl hu (fun j h1 _ => absurd h1 (Nat.not_lt_zero j)) ⟨.bl true, H, I, rfl, q⟩
  | cons z zs =>
    have hn : us.length ≠ 0 := by
      have := r1.length
      rw [← this]
      exact Nat.succ_ne_zero _
    refine SeqAt.eq_list_lengthsAt p1.isList p2.isList ?_ hu ⟨.bl false, H, I, rfl, q⟩
    rw [List.size_toArray, List.size_toArray]
    exact bne_iff_ne.mpr hn
theorem op_eqNilK {K : PySem.W.Frag} (e : X.K = K) (hu : X.A.units < cLine) : OpR X (compareOp .Eq) (rEqNil K) := e ▸ op_eqNil hu
end
section
variable {K : PySem.W.Frag} {xs : List Dat}
theorem r2_eqNilA : R2D (rEqNil K) (.lst xs) (.lst []) (.bl xs.isEmpty) := fun A H vx vy s r1 r2 Q q => by
  cases r1 with
  | @lst a us _ h1 R1 =>
    cases r2 with
    | @lst b ws _ h2 R2 =>
      cases R2
      have e : us.isEmpty = xs.isEmpty := by cases R1 <;> rfl
      exact ⟨a, b, us, rfl, rfl, SqL.of (s _ _ h1), SqL.of (s _ _ h2), e ▸ q _ A H (Gr.refl s) (.bl _)⟩
end
/-! # <= of words -/
theorem lexAt_shift {e r e2 r2 : Nat → Bool} {z : Bool} (he : ∀ j, e (j + 1) = e2 j) (hr : ∀ j, r (j + 1) = r2 j) : ∀ k i, Ob.lexAt e r z (i + 1) k = Ob.lexAt e2 r2 z i k
  | 0, _ => rfl
  | k + 1, i => by
    rw [Ob.lexAt_succ, Ob.lexAt_succ, he, hr, lexAt_shift he hr k (i + 1)]
theorem lexAt_le : ∀ ns ms : List Int, Ob.lexAt (fun j => decide (ns.getD j 0 = ms.getD j 0)) (fun j => decide (ns.getD j 0 ≤ ms.getD j 0)) (decide (ns.length ≤ ms.length)) 0 (min ns.length ms.length) = !HT.lexLt ms ns
  | [], ms => by
    rw [List.length_nil, Nat.zero_min, Ob.lexAt_zero, decide_eq_true (Nat.zero_le _)]
    cases ms <;> rfl
  | n :: ns, [] => by
    rw [List.length_nil, Nat.min_zero, Ob.lexAt_zero, decide_eq_false (by rw [List.length_cons]; omega)]
    rfl
  | n :: ns, m :: ms => by
    have ih := lexAt_le ns ms
    have e0 : min (n :: ns).length (m :: ms).length = min ns.length ms.length + 1 := by
      rw [List.length_cons, List.length_cons]
      omega
    have e1 : decide ((n :: ns).length ≤ (m :: ms).length) = decide (ns.length ≤ ms.length) := decide_eq_decide.mpr (by rw [List.length_cons, List.length_cons]; omega)
    rw [e0, e1, Ob.lexAt_succ, lexAt_shift (e2 := fun j => decide (ns.getD j 0 = ms.getD j 0)) (r2 := fun j => decide (ns.getD j 0 ≤ ms.getD j 0)) (fun _ => rfl) (fun _ => rfl), ih]
    show (if decide (n = m) = true then !HT.lexLt ms ns else decide (n ≤ m)) = !(if m = n then HT.lexLt ms ns else decide (m < n))
    by_cases h : n = m
    · rw [decide_eq_true h, if_pos rfl, if_pos h.symm]
    · rw [decide_eq_false h, if_neg (by decide), if_neg (fun z => h z.symm)]
      by_cases h2 : n ≤ m
      · rw [decide_eq_true h2, decide_eq_false (by omega)]
        rfl
      · rw [decide_eq_false h2, decide_eq_true (by omega)]
        rfl
theorem op_leK {X : Cx} {K : PySem.W.Frag} (e : X.K = K) (hu : X.A.units < cLine) : OpR X (compareOp .LtE) (rLeT K) := e ▸ op_leT hu
theorem r2_leT {K : PySem.W.Frag} {ns ms : List Int} : R2D (rLeT K) (w ns) (w ms) (.bl (!HT.lexLt ms ns)) := fun A H vx vy s r1 r2 Q q => by
  cases r1 with
  | @tup a us _ h1 R1 =>
    cases r2 with
    | @tup b ws _ h2 R2 =>
      have e1 := R1.ints
      have e2 := R2.ints
      subst e1 e2
      refine ⟨a, b, ns, ms, rfl, rfl, SqT.of (s _ _ h1), SqT.of (s _ _ h2), ?_⟩
      rw [lexAt_le]
      exact q _ A H (Gr.refl s) (.bl _)
end Fr

set_option Elab.async false
set_option linter.all false
set_option maxRecDepth 100000
set_option maxHeartbeats 4000000
/-! t[::-1], t a tuple -/
namespace Fr
open PySem PySem.Spec PyProof.Rows L2
open Evl (Ex)
section
variable {prog : Program} {w : World} {A : Around} {E : Value → Shared → Prop} {s : Shared}
theorem adjust_rev (n : Nat) : Builtin.Slice.sliceAdjust none none (-1) (n : Int) = ((n : Int) - 1, -1) := by
  unfold Builtin.Slice.sliceAdjust
  simp only [show ((-1 : Int) < 0) from by decide, if_true]
theorem places_rev (n : Nat) : Builtin.Slice.slicePlaces ((n : Int) - 1) (-1) (-1) = n := by
  unfold Builtin.Slice.slicePlaces
  rw [if_neg (by decide)]
  by_cases h : (n : Int) - 1 > -1
  · rw [if_pos h, show (-(-1) : Int) = 1 by decide, Int.ediv_one]
    omega
  · rw [if_neg h]
    omega
theorem slice_rev {q : Addr} {v3 : Value} {n : Nat} {Q : Int × Int × Nat → Shared → Prop} (hq : s.heap.IsSliceOf q .none .none v3) (p3 : IsPart v3 (some (-1)))
    (h : Q ((n : Int) - 1, -1, n) s) : wpAny (model prog w) A (Builtin.Slice.sliceApplied (.ref q) (pure (n : Int))) Q E s := by
  obtain ⟨oz, z1, _, z3⟩ := id hq
  unfold Builtin.Slice.sliceApplied Builtin.Slice.sliceFields
  refine wpAny_bind (wpAny_bind (wpAny_field z1 z3 (x := .none) rfl (wpAny_bind (wpAny_field z1 z3 (x := .none) rfl (wpAny_bind (wpAny_field z1 z3 (x := v3) rfl (wpAny_pure ?_)))))))
  refine wpAny_bind (HT.slicePart_ p3 ?_)
  show wpAny _ _ (if ((-1 : Int) == 0) = true then _ else _) _ _ s
  rw [if_neg (by decide)]
  refine wpAny_bind (HT.slicePart_ .none (wpAny_bind (HT.slicePart_ .none (wpAny_bind (wpAny_pure ?_)))))
  show wpAny _ _ (match Builtin.Slice.sliceAdjust none none (-1) (n : Int) with | (lo, hi) => pure (lo, (-1 : Int), Builtin.Slice.slicePlaces lo hi (-1))) _ _ s
  rw [adjust_rev]
  show wpAny _ _ (pure ((n : Int) - 1, (-1 : Int), Builtin.Slice.slicePlaces ((n : Int) - 1) (-1) (-1))) _ _ s
  rw [places_rev]
  exact wpAny_pure h
theorem fm_congr {α β : Type} {f g : α → Option β} : ∀ {l : List α}, (∀ a ∈ l, f a = g a) → l.filterMap f = l.filterMap g
  | [], _ => rfl
  | a :: l, h => by
    rw [List.filterMap_cons, List.filterMap_cons, h a List.mem_cons_self, fm_congr fun b hb => h b (List.mem_cons_of_mem _ hb)]
theorem pick_rev (zs : Array Value) : ((List.range zs.size).filterMap fun (m : Nat) => zs[(((zs.size : Int) - 1) + (m : Int) * (-1)).toNat]?).toArray = zs.toList.reverse.toArray := by
  have e : ((List.range zs.size).filterMap fun (m : Nat) => zs[(((zs.size : Int) - 1) + (m : Int) * (-1)).toNat]?) = ((List.range zs.size).map fun k => zs.size - 1 - k).filterMap (zs[·]?) := by
    rw [List.filterMap_map]
    refine fm_congr fun m hm => ?_
    have h := List.mem_range.mp hm
    have q : (((zs.size : Int) - 1) + (m : Int) * (-1)).toNat = zs.size - 1 - m := by omega
    show zs[_]? = zs[zs.size - 1 - m]?
    rw [q]
  rw [e, PySem.W.krv_range, List.filterMap_reverse, PySem.W.krv_all]
theorem item_rev {t q : Addr} {zs : Array Value} {v3 : Value} {Q : Value → Shared → Prop} (hT : IsTup s.heap t zs) (hq : s.heap.IsSliceOf q .none .none v3) (p3 : IsPart v3 (some (-1))) (hz : zs.size ≤ sizeLine) 
    (h : Q (.ref s.heap.objs.size) { s with heap := s.heap.push { cls := .type "tuple", data := .seq zs.toList.reverse.toArray } }) : wpAny (model prog w) A (getItem (.ref t) (.ref q)) Q E s := by
  have size : sizeOk (.seq zs.toList.reverse.toArray) := by
    show zs.toList.reverse.toArray.size ≤ sizeLine
    rw [List.size_toArray, List.length_reverse, Array.length_toList]
    exact hz
  obtain ⟨oz, z1, z2, z3⟩ := id hq
  have hTq : s.TypeIs (.ref q) "slice" := ⟨oz, z1, z2⟩
  unfold getItem
  try with_reducible refine wpAny_holding ?_
  first | refine wpAny_bind (wpAny_pure ?_) | skip
  refine wpAny_bind (wpAny_sequenceKey hT.typeIs (by decide) ?_)
  refine wpAny_bind (wpAny_callSpecial?_slot (name := Str.ofString "__getitem__") hT.typeIs PyProof.Rows.slot_tuple_getitem (wpAny_call_entry PyProof.Rows.slot_tuple_getitem hT.typeIs entry_tuple_getitem ?_ (args_tuple_getitem _ _)))
  show wpAny _ _ (Builtin.Tuple.tupleItemsOf (.ref t) >>= _) _ _ s
  refine wpAny_bind (tupleItemsOf_ hT ?_)
  refine wpAny_bind (wpAny_typeOf hTq ?_)
  rw [if_pos (by decide)]
  refine wpAny_bind (slice_rev hq p3 ?_)
  have no : ¬ ((((zs.size : Int) - 1) == 0 && (-1 : Int) == 1 && zs.size == zs.size) = true) := by
    intro z
    rw [Bool.and_eq_true, Bool.and_eq_true] at z
    exact absurd (eq_of_beq z.1.2) (by decide)
  show wpAny _ _ (if (((zs.size : Int) - 1) == 0 && (-1 : Int) == 1 && zs.size == zs.size) = true then _ else _) _ _ s
  rw [if_neg no, pick_rev]
  first
    | exact wpAny_bind (m := Builtin.Tuple.tupleExact _) (wpAny_newObj_type (wpAny_pure ⟨_, rfl, wpAny_pure h⟩) size)
    | exact wpAny_bind (wpAny_bind (m := Builtin.Tuple.tupleExact _) (wpAny_newObj_type (wpAny_pure (wpAny_pure ⟨_, rfl, wpAny_pure h⟩)) size))
    | exact wpAny_bind (wpAny_bind (m := Builtin.Tuple.tupleExact _) (wpAny_newObj_type (wpAny_pure ⟨_, rfl, wpAny_pure h⟩) size))
end
def tRevT (K : PySem.W.Frag) (te : TE) : TE := fun σ H Q => te σ H fun x H1 => ∃ a xs, x = .ref a ∧ SqT K H1 a xs ∧ ∀ p, H1 p = none → Q (.ref p) (upd H1 p (.tup xs.reverse))
theorem pe_revT {X : Cx} {e : Expr} {te : TE} {k : Nat} {c1 c2 c3 pos : Pos} (he : PE X e te) : PE X (.Subscript e (.Slice none none (some (.UnaryOp .USub (.Constant (.int 1) k c1) c2)) c3) pos) (tRevT X.K te) := by
  refine ⟨fun pins s0 σ G0 Q J h => ?_⟩
  refine Subscript_ (thn (he.run pins s0 σ G0 _ J h) fun v s1 ⟨x, G1, J1, y1, w1⟩ => ?_)
  obtain ⟨a, xs, ex, hx, fin⟩ := w1
  subst ex
  cases y1
  have st : PO X (some (.UnaryOp .USub (.Constant (.int 1) k c1) c2)) (tPart (tUn (rU fun i => .int (-i)) (tC (.int 1)))) := po_some (pe_un un_neg pe_int)
  refine wpAny_Slice (thn (po_none.run pins s1 σ G1 (fun o G2 => o = none ∧ G2 = G1) J1 ⟨rfl, rfl⟩) fun va s2 ⟨oa, G2, J2, pa, ea, fa⟩ => ?_)
  subst ea fa
  refine thn (po_none.run pins s2 σ G2 (fun o G3 => o = none ∧ G3 = G2) J2 ⟨rfl, rfl⟩) fun vb s3 ⟨ob, G3, J3, pb, eb, fb⟩ => ?_
  subst eb fb
  refine thn (st.run pins s3 σ G3 (fun o G4 => o = some (-1) ∧ G4 = G3) J3 ⟨1, rfl, -1, rfl, rfl, rfl⟩) fun vc s4 ⟨oc, G4, J4, pc, ec, fc⟩ => ?_
  subst ec fc
  have J5 : Inv X pins σ G4 { s4 with heap := s4.heap.push { cls := .type "slice", data := .fields #[va, vb, vc] } } := J4.kept (t' := s4.toks) fun b ob q => Heap.get?_push_of_some _ q
  obtain ⟨its, r, ht, hz⟩ := J5.tuple hx
  have hlen := r.length
  cases pa
  cases pb
  show wpAny (model X.prog X.w) X.A (subscriptTail e (.Slice none none (some (.UnaryOp .USub (.Constant (.int 1) k c1) c2)) c3) (.ref a) (.ref s4.heap.objs.size)) (EP X pins σ Q) X.xe { s4 with heap := s4.heap.push { cls := .type "slice", data := .fields #[.none, .none, vc] } }
  refine tail_any (ops := [.ref a, .ref s4.heap.objs.size]) ht.typeIs (PyProof.Rows.slot_tuple_getitem.lookup) ?_ (by with_unfolding_all rfl)
  refine item_rev ht (Heap.IsSliceOf.new _ .none .none vc) pc (by rw [List.size_toArray]; omega) ?_
  refine ⟨.ref _, _, J5.laid (t' := s4.toks) (o := .tup xs.reverse) (fun b ob q => Heap.get?_push_of_some _ q) (Nat.le_refl _) ?_, rfl, fin _ (J5.hok.fresh (Nat.le_refl _))⟩
  exact ⟨by rw [List.length_reverse]; exact hz, _, r.reverse, IsTup.new _ _⟩
theorem pe_revTK {X : Cx} {K : PySem.W.Frag} {e : Expr} {te : TE} {k : Nat} {c1 c2 c3 pos : Pos} (hk : X.K = K) (he : PE X e te) : PE X (.Subscript e (.Slice none none (some (.UnaryOp .USub (.Constant (.int 1) k c1) c2)) c3) pos) (tRevT K te) := hk ▸ pe_revT he
section
variable {K : PySem.W.Frag} {γ : Gam} {te : TE} {xs : List Dat}
theorem Reps.rev {A : Hp} : ∀ {vs : List V} {ds : List Dat}, Reps A vs ds → Reps A vs.reverse ds.reverse
  | _, _, .nil => .nil
  | _, _, .cons h r => by
    rw [List.reverse_cons, List.reverse_cons]
    exact (Reps.rev r).app (.cons h .nil)
/-- list(t) -/
theorem en_listT (h : EvD te γ (.tup xs)) : EvN (tCB (Evl.rListS K) (tCons te tNil)) γ xs := fun H0 A H σ k Q q =>
  h H0 A H σ k _ fun v B H1 g1 r1 => by
    cases r1 with
    | @tup a us _ ha R =>
      exact ⟨a, us, rfl, .inr (SqT.of (g1.sub _ _ ha)), fun p hp => q p us B _ (g1.trans (Gr.newU g1.sub hp)) (Evl.fresh_back g1.up hp) (Evl.fresh_back g1.sub hp) upd_same R⟩
theorem ev_revT (h : EvD te γ (.tup xs)) : EvD (tRevT K te) γ (.tup xs.reverse) := fun H0 A H σ k Q q =>
  h H0 A H σ k _ fun v B H1 g1 r1 => by
    cases r1 with
    | @tup a us _ ha R =>
      refine ⟨a, us, rfl, SqT.of (g1.sub _ _ ha), fun p hp => ?_⟩
      have g := Gr.new (o := .tup us.reverse) g1.sub hp
      exact q _ _ _ (g1.trans g) (.tup upd_same ((Reps.rev R).mono g.view))
end
end Fr

set_option Elab.async false
set_option linter.all false
set_option maxRecDepth 100000
set_option maxHeartbeats 4000000
namespace Fr
open PySem PySem.Spec PyProof.Rows L2
open Evl (Ex)
/-! # instances that are made and then stand still -/
def putD (f : Str) (x : Dat) : List (Str × Dat) → List (Str × Dat)
  | [] => [(f, x)]
  | (g, y) :: r => if g = f then (g, x) :: r else (g, y) :: putD f x r
theorem RepsF.put {A : Hp} {f : Str} {v : V} {x : Dat} (h : Rep A v x) : ∀ {kvs : List (Str × V)} {fs : List (Str × Dat)}, RepsF A kvs fs → RepsF A (putF f v kvs) (putD f x fs)
  | _, _, .nil => .cons h .nil
  | _, _, @RepsF.cons _ g u d us ds a b => by
    by_cases q : g = f
    · have e1 : putF f v ((g, u) :: us) = (g, v) :: us := by show (if g = f then _ else _) = _; rw [if_pos q]
      have e2 : putD f x ((g, d) :: ds) = (g, x) :: ds := by show (if g = f then _ else _) = _; rw [if_pos q]
      rw [e1, e2]
      exact .cons h b
    · have e1 : putF f v ((g, u) :: us) = (g, u) :: putF f v us := by show (if g = f then _ else _) = _; rw [if_neg q]
      have e2 : putD f x ((g, d) :: ds) = (g, d) :: putD f x ds := by show (if g = f then _ else _) = _; rw [if_neg q]
      rw [e1, e2]
      exact .cons a (RepsF.put h b)
theorem RepsF.len {A : Hp} : ∀ {kvs : List (Str × V)} {fs : List (Str × Dat)}, RepsF A kvs fs → kvs.length = fs.length
  | _, _, .nil => rfl
  | _, _, .cons _ b => by rw [List.length_cons, List.length_cons, RepsF.len b]
theorem lenP {f : Str} {x : Dat} : ∀ {fs : List (Str × Dat)} {n : Nat}, fs.length ≤ n → (putD f x fs).length ≤ n + 1
  | [], n, _ => Nat.succ_le_succ (Nat.zero_le n)
  | (g, y) :: r, n, h => by
    by_cases q : g = f
    · have e2 : putD f x ((g, y) :: r) = (g, x) :: r := by show (if g = f then _ else _) = _; rw [if_pos q]
      rw [e2]
      exact Nat.le_succ_of_le h
    · have e2 : putD f x ((g, y) :: r) = (g, y) :: putD f x r := by show (if g = f then _ else _) = _; rw [if_neg q]
      rw [e2]
      cases n with
      | zero => cases h
      | succ m => exact Nat.succ_le_succ (lenP (Nat.le_of_succ_le_succ h))
/-- what __init__ promises: from which data which fields -/
def PrI (C : Addr) (Rf : List Dat → List (Str × Dat) → Prop) : Sp := fun vs H Q _ => ∃ A p dx us xs fs, vs = V.ref p :: us ∧ Ex A H ∧ A p = none ∧ H p = some (.ins C dx []) ∧ Reps A us xs ∧ Rf xs fs ∧
  ∀ B H' kvs, Gr A (hide p H) B H' → B p = none → H' p = some (.ins C dx kvs) → RepsF B kvs fs → Q .non H'
/-- a body that fills an instance -/
def InitRun (C : Addr) (ts : TS) (γ : Gam) (fs fs' : List (Str × Dat)) : Prop := ∀ A0 H0 A H σ p dx kvs, Gr A0 H0 A H → Ok H0 A H σ γ → σ[0]? = some (some (V.ref p)) → H0 p = none → A p = none → H p = some (.ins C dx kvs) → RepsF A kvs fs → ∀ D : Ends,
  (∀ B H' σ' kvs', Gr A0 H0 B H' → B p = none → H' p = some (.ins C dx kvs') → RepsF B kvs' fs' → D.nx σ' H') → ts D σ H
/-- nothing of the frame's own -/
def NoMine (γ : Gam) : Prop := ∀ (i : Nat) (s : Slot), γ[i]? = some s → s.mine = false
section
variable {K : PySem.W.Frag} {γ : Gam} {C : Addr} {te : TE} {tw : TS} {x : Dat} {fs fs' : List (Str × Dat)} {f : Str}
theorem Ok.insMut {H0 A H : Hp} {σ : L2.St} {p : Addr} {o : HO} (k : Ok H0 A H σ γ) (hm : NoMine γ) (hA : A p = none) : Ok H0 A (upd H p o) σ γ := by
  refine ⟨k.sub.mut hA, k.len, k.get, fun i xs h => ?_, fun i es h => ?_, fun i c xs h => ?_, k.scr, k.sep⟩
  · exact absurd (hm i _ h) (by intro z; cases z)
  · exact absurd (hm i _ h) (by intro z; cases z)
  · exact absurd (hm i _ h) (by intro z; cases z)
theorem init_end : InitRun C tNext γ fs fs := fun A0 H0 A H σ p dx kvs g k hs h0 hA hp rf D dn => dn A H σ kvs g hA hp rf
theorem init_fld (hm : NoMine γ) (c : Cls K C) (n : NoAttr K C f) (h : EvD te γ x) (hl : fs.length < 1000) (hr : InitRun C tw γ (putD f x fs) fs') : InitRun C (tSeq (sFld K (tVar 0) te f) tw) γ fs fs' := fun A0 H0 A H σ p dx kvs g k hs h0 hA hp rf D dn =>
  h H0 A H σ k _ fun v B H1 g1 r1 => by
    have hp1 := g1.up _ _ hp
    have hB := g1.hid p _ hp True.intro hA
    refine ⟨.ref p, hs, p, C, dx, kvs, rfl, hp1, c, n, by rw [rf.len]; exact hl, ?_⟩
    exact hr A0 H0 B _ σ p dx _ ((g.trans g1).mut h0 hB) ((k.mono g1).insMut hm hB) hs h0 hB upd_same ((RepsF.put r1 (rf.mono g1.view))) D dn
theorem init_fld1 (hm : NoMine γ) (c : Cls K C) (n : NoAttr K C f) (h : EvD te γ x) (hl : fs.length < 1000) : InitRun C (sFld K (tVar 0) te f) γ fs (putD f x fs) := fun A0 H0 A H σ p dx kvs g k hs h0 hA hp rf D dn =>
  h H0 A H σ k _ fun v B H1 g1 r1 => by
    have hp1 := g1.up _ _ hp
    have hB := g1.hid p _ hp True.intro hA
    refine ⟨.ref p, hs, p, C, dx, kvs, rfl, hp1, c, n, by rw [rf.len]; exact hl, ?_⟩
    exact dn B _ σ _ ((g.trans g1).mut h0 hB) hB upd_same (RepsF.put r1 (rf.mono g1.view))
theorem init_drop (h : EvD te γ x) (hr : InitRun C tw γ fs fs') : InitRun C (tSeq (tDrop te) tw) γ fs fs' := fun A0 H0 A H σ p dx kvs g k hs h0 hA hp rf D dn =>
  h H0 A H σ k _ fun v B H1 g1 r1 => hr A0 H0 B H1 σ p dx kvs (g.trans g1) (k.mono g1) hs h0 (g1.hid p _ hp True.intro hA) (g1.up _ _ hp) (rf.mono g1.view) D dn
theorem noMine_entry (N : List Str) (xs : List Dat) : NoMine (entry N xs) := fun i t h => by
  unfold entry at h
  by_cases hi : i < xs.length
  · rw [List.getElem?_append_left (by simpa using hi), List.getElem?_map] at h
    cases e : xs[i]? with
    | none => rw [e] at h; cases h
    | some a => rw [e] at h; cases h; rfl
  · rw [List.getElem?_append_right (by simpa using hi), List.getElem?_replicate] at h
    split at h <;> cases h
    rfl
/-- C(e, ..) -/
theorem ev_make {Rf : List Dat → List (Str × Dat) → Prop} {E : XK} {tr : TA} {xs : List Dat} (h : EvA tr γ xs) (hR : Rf xs fs) : EvD (tMake C (PrI C Rf) [] E tr) γ (.obj C fs) := fun H0 A H σ k Q q =>
  h H0 A H σ k _ fun vs B H1 g1 r1 => fun x dx hx hdx ne => by
    have b0 : B x = none := Evl.fresh_back g1.sub hx
    have bd : B dx = none := Evl.fresh_back g1.sub hdx
    have s1 : Ex H1 (upd (upd H1 dx (.own x)) x (.ins C dx [])) := (Ex.new hdx).trans (Ex.new (by rw [upd_ne (Ne.symm ne)]; exact hx))
    refine ⟨B, x, dx, vs, xs, fs, by rw [List.append_nil], g1.sub.trans s1, b0, upd_same, r1, hR, fun D H2 kvs g2 hD h2 rf => ⟨rfl, ?_⟩⟩
    have hx0 : H x = none := Evl.fresh_back g1.up hx
    have gL : Gr A H D H2 := by
      refine ⟨fun a o e => ?_, g1.view.trans g2.view, g2.sub, fun a o e m n => ?_⟩
      · have na : a ≠ x := ne_of_none e hx0
        exact g2.up a o (by rw [hide_ne na]; exact s1 _ _ (g1.up a o e))
      · have na : a ≠ x := ne_of_none e hx0
        exact g2.hid a o (by rw [hide_ne na]; exact s1 _ _ (g1.up a o e)) m (g1.hid a o e m n)
    have gS := gL.show h2 hx0 hD
    exact q _ _ H2 gS (.obj upd_same (rf.mono (Ex.new hD)))
end
section
variable {P : Program} {w0 : World} {K : PySem.W.Frag} {mg : Str → Option Value} {base : Heap}
theorem fn_prI {x qual : Str} {st : Stmt} {f C : Addr} {fd : FuncData} {N ps : List Str} {k : Nat} {Rf : List Dat → List (Str × Dat) → Prop} (F : Fun K x qual st f fd) (S : FnScope N ps (defScope st)) (hlen : ∀ xs fs, Rf xs fs → xs.length + 1 = ps.length)
    (hbody : ∀ (cdv : Value) (A : Around) (outer : List PySem.Env) (s : Shared) (H : Hp) (E : XK), Room k (A.deeper (envOfC qual (defScope st) s.heap.objs.size f cdv)) →
      ∃ t, PSs (cxOf CX0 P w0 K mg base N qual (defScope st) f cdv A outer s H E).nox (defBody st) t ∧ ∀ p xs fs, Rf xs fs → InitRun C t (entry N (.hnd p :: xs)) [] fs) : FnOk P w0 K mg base CX0 (k + 1) f fd ps (PrI C Rf) := by
  refine F.ok S (fun vs H Q E h => ?_) fun cdv A outer s H vs Q E hr h => ?_
  · obtain ⟨A, p, dx, us, xs, fs, rfl, _, _, _, r, hR, _⟩ := h
    rw [List.length_cons, r.len]
    exact hlen xs fs hR
  · obtain ⟨B, p, dx, us, xs, fs, rfl, sub, hB, hp, r, hR, q⟩ := h
    obtain ⟨t, h1, h2⟩ := hbody cdv A outer s H E hr
    have rr : Reps B (V.ref p :: us) (.hnd p :: xs) := .cons (.hnd p) r
    have k0 := ok_entry sub N rr
    have k1 : Ok (hide p H) B H (L2.start N (V.ref p :: us)) (entry N (.hnd p :: xs)) := by
      have nm := noMine_entry N (.hnd p :: xs)
      exact ⟨k0.sub, k0.len, k0.get, fun i ys hi => absurd (nm i _ hi) (by intro z; cases z), fun i ys hi => absurd (nm i _ hi) (by intro z; cases z), fun i c ys hi => absurd (nm i _ hi) (by intro z; cases z), k0.scr, fun i j l s t a b c => absurd (nm i _ a) (by intro z; rw [z] at c; cases c)⟩
    have pl := hlen xs fs hR
    have hs : (L2.start N (V.ref p :: us))[0]? = some (some (V.ref p)) := by
      obtain ⟨v, e, rv⟩ := k1.get 0 (.hnd p) rfl
      cases rv
      exact e
    refine ⟨t, h1, h2 p xs fs hR B (hide p H) B H _ p dx [] (gr_lend sub) k1 hs hide_self hB hp .nil _ fun C' H' σ' kvs g hC hp' rf => ?_⟩
    exact q C' H' kvs g hC hp' rf
end
end Fr
namespace Fr
open PySem PySem.Spec PyProof.Rows L2
/-- what is known of an own class whose instances are made -/
structure ClsOk (K : PySem.W.Frag) (mg : Str → Option Value) (x : Str) (C f : Addr) (ns : List Str) : Prop where
  mkk : Mk K C f
  at_ : mg x = some (.ref C)
  fine : ObF K C
  na : ∀ n ∈ ns, NoAttr K C n
/-- an __init__ that is called -/
structure CalI (P : Program) (w0 : World) (K : PySem.W.Frag) (mg : Str → Option Value) (base : Heap) (ps : List Str) (k : Nat) (sp : Sp) (f : Addr) (fd : FuncData) : Prop where
  ok : FnOk P w0 K mg base CX0 k f fd ps sp
  bd : Binds K fd ps []
end Fr

set_option Elab.async false
set_option linter.all false
set_option maxRecDepth 100000
set_option maxHeartbeats 4000000
namespace Fr
open PySem PySem.Spec PyProof.Rows L2
open Evl (Ex)
/-! # xs.count(y), flat things -/
def rCntF (K : PySem.W.Frag) : V → List V → Hp → VK → Prop := fun x xs H Q => ∃ (a : Addr) (ys : List V) (y : V), x = V.ref a ∧ xs = [y] ∧ SqL K H a ys ∧ flatV y = true ∧ ys.all flatV = true ∧ Q (.int (ys.countP (fun z => eqV z y) : Nat)) H
theorem cnt_of {y : V} : ∀ {ys : List V} {us : List Value}, Vals ys us → ys.all flatV = true → us.countP (eqU y) = ys.countP (fun z => eqV z y)
  | _, _, .nil, _ => rfl
  | _, _, .cons r t, h => by
    rw [List.all_cons, Bool.and_eq_true] at h
    rw [List.countP_cons, List.countP_cons, cnt_of t h.2, eqU_of r h.1]
theorem mt_countF {X : Cx} : MtR X "list.count" (rCntF X.K) := by
  intro pins s σ H x xs v us Q I rx rxs h
  obtain ⟨a, ys, y, rfl, rfl, hs, fy, fys, q⟩ := h
  cases rx
  cases rxs with
  | cons ry rt =>
    rename_i uy ut
    cases rt
    obtain ⟨its, rv, ⟨⟨cls, dd, data, sl⟩, n, ho, hc, hdn, hd⟩, hlen⟩ := I.list hs
    simp only at hc hd
    subst hc hd
    refine call_meets PySem.F.slot_list_count ⟨_, ho, rfl⟩ PySem.F.entry_list_count (PySem.F.args_list_count_2 _ _)
      (SeqAt.list_countAt a its.toArray n dd sl uy (eqU y)) ⟨ho, fun u' hu' => mem_eqAt ry fy rv fys u' (by simpa using hu'), ?_⟩
    have ec : its.toArray.toList.countP (eqU y) = ys.countP (fun z => eqV z y) := cnt_of rv fys
    refine ⟨.int (ys.countP (fun z => eqV z y) : Nat), H, I.tok _, ⟨s.toks, ?_⟩, q⟩
    show Value.int ((its.toArray.toList.countP (eqU y) : Nat) : Int) s.toks = Value.int ((ys.countP (fun z => eqV z y) : Nat) : Int) s.toks
    rw [ec]
/-! # an own exception class without own __init__, made with nothing -/
theorem pmk_own0 {X : Cx} {C : Addr} {bmB : List Value} {B newId initId : String} {x : Str} {p pos : Pos} (F : ExcBaseFacts B newId initId bmB) (q : PySem.W.excIn X.K C bmB newId = true) (gC : X.mg x = some (.ref C)) (kC : PySem.W.keepIn X.K (.ref C) = true) (r : Raises X (.ref C)) (hg : Gl X x)
    (hdb : (x == ("__debug__" : Str)) = false := by decide) : PMk X (.Call (.Name x p) [] [] pos) (fun _ H Q => Q (.ref C) none H) := by
  intro pins s σ H Q I h
  refine wpAny_Call_Name_kw (ld_glob I hg gC ?_ hdb)
  refine PySem.W.callWith_K0 I.kIn kC ?_
  obtain ⟨bm, N, nm, qn, bs, hdct, sn, sub, ab, col, dd, k0, k1, k2, k3, k5, mN, hC, hN, hni, T⟩ := exc_obj I.kIn q
  show wpAny _ _ (call (.ref C) []) _ _ _
  refine wpAny_call_exc_subT F T hC hN hni (fun h' e hm => ?_) (Nat.zero_le _)
  exact mk_of I hm r h (I.hok.gone hm.new)
/-! # promises of defs that may raise -/
section
variable {P : Program} {w : World} {K : PySem.W.Frag} {mg : Str → Option Value} {base : Heap} {k : Nat} {f : Addr} {fd : FuncData} {ps : List Str} {sp sp' : Sp}
theorem _root_.L2.FnOk.toX (F : FnOk P w K mg base CX0 k f fd ps sp) : FnOk P w K mg base (L2.CX P w) k f fd ps sp :=
  ⟨F.len, fun A outer s H args us vs Q E hr he hb hv hs => codeAny_mono (F.run A outer s H args us vs Q E hr he hb hv hs) fun r s' h => by
    cases r with
    | ok fl => cases fl <;> exact h
    | error e => exact False.elim h⟩
theorem _root_.L2.FnOk.or {CX : CXT} (F : FnOk P w K mg base CX k f fd ps sp) (G : FnOk P w K mg base CX k f fd ps sp') : FnOk P w K mg base CX k f fd ps (fun vs H Q E => sp vs H Q E ∨ sp' vs H Q E) :=
  ⟨fun vs H Q E h => h.elim (F.len vs H Q E) (G.len vs H Q E), fun A outer s H args us vs Q E hr he hb hv hs => hs.elim (F.run A outer s H args us vs Q E hr he hb hv) (G.run A outer s H args us vs Q E hr he hb hv)⟩
end
/-- it raises: from which data which class -/
def PrE (RE : List Dat → Value → Prop) : Sp := fun vs H Q E => ∃ A xs cls, Ex A H ∧ Reps A vs xs ∧ RE xs cls ∧ ∀ B H', Gr A H B H' → E cls none H'
/-- it answers, or it raises -/
def PrB (R : List Dat → Dat → Prop) (RE : List Dat → Value → Prop) : Sp := fun vs H Q E => Pr R vs H Q E ∨ PrE RE vs H Q E
structure CalB (P : Program) (w0 : World) (K : PySem.W.Frag) (mg : Str → Option Value) (base : Heap) (x : Str) (ps : List Str) (k : Nat) (R : List Dat → Dat → Prop) (RE : List Dat → Value → Prop) (f : Addr) (fd : FuncData) : Prop where
  ok : FnOk P w0 K mg base (L2.CX P w0) k f fd ps (PrB R RE)
  bd : Binds K fd ps []
  at_ : mg x = some (.ref f)
  kp : PySem.W.keepIn K (.ref f) = true
/-! ### readings that end in an exception -/
def RunE (ts : TS) (W : WX) (γ : Gam) (cls : Value) : Prop := ∀ A0 H0 A H σ, Gr A0 H0 A H → Ok H0 A H σ γ → ∀ D : Ends, (∀ B H' σ', Gr A0 H0 B H' → W cls none σ' H') → ts D σ H
def EvE (te : TE) (W : WX) (γ : Gam) (cls : Value) : Prop := ∀ H0 A H σ, Ok H0 A H σ γ → ∀ Q : VK, (∀ B H', Gr A H B H' → W cls none σ H') → te σ H Q
def EvTE (t : TT) (W : WX) (γ : Gam) (cls : Value) : Prop := ∀ H0 A H σ, Ok H0 A H σ γ → ∀ Q : Bool → Hp → Prop, (∀ B H', Gr A H B H' → W cls none σ H') → t σ H Q
section
variable {K : PySem.W.Frag} {γ δ : Gam} {ta tb te : TE} {t u : TT} {x y z : Dat} {xs ys : List Dat} {tu tw : TS} {W : WX} {cls : Value} {R : List Dat → Dat → Prop} {RE : List Dat → Value → Prop}
theorem ev_callB {E : L2.St → XK} {tr : TA} (h : EvA tr γ xs) (hR : R xs z) : EvD (tCallS (PrB R RE) E tr) γ z := fun H0 A H σ k Q q =>
  h H0 A H σ k _ fun vs B H1 g1 r1 => .inl ⟨B, xs, z, g1.sub, r1, hR, fun v C H2 g2 r2 => q v C H2 (g1.trans g2) r2⟩
theorem ee_call {tr : TA} (h : EvA tr γ xs) (hR : RE xs cls) : EvE (tCallS (PrB R RE) (WE W) tr) W γ cls := fun H0 A H σ k Q q =>
  h H0 A H σ k _ fun vs B H1 g1 r1 => .inr ⟨B, xs, cls, g1.sub, r1, hR, fun C H2 g2 => q C H2 (g1.trans g2)⟩
theorem re_drop (h : EvE te W γ cls) : RunE (tDrop te) W γ cls := fun A0 H0 A H σ g0 k D d => h H0 A H σ k _ fun B H' g => d B H' σ (g0.trans g)
theorem re_asg {g : TG} (h : EvE te W γ cls) : RunE (tAsg te g) W γ cls := fun A0 H0 A H σ g0 k D d => h H0 A H σ k _ fun B H' g => d B H' σ (g0.trans g)
theorem re_ret (h : EvE te W γ cls) : RunE (tRet te) W γ cls := fun A0 H0 A H σ g0 k D d => h H0 A H σ k _ fun B H' g => d B H' σ (g0.trans g)
theorem re_if (h : EvTE t W γ cls) : RunE (tIfS t tu tw) W γ cls := fun A0 H0 A H σ g0 k D d => h H0 A H σ k _ fun B H' g => d B H' σ (g0.trans g)
theorem re_ifT {b : Bool} (h : EvT t γ b) (h1 : b = true → RunE tu W γ cls) (h2 : b = false → RunE tw W γ cls) : RunE (tIfS t tu tw) W γ cls := fun A0 H0 A H σ g0 k D d => h H0 A H σ k _ fun B H1 g1 => by
  cases b with
  | true => exact h1 rfl A0 H0 B H1 σ (g0.trans g1) (k.mono g1) D d
  | false => exact h2 rfl A0 H0 B H1 σ (g0.trans g1) (k.mono g1) D d
theorem re_seq0 (h : RunE tu W γ cls) : RunE (tSeq tu tw) W γ cls := fun A0 H0 A H σ g0 k D d => h A0 H0 A H σ g0 k { D with nx := tw D } d
theorem re_seq {R' : Dat → Gam → Prop} (h : Run tu γ (fun ε => ε = δ) (fun _ _ => False)) (hk : RunE tw W δ cls) : RunE (tSeq tu tw) W γ cls := fun A0 H0 A H σ g0 k D d =>
  h A0 H0 A H σ g0 k { D with nx := tw D } (fun ε B H' σ' e g' v k' => by subst e; exact hk A0 H0 B H' σ' g' k' D d) fun _ _ _ _ _ _ z _ _ => z.elim
theorem ete_not (h : EvTE t W γ cls) : EvTE (tNot t) W γ cls := fun H0 A H σ k Q q => h H0 A H σ k _ q
theorem ete_or (h : EvTE t W γ cls) : EvTE (tOr t u) W γ cls := fun H0 A H σ k Q q => h H0 A H σ k _ q
theorem ete_and (h : EvTE t W γ cls) : EvTE (tAnd t u) W γ cls := fun H0 A H σ k Q q => h H0 A H σ k _ q
theorem re_raise {tm : L2.St → Hp → XK → Prop} (h : ∀ σ H Q, Q cls none H → tm σ H Q) : RunE (fun _ σ H => tm σ H fun c d H' => W c d σ H') W γ cls := fun A0 H0 A H σ g0 k D d => h σ H _ (d A H σ g0)
end
section
variable {P : Program} {w0 : World} {K : PySem.W.Frag} {mg : Str → Option Value} {base : Heap}
/-- a def that raises -/
theorem fn_prE {x qual : Str} {st : Stmt} {f : Addr} {fd : FuncData} {N ps : List Str} {k : Nat} {RE : List Dat → Value → Prop} (F : Fun K x qual st f fd) (S : FnScope N ps (defScope st)) (hlen : ∀ xs c, RE xs c → xs.length = ps.length)
    (hbody : ∀ (cdv : Value) (A : Around) (outer : List PySem.Env) (s : Shared) (H : Hp) (E : XK), Room k (A.deeper (envOfC qual (defScope st) s.heap.objs.size f cdv)) →
      ∃ t, PSs (cxOf (L2.CX P w0) P w0 K mg base N qual (defScope st) f cdv A outer s H E) (defBody st) t ∧ ∀ xs c, RE xs c → RunE t (fun c d _ H => E c d H) (entry N xs) c) : FnOk P w0 K mg base (L2.CX P w0) (k + 1) f fd ps (PrE RE) := by
  refine F.okX S (fun vs H Q E h => ?_) fun cdv A outer s H vs Q E hr h => ?_
  · obtain ⟨A, xs, c, s, r, hR, _⟩ := h
    rw [r.len]
    exact hlen xs c hR
  · obtain ⟨B, xs, c, sub, r, hR, q⟩ := h
    obtain ⟨t, h1, h2⟩ := hbody cdv A outer s H E hr
    exact ⟨t, h1, h2 xs c hR B H B H _ (Gr.refl sub) (ok_entry sub N r) _ fun C H' σ' g => q C H' g⟩
end
end Fr

set_option Elab.async false
set_option linter.all false
set_option maxRecDepth 100000
set_option maxHeartbeats 4000000
namespace Fr
open PySem PySem.Spec PyProof.Rows L2
open Evl (Ex)
/-! # try .. except X as e -/
section
variable {P : Program} {w0 : World} {K : PySem.W.Frag} {mg : Str → Option Value} {base : Heap}
/-- a def that answers or raises -/
theorem fn_prB {x qual : Str} {st : Stmt} {f : Addr} {fd : FuncData} {N ps : List Str} {k : Nat} {R : List Dat → Dat → Prop} {RE : List Dat → Value → Prop} (F : Fun K x qual st f fd) (S : FnScope N ps (defScope st)) (hlen : ∀ xs y, R xs y → xs.length = ps.length) (hlenE : ∀ xs c, RE xs c → xs.length = ps.length)
    (hbody : ∀ (cdv : Value) (A : Around) (outer : List PySem.Env) (s : Shared) (H : Hp) (E : XK), Room k (A.deeper (envOfC qual (defScope st) s.heap.objs.size f cdv)) →
      ∃ t, PSs (cxOf (L2.CX P w0) P w0 K mg base N qual (defScope st) f cdv A outer s H E) (defBody st) t ∧ (∀ xs y, R xs y → Run t (entry N xs) (fun _ => y = .non) (fun z _ => z = y)) ∧ (∀ xs c, RE xs c → RunE t (fun c d _ H => E c d H) (entry N xs) c)) :
    FnOk P w0 K mg base (L2.CX P w0) (k + 1) f fd ps (PrB R RE) := by
  refine F.okX S (fun vs H Q E h => ?_) fun cdv A outer s H vs Q E hr h => ?_
  · rcases h with ⟨A, xs, y, s, r, hR, _⟩ | ⟨A, xs, c, s, r, hR, _⟩
    · rw [r.len]
      exact hlen xs y hR
    · rw [r.len]
      exact hlenE xs c hR
  · obtain ⟨t, h1, h2, h3⟩ := hbody cdv A outer s H E hr
    rcases h with ⟨B, xs, y, sub, r, hR, q⟩ | ⟨B, xs, c, sub, r, hR, q⟩
    · refine ⟨t, h1, h2 xs y hR B H B H _ (Gr.refl sub) (ok_entry sub N r) _ (fun δ C H' σ' hn g _ k' => ?_) fun v C H' z σ' δ hz g _ rz => ?_⟩
      · subst hn
        exact q _ C H' g .non
      · subst hz
        exact q v C H' g rz
    · exact ⟨t, h1, h3 xs c hR B H B H _ (Gr.refl sub) (ok_entry sub N r) _ fun C H' σ' g => q C H' g⟩
end
section
variable {K : PySem.W.Frag} {γ δ : Gam} {ta tb te : TE} {x y z : Dat} {xs ys : List Dat} {N : Gam → Prop} {R : Dat → Gam → Prop} {c cls : Value} {i : Nat} {Wout : WX}
theorem run_tryG {te : WX → TE} {ts : Addr → Value → Option Addr → TS} (hG : ∀ W, EvD (te W) γ x) (hn : N γ) : Run (fun D σ H => tDrop (te (wAs K c i ts Wout D)) D σ H) γ N R := fun A0 H0 A H σ g0 k D dn dr =>
  hG _ H0 A H σ k _ fun v B H1 g1 r1 => dn γ B H1 σ hn (g0.trans g1) g1.view (k.mono g1)
theorem run_tryE {te : WX → TE} {ts : Addr → Value → Option Addr → TS} (hE : ∀ W, EvE (te W) W γ cls) (hx : PySem.W.exmOne K cls c = some true) (hs : ∀ a, Run (ts a cls none) (γ.set i (.d (.hnd a))) (fun δ => N (δ.set i .no)) R) :
    Run (fun D σ H => tDrop (te (wAs K c i ts Wout D)) D σ H) γ N R := fun A0 H0 A H σ g0 k D dn dr =>
  hE _ H0 A H σ k _ fun B H1 g1 => ⟨true, hx, fun _ a _ => hs a A0 H0 B H1 _ (g0.trans g1) ((k.mono g1).setD (.hnd a) i) _ (fun δ C H2 σ' n g2 v2 k2 => dn _ C H2 _ n g2 (g1.view.trans v2) (k2.forget i none)) dr, fun z => nomatch z⟩
/-- marks.count(b) -/
theorem flats : ∀ bs : List Bool, (bs.map V.bl).all flatV = true
  | [] => rfl
  | b :: bs => flats bs
theorem ev_count {bs : List Bool} {b : Bool} (h : EvD te γ (.lst (bs.map .bl))) (hx : EvD tb γ (.bl b)) : EvD (tBM K "list" (rCntF K) te (tCons tb tNil)) γ (.int ((bs.count b : Nat) : Int)) := fun H0 A H σ k Q q =>
  h H0 A H σ k _ fun v B H1 g1 r1 => by
    cases r1 with
    | @lst a us _ ha ru =>
      have e := bls_of ru
      subst e
      refine ⟨.inl ⟨rfl, _, SqL.of (g1.sub _ _ ha)⟩, hx H0 B H1 σ (k.mono g1) _ fun v2 C H2 g2 r2 => ?_⟩
      cases r2
      refine ⟨a, bs.map V.bl, .bl b, rfl, rfl, SqL.of (g2.up _ _ (g1.sub _ _ ha)), rfl, flats bs, ?_⟩
      have ec : (bs.map V.bl).countP (fun z => eqV z (.bl b)) = bs.count b := by
        rw [List.countP_map]
        rfl
      rw [ec]
      exact q _ C H2 (g1.trans g2) (.int _)
/-- marks.index(b) -/
theorem ev_index {bs : List Bool} {b : Bool} {j : Nat} (h : EvD te γ (.lst (bs.map .bl))) (hx : EvD tb γ (.bl b)) (hj : bs[j]? = some b) (hno : ∀ m, m < j → bs[m]? ≠ some b) : EvD (tBM K "list" (rIndex K) te (tCons tb tNil)) γ (.int ((j : Nat) : Int)) := fun H0 A H σ k Q q =>
  h H0 A H σ k _ fun v B H1 g1 r1 => by
    cases r1 with
    | @lst a us _ ha ru =>
      have e := bls_of ru
      subst e
      refine ⟨.inl ⟨rfl, _, SqL.of (g1.sub _ _ ha)⟩, hx H0 B H1 σ (k.mono g1) _ fun v2 C H2 g2 r2 => ?_⟩
      cases r2
      refine ⟨a, bs.map V.bl, .bl b, j, .bl b, rfl, rfl, SqL.of (g2.up _ _ (g1.sub _ _ ha)), rfl, flats bs, ?_, ?_, ?_, q _ C H2 (g1.trans g2) (.int _)⟩
      · rw [List.getElem?_map, hj]
        rfl
      · show (b == b) = true
        exact beq_self_eq_true b
      · intro m z' hm hz
        rw [List.getElem?_map] at hz
        cases e2 : bs[m]? with
        | none => rw [e2] at hz; cases hz
        | some b' =>
          rw [e2] at hz
          cases hz
          show (b' == b) = false
          exact beq_false_of_ne fun z => hno m hm (by rw [e2, z])
theorem r2_neS {a b : Str} : R2D rNe (.str a) (.str b) (.bl (!decide (a = b))) := fun A H vx vy s r1 r2 Q q => by
  cases r1
  cases r2
  refine ⟨rfl, q _ A H (Gr.refl s) ?_⟩
  have e : decide (V.str a = V.str b) = decide (a = b) := decide_eq_decide.mpr ⟨fun h => V.str.inj h, fun h => h ▸ rfl⟩
  rw [e]
  exact .bl _
end
theorem mt_appendR {X : Cx} : MtR X "list.append" rAppend := mt_append
theorem mt_countFK {X : Cx} {K : PySem.W.Frag} (e : X.K = K) : MtR X "list.count" (rCntF K) := e ▸ mt_countF
theorem mt_indexK {X : Cx} {K : PySem.W.Frag} (e : X.K = K) : MtR X "list.index" (rIndex K) := e ▸ mt_index
/-- a method of a list, with the classes said from outside (a suite's own context must not enter the value) -/
theorem pe_bmK {X : Cx} {K : PySem.W.Frag} (eK : X.K = K) {o e : Expr} {es : List Expr} {to : TE} {t : TA} {name : Str} {apos cpos : Pos} {T id : String} {r : V → List V → Hp → VK → Prop}
    (h1 : PlainAttrs T) (h2 : PySem.Slot T name id) (h3 : typeOf (Value.builtin id) = pure (Value.type "method_descriptor")) (h4 : MtR X id r) (h5 : PE X o to) (h6 : PA X (e :: es) t)
    (a1 : attributeBase o name X.env (eval o X.env) = eval o X.env := by rfl)
    (a2 : ((backTo cpos (starEach (e :: es) X.env)).all (fun x => !x.1) && (backToKw cpos (keywordEach [] X.env)).all (fun x => x.1.isSome) && decide ((e :: es).length + ([] : List Keyword).length + (if ([] : List Keyword).isEmpty then 0 else 1) < 30)) = true := by rfl)
    (a3 : (apos.endLine == cpos.line) = true := by rfl)
    (a4 : starEach (e :: es) X.env = (false, eval e X.env) :: starEach es X.env := by rfl)
    (a5 : ((backTo cpos (starEach es X.env)).any fun x => x.fst) = false := by rfl) :
    PE X ((o.Attribute name apos).Call (e :: es) [] cpos) (tBM K T r to t) := eK ▸ pe_bm h1 h2 h3 h4 h5 h6 a1 a2 a3 a4 a5
/-! # isinstance of the caught exception -/
/-- of one class, and of a tuple of classes -/
def rIsX (K : PySem.W.Frag) (cls : Value) (d : Option Addr) (a : Addr) : List V → Hp → VK → Prop := fun xs H Q => ∃ D, cls = .ref D ∧ d = none ∧ ExcC K D ∧ ((∃ (c : V) (cv : Value) (b : Bool), xs = [.ref a, c] ∧ (∀ u, RelV c u → u = cv) ∧ PySem.W.kitOne K (.ref D) cv = some b ∧ Q (.bl b) H) ∨
  ∃ (tp : Addr) (cs : List V) (us : List Value) (b : Bool), xs = [.ref a, .ref tp] ∧ H tp = some (.tup cs) ∧ Paired ClsV cs us ∧ PySem.W.kitAny K (.ref D) us = some b ∧ Q (.bl b) H)
theorem call_isX {X : Cx} {a : Addr} {oe : Obj} {cls : Value} {d : Option Addr} {pn : List (Addr × Obj)} (hz : Zc cls d oe) (hf : ∃ vs, oe.data = .fields vs) : CallR (X.suite a ((a, oe) :: pn)) (.builtin "isinstance") (rIsX X.K cls d a) := by
  intro pins s σ H xs us Q I r h
  obtain ⟨D, rfl, rfl, C, h⟩ := h
  rcases h with ⟨c, cv, b, rfl, hcv, e, q⟩ | ⟨tp, cs, ws, b, rfl, hT, k, e, q⟩
  · exact call_isE C hz hf pins s σ H [.ref a, c] us Q I r ⟨c, cv, b, rfl, hcv, e, q⟩
  · obtain ⟨u1, u2, rfl, r1, r2⟩ := vals2 r
    cases (show u2 = Value.ref tp from r2)
    cases (show u1 = Value.ref a from r1)
    obtain ⟨hget, _⟩ := I.pin (a, oe) (List.mem_append.mpr (.inl List.mem_cons_self))
    obtain ⟨vs, hv⟩ := hf
    have J : PySem.W.InstAt s.heap a oe D none := by
      obtain ⟨oc, od, oda, osl⟩ := oe
      obtain ⟨h1, h2⟩ := hz
      dsimp only at h1 h2 hv
      subst h1 h2 hv
      exact ⟨hget, rfl, rfl, trivial⟩
    obtain ⟨_, its, rv, o, h1, h2, n, h3⟩ := (show ObjOk X.prog X.w H s.heap tp (.tup cs) from I.hok tp _ hT)
    have e3 := ClsV.all k rv
    subst e3
    obtain ⟨oc, od, dt, sl⟩ := o
    simp only at h2 h3
    subst h2 h3
    exact PySem.W.kia_tup (PySem.W.handS_kitx_exc C.hg C.hk C.hs C.hd C.ha C.hn C.ht C.hm) I.kIn J h1 e (fun z => nomatch z) fun tk => ⟨.bl b, H, I.tok tk, rfl, q⟩
theorem call_isXK {X : Cx} {K : PySem.W.Frag} (eK : X.K = K) {a : Addr} {oe : Obj} {cls : Value} {d : Option Addr} {pn : List (Addr × Obj)} (hz : Zc cls d oe) (hf : ∃ vs, oe.data = .fields vs) : CallR (X.suite a ((a, oe) :: pn)) (.builtin "isinstance") (rIsX K cls d a) := eK ▸ call_isX hz hf
section
variable {K : PySem.W.Frag} {γ δ : Gam} {te : TE} {a D : Addr}
theorem ev_isX1 {c : V} {cv : Value} {b : Bool} (h : EvD te γ (.hnd a)) (C : ExcC K D) (hcv : ∀ u, RelV c u → u = cv) (hk : PySem.W.kitOne K (.ref D) cv = some b) : EvD (tCB (rIsX K (.ref D) none a) (tCons te (tCons (tC c) tNil))) γ (.bl b) := fun H0 A H σ k Q q =>
  h H0 A H σ k _ fun v B H1 g1 r1 => by
    cases r1
    exact ⟨D, rfl, rfl, C, .inl ⟨c, cv, b, rfl, hcv, hk, q _ B H1 g1 (.bl b)⟩⟩
theorem ev_isXT {cs : List V} {us : List Value} {tr : TA} {b : Bool} (h : EvD te γ (.hnd a)) (C : ExcC K D) (hcs : ∀ σ H Q, Q cs H → tr σ H Q) (hp : Paired ClsV cs us) (hl : cs.length ≤ sizeLine) (hk : PySem.W.kitAny K (.ref D) us = some b) : EvD (tCB (rIsX K (.ref D) none a) (tCons te (tCons (tTup tr) tNil))) γ (.bl b) := fun H0 A H σ k Q q =>
  h H0 A H σ k _ fun v B H1 g1 r1 => by
    cases r1
    refine hcs σ H1 _ ⟨hl, fun p hp' => ?_⟩
    have g2 := Gr.newU (o := .tup cs) g1.sub hp'
    exact ⟨D, rfl, rfl, C, .inr ⟨p, cs, us, b, rfl, upd_same, hp, hk, q _ B _ (g1.trans g2) (.bl b)⟩⟩
end
/-- an own exception class, made with nothing -/
structure ExcOk (K : PySem.W.Frag) (mg : Str → Option Value) (x : Str) (C : Addr) : Prop where
  ex : PySem.W.excIn K C [.type "ValueError", .type "Exception", .type "BaseException", .type "object"] "ValueError.__new__" = true
  at_ : mg x = some (.ref C)
  kp : PySem.W.keepIn K (.ref C) = true
  sub : PySem.W.subIn K (.ref C) (.type "BaseException") = some true
  ty : PySem.W.typeIn K (.ref C) = some (.type "type")
end Fr
namespace Fr
open PySem PySem.Spec PyProof.Rows L2
/-! # a call by names that may raise -/
section
variable {X : Cx} {CX : CXT} {k : Nat} {f : Addr} {fd : FuncData} {ps ks : List Str} {js : List Nat} {sp : Sp} {x : Str} {p pos : Pos} {kws : List Keyword} {tk : TA}
def tCallWS (js : List Nat) (m : Nat) (sp : Sp) (E : L2.St → XK) (tk : TA) : TE := fun σ H Q => tk σ H fun zs H2 => zs.length = m ∧ sp (pick js zs) H2 Q (E σ)
theorem pe_callKS {E : L2.St → XK} (F : FnOk X.prog X.w X.K X.mg X.base CX k f fd ps sp) (hr : Room k X.A) (hg : Gl X x) (hm : X.mg x = some (.ref f)) (hk : PySem.W.keepIn X.K (.ref f) = true) (hb : KwOk X.K fd ps ks js) (hx : ∀ σ, PassesAt CX X σ (E σ)) (hkw : PK X kws tk)
    (hall : (backToKw pos (keywordEach kws X.env)).all (·.1.isSome) = true := by rfl) (hks : (backToKw pos (keywordEach kws X.env)).filterMap (·.1) = ks := by rfl) (hdb : (x == ("__debug__" : Str)) = false := by decide)
    (hpl : ((backTo pos (starEach [] X.env)).any (·.1) || (backToKw pos (keywordEach kws X.env)).any (·.1.isNone)) = false := by rfl) :
    PE X (.Call (.Name x p) [] kws pos) (tCallWS js ks.length sp E tk) := by
  refine ⟨fun pins s σ H Q I h => ?_⟩
  refine wpAny_Call_Name_kw (ld_glob I hg hm ?_ hdb)
  refine PySem.W.callWith_KW0 (h₀ := X.base) I.ok.mod.kin hk hall ?_ hpl
  refine thn (hkw.run pos pins s σ H _ I h) fun ws s2 ⟨zs, H2, I2, rz, l2, q2⟩ => ⟨I2.kIn, ?_⟩
  rw [hks]
  have r2 := KBn.rel hb (vs := []) (us := []) .nil rz
  refine wpAny_call (codeAny_mono (F.run X.A X.stack s2 H2 ⟨[], ks.zip ws⟩ (pick js ws) (pick js zs) Q (E σ) hr I2.env0 (KBn.to hb s2 [] ws I2.kIn rfl (rz.length.symm.trans l2)) r2 q2) fun r s' hq => ?_)
  cases r with
  | error e => exact hx σ pins H2 s2 e s' I2 hq
  | ok fl =>
    cases fl with
    | ret u => exact I2.after hq
    | next => exact False.elim hq
    | brk => exact False.elim hq
    | cont => exact False.elim hq
end
section
variable {K : PySem.W.Frag} {γ δ : Gam} {tk : TA} {js : List Nat} {x z : Dat} {xs : List Dat} {W : WX} {cls : Value} {R : List Dat → Dat → Prop} {RE : List Dat → Value → Prop} {m : Nat}
theorem ev_callWB {E : L2.St → XK} (h : EvA tk γ xs) (hR : R (pick js xs) z) (hm : xs.length = m) : EvD (tCallWS js m (PrB R RE) E tk) γ z := fun H0 A H σ k Q q =>
  h H0 A H σ k _ fun vs B H1 g1 r1 => ⟨by rw [r1.len]; exact hm, .inl ⟨B, pick js xs, z, g1.sub, reps_pick r1 js, hR, fun v C H2 g2 r2 => q v C H2 (g1.trans g2) r2⟩⟩
theorem ee_callW (h : EvA tk γ xs) (hR : RE (pick js xs) cls) (hm : xs.length = m) : EvE (tCallWS js m (PrB R RE) (WE W) tk) W γ cls := fun H0 A H σ k Q q =>
  h H0 A H σ k _ fun vs B H1 g1 r1 => ⟨by rw [r1.len]; exact hm, .inr ⟨B, pick js xs, cls, g1.sub, reps_pick r1 js, hR, fun C H2 g2 => q C H2 (g1.trans g2)⟩⟩
theorem ete_truth {K : PySem.W.Frag} {te : TE} (h : EvE te W γ cls) : EvTE (fun σ H Q => te σ H fun x H' => ∃ k, TruV K x H' k ∧ Q k H') W γ cls := fun H0 A H σ k Q q => h H0 A H σ k _ q
end
end Fr

set_option Elab.async false
set_option linter.all false
set_option maxRecDepth 100000
set_option maxHeartbeats 4000000
namespace Fr
open PySem PySem.Spec PyProof.Rows L2
/-! # the head by one run, with facts and one test more -/
abbrev AlZ : Type := He.AlD × Bool
/-- which objects are looked at: defs by name, classes with those above them and their namespaces, methods; the code of each -/
structure Pick where
  defs : List Str
  clss : List Str
  meths : List (Str × Str)
def codeR (g : Addr → Option Obj) (a : Addr) : List Addr := match g a with
  | some ⟨_, _, .func fd, _⟩ => He.refV fd.code
  | _ => []
def clsR (g : Addr → Option Obj) (a : Addr) : List Addr := match g a with
  | some ⟨_, _, .cls cd, _⟩ => cd.ns :: cd.mro.flatMap fun v => match v with
    | .ref b => if b = a then [] else b :: (match g b with
      | some ⟨_, _, .cls ce, _⟩ => [ce.ns]
      | _ => [])
    | _ => []
  | _ => []
def withCode (g : Addr → Option Obj) (as : List Addr) : List Addr := as.flatMap fun a => a :: codeR g a
def withCls (g : Addr → Option Obj) (as : List Addr) : List Addr := as.flatMap fun a => a :: clsR g a
def asC (p : Pick) (g : Addr → Option Obj) : List Addr := withCls g (p.clss.map (He.ga (He.frG g [mainGlobals])))
def asM (p : Pick) (g : Addr → Option Obj) : List Addr := withCode g (p.meths.map fun q => He.ma (He.frG g (asC p g)) (He.ga (He.frG g [mainGlobals]) q.1) q.2)
def asQ (p : Pick) (g : Addr → Option Obj) : List Addr := mainGlobals :: (asC p g ++ (asM p g ++ withCode g (p.defs.map (He.ga (He.frG g [mainGlobals])))))
def obsZ (n : Pick) (fa : List He.Fa) (fn : List He.DefD) (ex : PySem.W.Frag → Bool) (g : Addr → Option Obj) : AlZ := (He.obsD fa fn (He.frG g (asQ n g)), ex (He.frG g (asQ n g)))
structure SaysZ (fa : List He.Fa) (fn : List He.DefD) (ex : PySem.W.Frag → Bool) (K : PySem.W.Frag) : Prop where
  d : He.SaysD fa fn K
  e : ex K = true
def hookZ (n : Pick) (fa : List He.Fa) (fn : List He.DefD) (ex : PySem.W.Frag → Bool) : PySem.W.Hook where
  α := AlZ
  obs := fun s => obsZ n fa fn ex s.heap.get?
  val := fun _ => (He.valD fn, true)
  says := fun _ h => ∃ K : PySem.W.Frag, K.In h ∧ SaysZ fa fn ex K
  of := fun _ _ e => ⟨_, He.frG_in, congrArg (fun z : AlZ => z.1) e, congrArg (fun z : AlZ => z.2) e⟩
  keeps := fun _ _ _ ⟨K, hK, c⟩ k => ⟨K, PySem.W.Frag.In.keeps hK k, c⟩
theorem obsZ_eq {n : Pick} {fa : List He.Fa} {fn : List He.DefD} {ex : PySem.W.Frag → Bool} {g : Addr → Option Obj} {s : Shared} (h : ∀ a, g a = s.heap.get? a) : obsZ n fa fn ex g = (hookZ n fa fn ex).obs s := by
  have e : g = s.heap.get? := funext h
  rw [e] <;> rfl
theorem fun_ofD {K : PySem.W.Frag} {x q : Str} {st : Stmt} {f : Addr} {fd : FuncData} (F : FunD K x q (defArgs st) (defBody st) (defScope st) [] [] f fd) : Fun K x q st f fd := by
  obtain ⟨oc, od, dV, kV, doc, pm, an, cdv, ct, osl, e, l, c, hd, _⟩ := F.ex
  rcases hd with ⟨_, rfl⟩ | ⟨z, _⟩
  · exact ⟨⟨oc, od, kV, doc, pm, an, cdv, ct, osl, e, l, c⟩, F.kp⟩
  · exact absurd rfl z
theorem kit_ref {K : PySem.W.Frag} {C : Addr} {T : String} {b : Bool} (hm : PySem.W.kitMeta T = true) (h : PySem.W.subIn K (.ref C) (.type T) = some b) : PySem.W.kitOne K (.ref C) (.type T) = some b := by
  unfold PySem.W.kitOne PySem.W.kitCls
  rw [if_neg (by intro z; cases z)]
  show (if PySem.W.kitMeta T = true then PySem.W.subIn K (.ref C) (.type T) else none) = some b
  rw [if_pos hm]
  exact h
/-- an own class's instances are none of the built-in kinds -/
def obB (K : PySem.W.Frag) (x : Str) : Bool := He.eqO (PySem.W.findIn K (.ref (He.ga K x)) "__class__") (some (some (.builtin "object.__class__"))) && (He.eqO (PySem.W.specialIn K (.builtin "object.__class__") "__get__") (some (some (.builtin "getset_descriptor.__get__"))) &&
  (decide (PySem.W.takesIn K (.builtin "object.__class__") = some true) && (decide (PySem.W.mroIn K (He.ga K x) (.type "object") = some true) && (decide (PySem.W.subIn K (.ref (He.ga K x)) (.type "int") = some false) && (decide (PySem.W.subIn K (.ref (He.ga K x)) (.type "bool") = some false) &&
  (decide (PySem.W.subIn K (.ref (He.ga K x)) (.type "tuple") = some false) && (decide (PySem.W.subIn K (.ref (He.ga K x)) (.type "list") = some false) && decide (PySem.W.subIn K (.ref (He.ga K x)) (.type "str") = some false))))))))
theorem obB_ok {K : PySem.W.Frag} {x : Str} (h : obB K x = true) (c : Cls K (He.ga K x)) : ObF K (He.ga K x) := by
  obtain ⟨h1, h⟩ := He.ba h
  obtain ⟨h2, h⟩ := He.ba h
  obtain ⟨h3, h⟩ := He.ba h
  obtain ⟨h4, h⟩ := He.ba h
  obtain ⟨h5, h⟩ := He.ba h
  obtain ⟨h6, h⟩ := He.ba h
  obtain ⟨h7, h⟩ := He.ba h
  obtain ⟨h8, h9⟩ := He.ba h
  exact ⟨c, He.eqO_ok h1, He.eqO_ok h2, of_decide_eq_true h3, of_decide_eq_true h4, kit_ref (by decide +kernel) (of_decide_eq_true h5), kit_ref (by decide +kernel) (of_decide_eq_true h6), kit_ref (by decide +kernel) (of_decide_eq_true h7), kit_ref (by decide +kernel) (of_decide_eq_true h8), kit_ref (by decide +kernel) (of_decide_eq_true h9)⟩
/-- an own exception class: what isinstance asks of it -/
def excCB (K : PySem.W.Frag) (x : Str) : Bool := He.eqO (PySem.W.findIn K (.ref (He.ga K x)) "__getattribute__") (some (some (.builtin "BaseException.__getattribute__"))) && (He.eqO (PySem.W.findIn K (.ref (He.ga K x)) "__getattr__") (some none) && (decide (PySem.W.subIn K (.ref (He.ga K x)) (.type "BaseException") = some true) && (PySem.W.hasDictIn K (He.ga K x) &&
  (He.eqO (PySem.W.findIn K (.ref (He.ga K x)) "__class__") (some (some (.builtin "object.__class__"))) && (He.eqO (PySem.W.specialIn K (.builtin "object.__class__") "__get__") (some (some (.builtin "getset_descriptor.__get__"))) && (decide (PySem.W.takesIn K (.builtin "object.__class__") = some true) && decide (PySem.W.mroIn K (He.ga K x) (.type "object") = some true)))))))
theorem excCB_ok {K : PySem.W.Frag} {x : Str} (h : excCB K x = true) : ExcC K (He.ga K x) := by
  obtain ⟨h1, h⟩ := He.ba h
  obtain ⟨h2, h⟩ := He.ba h
  obtain ⟨h3, h⟩ := He.ba h
  obtain ⟨h4, h⟩ := He.ba h
  obtain ⟨h5, h⟩ := He.ba h
  obtain ⟨h6, h⟩ := He.ba h
  obtain ⟨h7, h8⟩ := He.ba h
  exact ⟨He.eqO_ok h1, He.eqO_ok h2, of_decide_eq_true h3, h4, He.eqO_ok h5, He.eqO_ok h6, of_decide_eq_true h7, of_decide_eq_true h8⟩
theorem na1 {K : PySem.W.Frag} {C : Addr} {a : Str} (h : NoAttr K C a) : ∀ n ∈ [a], NoAttr K C n := fun n hn => by rw [List.mem_singleton.mp hn]; exact h
theorem naC {K : PySem.W.Frag} {C : Addr} {a : Str} {as : List Str} (h : NoAttr K C a) (t : ∀ n ∈ as, NoAttr K C n) : ∀ n ∈ a :: as, NoAttr K C n := fun n hn => (List.mem_cons.mp hn).elim (fun e => e ▸ h) (t n)
end Fr

set_option Elab.async false
set_option linter.all false
set_option maxRecDepth 100000
set_option maxHeartbeats 0
namespace Fr
open PySem PySem.Spec PyProof.Rows L2
open Evl (Ex)
/-! # the head, by one run -/
def topZ (i : Nat) : Stmt := PySem.Challenge.pw_onlyflags_k51_texts_that_are_none.main.body.getD i (.Pass ⟨0, 0, 0, 0⟩)
abbrev zs__law_crate : Stmt := topZ 69
abbrev zs__law_haul : Stmt := topZ 70
abbrev zs__law_bits : Stmt := topZ 71
abbrev zs__law_drawn_rule : Stmt := topZ 74
abbrev zs__law_any_rule : Stmt := topZ 75
abbrev zs__law_payloads : Stmt := topZ 76
abbrev zs__law_bent_line : Stmt := topZ 81
abbrev zs__need_text : Stmt := topZ 42
abbrev zs_parse_word : Stmt := topZ 39
abbrev zs__parse_number : Stmt := topZ 45
abbrev zs_is_number : Stmt := topZ 24
abbrev zs_is_bit : Stmt := topZ 25
abbrev zs_is_word : Stmt := topZ 26
abbrev zs_is_full_word : Stmt := topZ 27
abbrev zs_is_insert : Stmt := topZ 30
abbrev zs__are_inserts : Stmt := topZ 29
abbrev zs_is_rule : Stmt := topZ 28
abbrev zs__parse_insert : Stmt := topZ 44
abbrev zs__behind : Stmt := topZ 43
abbrev zs_parse_rule : Stmt := topZ 40
abbrev zs_parse_payloads : Stmt := topZ 41
abbrev zs__law_parsed : Stmt := topZ 80
abbrev zs__law_is_word_line : Stmt := topZ 82
abbrev zs__law_word_line : Stmt := topZ 77
abbrev zs__law_is_word : Stmt := topZ 72
abbrev zs__law_is_rule : Stmt := topZ 73
abbrev zs__law_rule_line : Stmt := topZ 78
abbrev zs__law_list_line : Stmt := topZ 79
abbrev zs__law_bent_right : Stmt := topZ 83
abbrev zs_need_rule : Stmt := topZ 31
abbrev zs__law_fixed_right : Stmt := topZ 84
abbrev zs_Framing_init : Stmt := inClass (topZ 66) 0
abbrev zs_law : Stmt := topZ 85
def dd__law_crate : He.DefD := ⟨("_law_crate", none), "_law_crate", "_law_crate", defArgs zs__law_crate, defBody zs__law_crate, defScope zs__law_crate, [], []⟩
def dd__law_haul : He.DefD := ⟨("_law_haul", none), "_law_haul", "_law_haul", defArgs zs__law_haul, defBody zs__law_haul, defScope zs__law_haul, [], []⟩
def dd__law_bits : He.DefD := ⟨("_law_bits", none), "_law_bits", "_law_bits", defArgs zs__law_bits, defBody zs__law_bits, defScope zs__law_bits, [], []⟩
def dd__law_drawn_rule : He.DefD := ⟨("_law_drawn_rule", none), "_law_drawn_rule", "_law_drawn_rule", defArgs zs__law_drawn_rule, defBody zs__law_drawn_rule, defScope zs__law_drawn_rule, [], []⟩
def dd__law_any_rule : He.DefD := ⟨("_law_any_rule", none), "_law_any_rule", "_law_any_rule", defArgs zs__law_any_rule, defBody zs__law_any_rule, defScope zs__law_any_rule, [], []⟩
def dd__law_payloads : He.DefD := ⟨("_law_payloads", none), "_law_payloads", "_law_payloads", defArgs zs__law_payloads, defBody zs__law_payloads, defScope zs__law_payloads, [], []⟩
def dd__law_bent_line : He.DefD := ⟨("_law_bent_line", none), "_law_bent_line", "_law_bent_line", defArgs zs__law_bent_line, defBody zs__law_bent_line, defScope zs__law_bent_line, [], []⟩
def dd__need_text : He.DefD := ⟨("_need_text", none), "_need_text", "_need_text", defArgs zs__need_text, defBody zs__need_text, defScope zs__need_text, [], []⟩
def dd_parse_word : He.DefD := ⟨("parse_word", none), "parse_word", "parse_word", defArgs zs_parse_word, defBody zs_parse_word, defScope zs_parse_word, [], []⟩
def dd__parse_number : He.DefD := ⟨("_parse_number", none), "_parse_number", "_parse_number", defArgs zs__parse_number, defBody zs__parse_number, defScope zs__parse_number, [], []⟩
def dd_is_number : He.DefD := ⟨("is_number", none), "is_number", "is_number", defArgs zs_is_number, defBody zs_is_number, defScope zs_is_number, [], []⟩
def dd_is_bit : He.DefD := ⟨("is_bit", none), "is_bit", "is_bit", defArgs zs_is_bit, defBody zs_is_bit, defScope zs_is_bit, [], []⟩
def dd_is_word : He.DefD := ⟨("is_word", none), "is_word", "is_word", defArgs zs_is_word, defBody zs_is_word, defScope zs_is_word, [], []⟩
def dd_is_full_word : He.DefD := ⟨("is_full_word", none), "is_full_word", "is_full_word", defArgs zs_is_full_word, defBody zs_is_full_word, defScope zs_is_full_word, [], []⟩
def dd_is_insert : He.DefD := ⟨("is_insert", none), "is_insert", "is_insert", defArgs zs_is_insert, defBody zs_is_insert, defScope zs_is_insert, [], []⟩
def dd__are_inserts : He.DefD := ⟨("_are_inserts", none), "_are_inserts", "_are_inserts", defArgs zs__are_inserts, defBody zs__are_inserts, defScope zs__are_inserts, [], []⟩
def dd_is_rule : He.DefD := ⟨("is_rule", none), "is_rule", "is_rule", defArgs zs_is_rule, defBody zs_is_rule, defScope zs_is_rule, [], []⟩
def dd__parse_insert : He.DefD := ⟨("_parse_insert", none), "_parse_insert", "_parse_insert", defArgs zs__parse_insert, defBody zs__parse_insert, defScope zs__parse_insert, [], []⟩
def dd__behind : He.DefD := ⟨("_behind", none), "_behind", "_behind", defArgs zs__behind, defBody zs__behind, defScope zs__behind, [], []⟩
def dd_parse_rule : He.DefD := ⟨("parse_rule", none), "parse_rule", "parse_rule", defArgs zs_parse_rule, defBody zs_parse_rule, defScope zs_parse_rule, [], []⟩
def dd_parse_payloads : He.DefD := ⟨("parse_payloads", none), "parse_payloads", "parse_payloads", defArgs zs_parse_payloads, defBody zs_parse_payloads, defScope zs_parse_payloads, [], []⟩
def dd__law_parsed : He.DefD := ⟨("_law_parsed", none), "_law_parsed", "_law_parsed", defArgs zs__law_parsed, defBody zs__law_parsed, defScope zs__law_parsed, [], []⟩
def dd__law_is_word_line : He.DefD := ⟨("_law_is_word_line", none), "_law_is_word_line", "_law_is_word_line", defArgs zs__law_is_word_line, defBody zs__law_is_word_line, defScope zs__law_is_word_line, [], []⟩
def dd__law_word_line : He.DefD := ⟨("_law_word_line", none), "_law_word_line", "_law_word_line", defArgs zs__law_word_line, defBody zs__law_word_line, defScope zs__law_word_line, [], []⟩
def dd__law_is_word : He.DefD := ⟨("_law_is_word", none), "_law_is_word", "_law_is_word", defArgs zs__law_is_word, defBody zs__law_is_word, defScope zs__law_is_word, [], []⟩
def dd__law_is_rule : He.DefD := ⟨("_law_is_rule", none), "_law_is_rule", "_law_is_rule", defArgs zs__law_is_rule, defBody zs__law_is_rule, defScope zs__law_is_rule, [], []⟩
def dd__law_rule_line : He.DefD := ⟨("_law_rule_line", none), "_law_rule_line", "_law_rule_line", defArgs zs__law_rule_line, defBody zs__law_rule_line, defScope zs__law_rule_line, [], []⟩
def dd__law_list_line : He.DefD := ⟨("_law_list_line", none), "_law_list_line", "_law_list_line", defArgs zs__law_list_line, defBody zs__law_list_line, defScope zs__law_list_line, [], []⟩
def dd__law_bent_right : He.DefD := ⟨("_law_bent_right", none), "_law_bent_right", "_law_bent_right", defArgs zs__law_bent_right, defBody zs__law_bent_right, defScope zs__law_bent_right, [], []⟩
def dd_need_rule : He.DefD := ⟨("need_rule", none), "need_rule", "need_rule", defArgs zs_need_rule, defBody zs_need_rule, defScope zs_need_rule, [], []⟩
def dd__law_fixed_right : He.DefD := ⟨("_law_fixed_right", none), "_law_fixed_right", "_law_fixed_right", defArgs zs__law_fixed_right, defBody zs__law_fixed_right, defScope zs__law_fixed_right, [], []⟩
def dd_Framing_init : He.DefD := ⟨("Framing", some "__init__"), "__init__", "Framing.__init__", defArgs zs_Framing_init, defBody zs_Framing_init, defScope zs_Framing_init, [], []⟩
def dd_law : He.DefD := ⟨("law", none), "law", "law", defArgs zs_law, defBody zs_law, defScope zs_law, [], []⟩
def zfa0 : List He.Fa := [.glo "_law_crate", .glo "_law_haul", .glo "_law_bits", .glo "_law_drawn_rule", .glo "_law_any_rule", .glo "_law_payloads", .glo "_law_bent_line", .glo "_need_text", .glo "parse_word", .glo "_parse_number", .glo "is_number", .glo "is_bit", .glo "is_word", .glo "is_full_word", .glo "is_insert", .glo "_are_inserts", .glo "is_rule", .glo "_parse_insert", .glo "_behind", .glo "parse_rule", .glo "parse_payloads", .glo "_law_parsed", .glo "_law_is_word_line", .glo "_law_word_line", .glo "_law_is_word", .glo "_law_is_rule", .glo "_law_rule_line", .glo "_law_list_line", .glo "_law_bent_right", .glo "need_rule"]
def zfa1 : List He.Fa := [.glo "_law_fixed_right", .glo "law", .free "isinstance", .free "int", .free "bool", .free "tuple", .free "list", .free "str", .free "all", .free "len", .free "range", .free "reversed", .free "zip", .free "sum", .free "max", .free "min", .free "abs", .free "sorted", .glo "Framing", .cls "Framing", .mkr "Framing", .noat "Framing" "_rule", .glo "InvalidText", .exc "InvalidText", .glo "FrameError", .glo "InvalidRule", .glo "InvalidBits", .glo "InvalidPayloads", .free "ValueError", .exm "InvalidText" "FrameError" true]
def zfa : List He.Fa := zfa0 ++ zfa1
def zfn0 : List He.DefD := [dd__law_crate, dd__law_haul, dd__law_bits, dd__law_drawn_rule, dd__law_any_rule, dd__law_payloads, dd__law_bent_line, dd__need_text, dd_parse_word, dd__parse_number, dd_is_number, dd_is_bit, dd_is_word, dd_is_full_word, dd_is_insert, dd__are_inserts, dd_is_rule, dd__parse_insert, dd__behind, dd_parse_rule, dd_parse_payloads, dd__law_parsed, dd__law_is_word_line, dd__law_word_line, dd__law_is_word, dd__law_is_rule, dd__law_rule_line, dd__law_list_line, dd__law_bent_right, dd_need_rule]
def zfn1 : List He.DefD := [dd__law_fixed_right, dd_Framing_init, dd_law]
def zfn : List He.DefD := zfn0 ++ zfn1
def zex (K : PySem.W.Frag) : Bool := (excCB K "InvalidText") && (decide (PySem.W.kitOne K (.ref (He.ga K "InvalidText")) (.ref (He.ga K "InvalidText")) = some true)) && (decide (PySem.W.kitOne K (.ref (He.ga K "InvalidText")) (.type "ValueError") = some true)) && (decide (PySem.W.kitAny K (.ref (He.ga K "InvalidText")) [.ref (He.ga K "InvalidRule"), .ref (He.ga K "InvalidBits"), .ref (He.ga K "InvalidPayloads")] = some false)) && (obB K "Framing")
def zlo0 : List Str := ["_wall", "__name__", "FrameError", "InvalidRule", "InvalidBits", "InvalidPayloads", "InvalidText", "InvalidInsert", "InvalidCheck", "END", "BEHIND_FLAG", "put_table", "_due", "next_tail", "put_in", "tail_of_flag", "behind_flag", "send_on", "check_bits", "follow", "sign_steps", "_steps_from", "is_number", "is_bit", "is_word", "is_full_word", "is_rule", "_are_inserts", "is_insert", "need_rule"]
def zlo1 : List Str := ["need_bits", "need_payloads", "letter", "frame", "stream", "tails", "parse_word", "parse_rule", "parse_payloads", "_need_text", "_behind", "_parse_insert", "_parse_number", "is_clean", "breaking", "_explore", "_first_stand", "_next_stand", "_stand_breaks", "borders", "answers", "_answer", "_payload", "loose", "is_stream", "alike", "parting", "_least_parting", "_step_both", "Framing"]
def zlo2 : List Str := ["_exchanged", "_law_crate", "_law_haul", "_law_bits", "_law_is_word", "_law_is_rule", "_law_drawn_rule", "_law_any_rule", "_law_payloads", "_law_word_line", "_law_rule_line", "_law_list_line", "_law_parsed", "_law_bent_line", "_law_is_word_line", "_law_bent_right", "_law_fixed_right"]
def zlo : List Str := zlo0 ++ zlo1 ++ zlo2
def zpd0 : List Str := ["_law_crate", "_law_haul", "_law_bits", "_law_drawn_rule", "_law_any_rule", "_law_payloads", "_law_bent_line", "_need_text", "parse_word", "_parse_number", "is_number", "is_bit", "is_word", "is_full_word", "is_insert", "_are_inserts", "is_rule", "_parse_insert", "_behind", "parse_rule", "parse_payloads", "_law_parsed", "_law_is_word_line", "_law_word_line", "_law_is_word", "_law_is_rule", "_law_rule_line", "_law_list_line", "_law_bent_right", "need_rule"]
def zpd1 : List Str := ["_law_fixed_right", "law"]
def zpd : List Str := zpd0 ++ zpd1
def zpc0 : List Str := ["Framing", "InvalidText", "FrameError", "InvalidRule", "InvalidBits", "InvalidPayloads"]
def zpc : List Str := zpc0
def zpm0 : List (Str × Str) := [("Framing", "__init__")]
def zpm : List (Str × Str) := zpm0
def zpk : Pick := ⟨zpd, zpc, zpm⟩
abbrev zR : PySem.W.OpenRow := PySem.W.OpenLaw.row PySem.Challenge.rw_onlyflags_k51_texts_that_are_none
abbrev zhk : PySem.W.Hook := hookZ zpk zfa zfn zex
def zob (s : PySem.W.SharedT) : AlZ := obsZ zpk zfa zfn zex (HandSHeadRun.getT s)
theorem zob_eq (s : PySem.W.SharedT) : zob s = zhk.obs s.abs := obsZ_eq (HandSHeadRun.getT_eq s)
theorem zrun (w : World) : HandSHeadRun.RunEq zR (PySem.W.view zR.prog [85]) zhk zob 40000 zlo w := by
  intro os
  kernel_rfl
end Fr

set_option Elab.async false
set_option linter.all false
set_option maxRecDepth 100000
set_option maxHeartbeats 4000000
namespace Fr
open PySem PySem.Spec PyProof.Rows L2
open Evl (Ex)
def topS (i : Nat) : Stmt := PySem.Challenge.pw_onlyflags_k51_texts_that_are_none.main.body.getD i (.Pass ⟨0, 0, 0, 0⟩)
local macro_rules | `(tactic| walk_at "fr r2") => `(tactic| first
  | exact r2_add | exact r2_sub | exact r2_lt | exact r2_le | exact r2_gt | exact r2_ge | exact r2_eqI | exact r2_neI | exact r2_eqW | exact r2_neW | exact r2_ltT | exact r2_inI | exact r2_isN | exact r2_notN | exact r2_and | (refine r2_modN ?_; omega) | (refine r2_shr ?_; omega))
local macro_rules | `(tactic| walk_at "fr ev") => `(tactic| first
  | exact ev_var rfl | exact ev_w0 | exact ev_int | exact ev_bl | exact ev_non | exact ev_str
  | (refine' ev_isInt ?frh ?frf; (case frh => walk_at "fr ev"); (case frf => first | exact True.intro | assumption)) | (refine' ev_isBool ?frh ?frf; (case frh => walk_at "fr ev"); (case frf => first | exact True.intro | assumption)) | (refine' ev_isTup ?frh ?frf; (case frh => walk_at "fr ev"); (case frf => first | exact True.intro | assumption)) | (refine' ev_isLst ?frh ?frf; (case frh => walk_at "fr ev"); (case frf => first | exact True.intro | assumption)) | (refine' ev_isStr ?frh ?frf; (case frh => walk_at "fr ev"); (case frf => first | exact True.intro | assumption))
  | (apply ev_op; (case ha => walk_at "fr ev"); (case hb => walk_at "fr ev"); (case hr => walk_at "fr r2"))
  | (apply ev_and; (case h1 => walk_at "fr ev"); (case h2 => intro _; walk_at "fr ev"))
  | (apply ev_or; (case h1 => walk_at "fr ev"); (case h2 => intro _; walk_at "fr ev"))
  | (apply ev_not; walk_at "fr ev")
  | (apply ev_lenW; walk_at "fr ev") | (apply ev_lenT; walk_at "fr ev") | (apply ev_sumW; walk_at "fr ev") | (apply ev_neg; walk_at "fr ev") | (apply ev_bits; walk_at "fr ev")
  | (apply ev_cut; (case h => walk_at "fr ev"); (case h1 => walk_at "fr eo"); (case h2 => walk_at "fr eo"))
  | (apply ev_slT; (case h => walk_at "fr ev"); (case h1 => walk_at "fr eo"); (case h2 => walk_at "fr eo"))
  | (apply ev_tup; (case h => walk_at "fr ea"); (case hl => (show _ ≤ sizeLine; decide)))
  | (apply ev_call; (case h => walk_at "fr ea"); (case hR => walk_at "fr call")))
local macro_rules | `(tactic| walk_at "fr ea") => `(tactic| first
  | exact ea_nil
  | (apply ea_cons; (case h => walk_at "fr ev"); (case hr => walk_at "fr ea")))
local macro_rules | `(tactic| walk_at "fr evr") => `(tactic| (refine' ev_is ?frh ?fre; (case frh => walk_at "fr ev"); (case fre => rfl)))
local macro_rules | `(tactic| walk_at "fr eo") => `(tactic| first
  | exact eo_none
  | (apply eo_some; walk_at "fr ev"))
abbrev s_is_number : Stmt := topS 24
abbrev N_is_number : List Str := ["value"]
theorem sc_is_number : FnScope N_is_number ["value"] (defScope s_is_number) := ⟨rfl, rfl, rfl, by decide +kernel, rfl, by decide +kernel, by decide +kernel⟩
abbrev s_is_bit : Stmt := topS 25
abbrev N_is_bit : List Str := ["value"]
theorem sc_is_bit : FnScope N_is_bit ["value"] (defScope s_is_bit) := ⟨rfl, rfl, rfl, by decide +kernel, rfl, by decide +kernel, by decide +kernel⟩
abbrev s_is_word : Stmt := topS 26
abbrev N_is_word : List Str := ["value", "bit"]
theorem sc_is_word : FnScope N_is_word ["value"] (defScope s_is_word) := ⟨rfl, rfl, rfl, by decide +kernel, rfl, by decide +kernel, by decide +kernel⟩
abbrev s_is_full_word : Stmt := topS 27
abbrev N_is_full_word : List Str := ["value"]
theorem sc_is_full_word : FnScope N_is_full_word ["value"] (defScope s_is_full_word) := ⟨rfl, rfl, rfl, by decide +kernel, rfl, by decide +kernel, by decide +kernel⟩
abbrev s_is_insert : Stmt := topS 30
abbrev N_is_insert : List Str := ["value"]
theorem sc_is_insert : FnScope N_is_insert ["value"] (defScope s_is_insert) := ⟨rfl, rfl, rfl, by decide +kernel, rfl, by decide +kernel, by decide +kernel⟩
abbrev s__are_inserts : Stmt := topS 29
abbrev N__are_inserts : List Str := ["value", "part", "words", "word", "_", "at"]
theorem sc__are_inserts : FnScope N__are_inserts ["value"] (defScope s__are_inserts) := ⟨rfl, rfl, rfl, by decide +kernel, rfl, by decide +kernel, by decide +kernel⟩
abbrev s_is_rule : Stmt := topS 28
abbrev N_is_rule : List Str := ["value", "flag", "inserts", "check"]
theorem sc_is_rule : FnScope N_is_rule ["value"] (defScope s_is_rule) := ⟨rfl, rfl, rfl, by decide +kernel, rfl, by decide +kernel, by decide +kernel⟩
abbrev s_need_rule : Stmt := topS 31
abbrev N_need_rule : List Str := ["value"]
theorem sc_need_rule : FnScope N_need_rule ["value"] (defScope s_need_rule) := ⟨rfl, rfl, rfl, by decide +kernel, rfl, by decide +kernel, by decide +kernel⟩
abbrev s_need_bits : Stmt := topS 32
abbrev N_need_bits : List Str := ["value"]
theorem sc_need_bits : FnScope N_need_bits ["value"] (defScope s_need_bits) := ⟨rfl, rfl, rfl, by decide +kernel, rfl, by decide +kernel, by decide +kernel⟩
section
variable {P : Program} {w0 : World} {K : PySem.W.Frag} {mg : Str → Option Value} {base : Heap}
def isNumber : Dat → Bool
  | .int _ => true
  | _ => false
def R_is_number (K : PySem.W.Frag) (xs : List Dat) (y : Dat) : Prop := ∃ d, xs = [d] ∧ Fine K d ∧ y = .bl (isNumber d)
theorem len_is_number {xs : List Dat} {y : Dat} {K : PySem.W.Frag} (h : R_is_number K xs y) : xs.length = 1 := by
  obtain ⟨d, rfl, _⟩ := h
  rfl
theorem ok_is_number {f : Addr} {fd : FuncData} (F : Fun K "is_number" "is_number" s_is_number f fd) (T : Bs mg) : FnOk P w0 K mg base CX0 1 f fd ["value"] (Pr (R_is_number K)) := by
  refine fn_pr F sc_is_number (fun xs y h => len_is_number h) fun cdv A outer s H E hr => ⟨_, (pss_one (ps_ret (pe_and (pe_callB (call_isiK' (K := K) rfl) (by rfl) T.isinstance (by decide +kernel) (pa_cons (pv 0) (pa_cons (pe_bltn (v := .ty "int") (by rfl) T.int (by decide +kernel) rfl) pa_nil))) (pe_one (pe_not (pe_callB (call_isiK' (K := K) rfl) (by rfl) T.isinstance (by decide +kernel) (pa_cons (pv 0) (pa_cons (pe_bltn (v := .ty "bool") (by rfl) T.bool (by decide +kernel) rfl) pa_nil)))))))), ?_⟩
  rintro xs y ⟨d, rfl, hf, rfl⟩
  refine run_ret (ev_is (by walk_at "fr ev") ?_) rfl
  cases d <;> rfl
def isBit : Dat → Bool
  | .int i => 0 == i || 1 == i
  | _ => false
def R_is_bit (K : PySem.W.Frag) (xs : List Dat) (y : Dat) : Prop := ∃ d, xs = [d] ∧ Fine K d ∧ y = .bl (isBit d)
theorem len_is_bit {xs : List Dat} {y : Dat} {K : PySem.W.Frag} (h : R_is_bit K xs y) : xs.length = 1 := by
  obtain ⟨d, rfl, _⟩ := h
  rfl
local macro_rules | `(tactic| walk_at "fr call") => `(tactic| first | exact ⟨_, rfl, by first | exact True.intro | assumption, rfl⟩ | exact ⟨_, rfl, by assumption, rfl⟩)
theorem ok_is_bit {f : Addr} {fd : FuncData} (F : Fun K "is_bit" "is_bit" s_is_bit f fd) {f_is_number : Addr} {d_is_number : FuncData} (C_is_number : Cal P w0 K mg base "is_number" ["value"] 1 (R_is_number K) f_is_number d_is_number) : FnOk P w0 K mg base CX0 2 f fd ["value"] (Pr (R_is_bit K)) := by
  refine fn_pr F sc_is_bit (fun xs y h => len_is_bit h) fun cdv A outer s H E hr => ⟨_, (pss_one (ps_ret (pe_and (pe_call C_is_number.ok (hr.mono (by decide)) rfl C_is_number.at_ C_is_number.kp C_is_number.bd .nil pass0 (pa_cons (pv 0) pa_nil)) (pe_one (pe_cmpR (op_inK (K := K) rfl) (pv 0) (pe_tup (pa_cons pe_int (pa_cons pe_int pa_nil))) (by rfl)))))), ?_⟩
  rintro xs y ⟨d, rfl, hf, rfl⟩
  cases d with
  | int i =>
    refine run_ret (ev_is (ev_and (by walk_at "fr ev") fun _ => ev_op (ev_var rfl) (ev_tup (by walk_at "fr ea") (by decide)) (r2_inI (ns := [0, 1]))) ?_) rfl
    show Dat.bl (true && (0 == i || (1 == i || false))) = Dat.bl (0 == i || 1 == i)
    rw [Bool.true_and, Bool.or_false]
  | _ => exact run_ret (ev_and (a := false) (b := false) (by walk_at "fr evr") (fun z => by cases z)) rfl
def isWord : Dat → Bool
  | .tup ds => ds.all isBit
  | _ => false
/-- not too long -/
def Sz (K : PySem.W.Frag) : Dat → Prop
  | .tup ds => ds.length ≤ 1000000 ∧ ∀ d ∈ ds, Fine K d
  | .lst ds => ds.length ≤ 1000000 ∧ ∀ d ∈ ds, Fine K d
  | d => Fine K d
theorem Sz.fine {K : PySem.W.Frag} {d : Dat} (h : Sz K d) : Fine K d := by
  cases d with
  | tup ds => exact True.intro
  | lst ds => exact True.intro
  | _ => exact h
theorem big {n : Nat} (h : n ≤ 1000000) : n < sizeLine := by
  rw [sizeLine_eq]
  omega
def R_is_word (K : PySem.W.Frag) (xs : List Dat) (y : Dat) : Prop := ∃ d, xs = [d] ∧ Sz K d ∧ y = .bl (isWord d)
theorem len_is_word {xs : List Dat} {y : Dat} {K : PySem.W.Frag} (h : R_is_word K xs y) : xs.length = 1 := by
  obtain ⟨d, rfl, _⟩ := h
  rfl
local macro_rules | `(tactic| walk_at "fr call") => `(tactic| first | exact ⟨_, rfl, by first | exact True.intro | assumption, rfl⟩ | exact ⟨_, rfl, by assumption, rfl⟩)
theorem ok_is_word {f : Addr} {fd : FuncData} (F : Fun K "is_word" "is_word" s_is_word f fd) {f_is_bit : Addr} {d_is_bit : FuncData} (C_is_bit : Cal P w0 K mg base "is_bit" ["value"] 2 (R_is_bit K) f_is_bit d_is_bit) (T : Bs mg) : FnOk P w0 K mg base CX0 3 f fd ["value"] (Pr (R_is_word K)) := by
  refine fn_pr F sc_is_word (fun xs y h => len_is_word h) fun cdv A outer s H E hr => ⟨_, (pss_one (ps_ret (pe_and (pe_callB (call_isiK' (K := K) rfl) (by rfl) T.isinstance (by decide +kernel) (pa_cons (pv 0) (pa_cons (pe_bltn (v := .ty "tuple") (by rfl) T.tuple (by decide +kernel) rfl) pa_nil))) (pe_one (pe_callB (cr_allK (K := K) rfl rfl) (by rfl) T.all (by decide +kernel) (pa_cons (pe_lc (own := [("bit", 1)]) rfl sc_is_word.nd (pi_tupK (K := K) rfl (pv 0)) (blkOk_by (own := [("bit", 1)]) (N := N_is_word) (sc := defScope s_is_word) (by decide +kernel)) (fun _ _ _ _ _ => (pg_name (i := 1) sc_is_word.nd rfl (Or.inl rfl))) (fun _ _ _ _ _ => pts_nil) (fun _ _ _ _ _ => (pe_call C_is_bit.ok (hr.mono (by decide)) rfl C_is_bit.at_ C_is_bit.kp C_is_bit.bd .nil pass0 (pa_cons (pv 1) pa_nil)))) pa_nil)))))), ?_⟩
  rintro xs y ⟨d, rfl, hz, rfl⟩
  have hf : Fine K d := hz.fine
  cases d with
  | tup ds =>
    refine run_ret (ev_is (ev_and (by walk_at "fr ev") fun _ => ev_all (bs := ds.map isBit) (er_is (er_ofN (en_lcT (js := [1]) (l := ds) (enc := id) (f := fun _ => true) (v := fun d => .bl (isBit d)) ?_ (by decide) (big hz.1) fun d hd => ⟨_, tg_name 1, et_yes, fun _ => ev_call (ea_cons (ev_var rfl) ea_nil) ⟨d, rfl, hz.2 d hd, rfl⟩⟩)) ?_)) ?_) rfl
    · rw [List.map_id]
      exact ev_var rfl
    · rw [filter_yes, List.map_map]
      rfl
    · show Dat.bl (true && (ds.map isBit).all id) = Dat.bl (ds.all isBit)
      rw [Bool.true_and, List.all_map]
      rfl
  | _ => exact run_ret (ev_and (a := false) (b := false) (by walk_at "fr evr") (fun z => by cases z)) rfl
def isFull : Dat → Bool
  | .tup ds => ds.all isBit && decide (0 < ds.length)
  | _ => false
def R_is_full_word (K : PySem.W.Frag) (xs : List Dat) (y : Dat) : Prop := ∃ d, xs = [d] ∧ Sz K d ∧ y = .bl (isFull d)
theorem len_is_full_word {xs : List Dat} {y : Dat} {K : PySem.W.Frag} (h : R_is_full_word K xs y) : xs.length = 1 := by
  obtain ⟨d, rfl, _⟩ := h
  rfl
local macro_rules | `(tactic| walk_at "fr call") => `(tactic| exact ⟨_, rfl, by assumption, rfl⟩)
theorem ok_is_full_word {f : Addr} {fd : FuncData} (F : Fun K "is_full_word" "is_full_word" s_is_full_word f fd) {f_is_word : Addr} {d_is_word : FuncData} (C_is_word : Cal P w0 K mg base "is_word" ["value"] 3 (R_is_word K) f_is_word d_is_word) (T : Bs mg) : FnOk P w0 K mg base CX0 4 f fd ["value"] (Pr (R_is_full_word K)) := by
  refine fn_pr F sc_is_full_word (fun xs y h => len_is_full_word h) fun cdv A outer s H E hr => ⟨_, (pss_one (ps_ret (pe_and (pe_call C_is_word.ok (hr.mono (by decide)) rfl C_is_word.at_ C_is_word.kp C_is_word.bd .nil pass0 (pa_cons (pv 0) pa_nil)) (pe_one (pe_cmpR op_gt (pe_callB (call_lenK (K := K) rfl) (by rfl) T.len PySem.boot_len (pa_cons (pv 0) pa_nil)) pe_int (nomark _)))))), ?_⟩
  rintro xs y ⟨d, rfl, hz, rfl⟩
  have hf : Fine K d := hz.fine
  cases d with
  | tup ds =>
    refine run_ret (ev_is (by walk_at "fr ev") ?_) rfl
    show Dat.bl (ds.all isBit && decide ((0 : Int) < (ds.length : Int))) = Dat.bl (ds.all isBit && decide (0 < ds.length))
    have e : decide ((0 : Int) < (ds.length : Int)) = decide (0 < ds.length) := decide_eq_decide.mpr (by omega)
    rw [e]
  | _ => exact run_ret (ev_and (a := false) (b := false) (by walk_at "fr evr") (fun z => by cases z)) rfl
def isIns : Dat → Bool
  | .tup [a, b] => isFull a && isBit b
  | _ => false
def Sz1 (K : PySem.W.Frag) : Dat → Prop
  | .tup ds => ds.length ≤ 1000000 ∧ ∀ d ∈ ds, Sz K d
  | .lst ds => ds.length ≤ 1000000 ∧ ∀ d ∈ ds, Sz K d
  | d => Fine K d
theorem Sz1.to {K : PySem.W.Frag} {d : Dat} (h : Sz1 K d) : Sz K d := by
  cases d with
  | tup ds => exact ⟨h.1, fun x hx => (h.2 x hx).fine⟩
  | lst ds => exact ⟨h.1, fun x hx => (h.2 x hx).fine⟩
  | _ => exact h
def R_is_insert (K : PySem.W.Frag) (xs : List Dat) (y : Dat) : Prop := ∃ d, xs = [d] ∧ Sz1 K d ∧ y = .bl (isIns d)
theorem len_is_insert {xs : List Dat} {y : Dat} {K : PySem.W.Frag} (h : R_is_insert K xs y) : xs.length = 1 := by
  obtain ⟨d, rfl, _⟩ := h
  rfl
local macro_rules | `(tactic| walk_at "fr call") => `(tactic| first | exact ⟨_, rfl, by first | exact True.intro | assumption, rfl⟩ | exact ⟨_, rfl, rfl⟩)
theorem ok_is_insert {f : Addr} {fd : FuncData} (F : Fun K "is_insert" "is_insert" s_is_insert f fd) {f_is_full_word : Addr} {d_is_full_word : FuncData} (C_is_full_word : Cal P w0 K mg base "is_full_word" ["value"] 4 (R_is_full_word K) f_is_full_word d_is_full_word) {f_is_bit : Addr} {d_is_bit : FuncData} (C_is_bit : Cal P w0 K mg base "is_bit" ["value"] 2 (R_is_bit K) f_is_bit d_is_bit) (T : Bs mg) : FnOk P w0 K mg base CX0 5 f fd ["value"] (Pr (R_is_insert K)) := by
  refine fn_pr F sc_is_insert (fun xs y h => len_is_insert h) fun cdv A outer s H E hr => ⟨_, (pss_one (ps_ret (pe_and (pe_callB (call_isiK' (K := K) rfl) (by rfl) T.isinstance (by decide +kernel) (pa_cons (pv 0) (pa_cons (pe_bltn (v := .ty "tuple") (by rfl) T.tuple (by decide +kernel) rfl) pa_nil))) (pe_and (pe_cmpR op_eq (pe_callB (call_lenK (K := K) rfl) (by rfl) T.len PySem.boot_len (pa_cons (pv 0) pa_nil)) pe_int (nomark _)) (pe_and (pe_call C_is_full_word.ok (hr.mono (by decide)) rfl C_is_full_word.at_ C_is_full_word.kp C_is_full_word.bd .nil pass0 (pa_cons (pe_ix (ix_tupK (K := K) rfl) (pv 0) pe_int (fun _ _ => rfl)) pa_nil)) (pe_one (pe_call C_is_bit.ok (hr.mono (by decide)) rfl C_is_bit.at_ C_is_bit.kp C_is_bit.bd .nil pass0 (pa_cons (pe_ix (ix_tupK (K := K) rfl) (pv 0) pe_int (fun _ _ => rfl)) pa_nil)))))))), ?_⟩
  rintro xs y ⟨d, rfl, hz, rfl⟩
  have hf : Fine K d := hz.to.fine
  cases d with
  | tup ds =>
    rcases ds with _ | ⟨a, _ | ⟨b, _ | ⟨c, r⟩⟩⟩
    · exact run_ret (ev_is (ev_and (a := true) (b := false) (by walk_at "fr evr") fun _ => ev_is (ev_and (a := false) (b := false) (by walk_at "fr evr") (fun z => by cases z)) rfl) rfl) rfl
    · exact run_ret (ev_is (ev_and (a := true) (b := false) (by walk_at "fr evr") fun _ => ev_is (ev_and (a := false) (b := false) (by walk_at "fr evr") (fun z => by cases z)) rfl) rfl) rfl
    · have hb : Fine K b := (hz.2 b (List.mem_cons_of_mem _ List.mem_cons_self)).fine
      have ha : Sz K a := hz.2 a List.mem_cons_self
      refine run_ret (ev_is (ev_and (a := true) (by walk_at "fr evr") fun _ => ev_and (a := true) (by walk_at "fr evr") fun _ => ev_and (ev_call (ea_cons (ev_op (ev_var rfl) ev_int (r2_ixT (z := a) rfl)) ea_nil) ⟨_, rfl, ha, rfl⟩) fun _ => ev_call (ea_cons (ev_op (ev_var rfl) ev_int (r2_ixT (z := b) rfl)) ea_nil) ⟨_, rfl, hb, rfl⟩) ?_) rfl
      show Dat.bl (true && (true && (isFull a && isBit b))) = Dat.bl (isFull a && isBit b)
      rw [Bool.true_and, Bool.true_and]
    · refine run_ret (ev_is (ev_and (a := true) (b := false) (by walk_at "fr evr") fun _ => ev_is (ev_and (a := false) (b := false) (ev_is (by walk_at "fr ev") ?_) (fun z => by cases z)) rfl) rfl) rfl
      show Dat.bl (decide (((r.length + 1 + 1 + 1 : Nat) : Int) = 2)) = Dat.bl false
      rw [decide_eq_false (by omega)]
  | _ => exact run_ret (ev_and (a := false) (b := false) (by walk_at "fr evr") (fun z => by cases z)) rfl
def isB (b : Int) : Bool := isBit (.int b)
structure Row (p : List Int × Int) : Prop where
  bits : p.1.all isB = true
  some : 0 < p.1.length
  bit : isB p.2 = true
def rowD (p : List Int × Int) : Dat := .tup [w p.1, .int p.2]
theorem isWord_w (ns : List Int) : isWord (w ns) = ns.all isB := by
  show (ns.map Dat.int).all isBit = ns.all isB
  rw [List.all_map]
  rfl
theorem isFull_w (ns : List Int) : isFull (w ns) = (ns.all isB && decide (0 < ns.length)) := by
  show ((ns.map Dat.int).all isBit && decide (0 < (ns.map Dat.int).length)) = _
  rw [List.all_map, List.length_map]
  rfl
theorem bits_of_all : ∀ {ds : List Dat}, ds.all isBit = true → ∃ ns : List Int, ds = ns.map .int ∧ ns.all isB = true
  | [], _ => ⟨[], rfl, rfl⟩
  | d :: ds, h => by
    rw [List.all_cons, Bool.and_eq_true] at h
    obtain ⟨ns, rfl, hn⟩ := bits_of_all h.2
    cases d with
    | int i => exact ⟨i :: ns, rfl, by rw [List.all_cons, hn, Bool.and_true]; exact h.1⟩
    | _ => cases h.1
theorem full_of {d : Dat} (h : isFull d = true) : ∃ ns : List Int, d = w ns ∧ ns.all isB = true ∧ 0 < ns.length := by
  cases d with
  | tup ds =>
    have h : (ds.all isBit && decide (0 < ds.length)) = true := h
    rw [Bool.and_eq_true] at h
    obtain ⟨ns, rfl, hn⟩ := bits_of_all h.1
    have := of_decide_eq_true h.2
    rw [List.length_map] at this
    exact ⟨ns, rfl, hn, this⟩
  | _ => cases h
theorem ins_of {d : Dat} (h : isIns d = true) : ∃ p, d = rowD p ∧ Row p := by
  cases d with
  | tup ds =>
    rcases ds with _ | ⟨a, _ | ⟨b, _ | ⟨c, r⟩⟩⟩
    · cases h
    · cases h
    · have h : (isFull a && isBit b) = true := h
      rw [Bool.and_eq_true] at h
      obtain ⟨ns, rfl, hn, h0⟩ := full_of h.1
      cases b with
      | int i => exact ⟨(ns, i), rfl, hn, h0, h.2⟩
      | _ => cases h.2
    · cases h
  | _ => cases h
theorem inss_of : ∀ {ds : List Dat}, ds.all isIns = true → ∃ ps : List (List Int × Int), ds = ps.map rowD ∧ ∀ p ∈ ps, Row p
  | [], _ => ⟨[], rfl, fun _ h => nomatch h⟩
  | d :: ds, h => by
    rw [List.all_cons, Bool.and_eq_true] at h
    obtain ⟨ps, rfl, hp⟩ := inss_of h.2
    obtain ⟨p, rfl, h1⟩ := ins_of h.1
    exact ⟨p :: ps, rfl, fun q hq => by
      rcases List.mem_cons.mp hq with z | z
      · rw [z]
        exact h1
      · exact hp q z⟩
def intOf : Dat → Int
  | .int i => i
  | _ => 0
def wordOf : Dat → List Int
  | .tup (.tup es :: _) => es.map intOf
  | _ => []
theorem wordOf_row (p : List Int × Int) : wordOf (rowD p) = p.1 := by
  show (p.1.map Dat.int).map intOf = p.1
  rw [List.map_map]
  exact List.map_id _
def ascGo : List Int → List (List Int) → Bool
  | _, [] => true
  | a, b :: bs => HT.lexLt a b && ascGo b bs
def asc : List (List Int) → Bool
  | [] => true
  | a :: bs => ascGo a bs
def pairsLt (ws : List (List Int)) : Bool := ((List.range (ws.length - 1)).map fun i => HT.lexLt (ws[i]?.getD []) (ws[i + 1]?.getD [])).all id
theorem pairs_go : ∀ (a : List Int) (bs : List (List Int)), pairsLt (a :: bs) = ascGo a bs
  | a, [] => rfl
  | a, b :: bs => by
    have ih := pairs_go b bs
    unfold pairsLt at ih ⊢
    show ((List.range (bs.length + 1)).map _).all id = (HT.lexLt a b && ascGo b bs)
    rw [List.range_succ_eq_map, List.map_cons, List.all_cons, ← ih, List.map_map]
    rfl
theorem pairs_asc (ws : List (List Int)) : pairsLt ws = asc ws := by
  cases ws with
  | nil => rfl
  | cons a bs => exact pairs_go a bs
def isInss : Dat → Bool
  | .tup ds => ds.all isIns && asc (ds.map wordOf)
  | _ => false
def Sz2 (K : PySem.W.Frag) : Dat → Prop
  | .tup ds => ds.length ≤ 1000000 ∧ ∀ d ∈ ds, Sz1 K d
  | .lst ds => ds.length ≤ 1000000 ∧ ∀ d ∈ ds, Sz1 K d
  | d => Fine K d
theorem Sz2.to {K : PySem.W.Frag} {d : Dat} (h : Sz2 K d) : Sz1 K d := by
  cases d with
  | tup ds => exact ⟨h.1, fun x hx => (h.2 x hx).to⟩
  | lst ds => exact ⟨h.1, fun x hx => (h.2 x hx).to⟩
  | _ => exact h
def R__are_inserts (K : PySem.W.Frag) (xs : List Dat) (y : Dat) : Prop := ∃ d, xs = [d] ∧ Sz2 K d ∧ y = .bl (isInss d)
theorem len__are_inserts {xs : List Dat} {y : Dat} {K : PySem.W.Frag} (h : R__are_inserts K xs y) : xs.length = 1 := by
  obtain ⟨r, rfl, _⟩ := h
  rfl
theorem ok__are_inserts {f : Addr} {fd : FuncData} (F : Fun K "_are_inserts" "_are_inserts" s__are_inserts f fd) {f_is_insert : Addr} {d_is_insert : FuncData} (C_is_insert : Cal P w0 K mg base "is_insert" ["value"] 5 (R_is_insert K) f_is_insert d_is_insert) (T : Bs mg) : FnOk P w0 K mg base CX0 6 f fd ["value"] (Pr (R__are_inserts K)) := by
  refine fn_pr F sc__are_inserts (fun xs y h => len__are_inserts h) fun cdv A outer s H E hr => ⟨_, (pss_cons (ps_if (PW.pt (pw_or (pt_not (pt_val (pe_callB (call_isiK' (K := K) rfl) (by rfl) T.isinstance (by decide +kernel) (pa_cons (pv 0) (pa_cons (pe_bltn (v := .ty "tuple") (by rfl) T.tuple (by decide +kernel) rfl) pa_nil))))) (pw_or1 (pt_not (pt_val (pe_callB (cr_allK (K := K) rfl rfl) (by rfl) T.all (by decide +kernel) (pa_cons (pe_lc (own := [("part", 1)]) rfl sc__are_inserts.nd (pi_tupK (K := K) rfl (pv 0)) (blkOk_by (own := [("part", 1)]) (N := N__are_inserts) (sc := defScope s__are_inserts) (by decide +kernel)) (fun _ _ _ _ _ => (pg_name (i := 1) sc__are_inserts.nd rfl (Or.inl rfl))) (fun _ _ _ _ _ => pts_nil) (fun _ _ _ _ _ => (pe_call C_is_insert.ok (hr.mono (by decide)) rfl C_is_insert.at_ C_is_insert.kp C_is_insert.bd .nil pass0 (pa_cons (pv 1) pa_nil)))) pa_nil))))))) (pss_one (ps_ret pe_bl)) pss_nil)
      (pss_cons (ps_set (i := 2) sc__are_inserts.nd rfl (Or.inr rfl) (pe_lc (own := [("word", 3), ("_", 4)]) rfl sc__are_inserts.nd (pi_tupK (K := K) rfl (pv 0)) (blkOk_by (own := [("word", 3), ("_", 4)]) (N := N__are_inserts) (sc := defScope s__are_inserts) (by decide +kernel)) (fun _ _ _ _ _ => by exact (pg_tupK (K := K) 2 rfl rfl (pgs_cons (pg_name (i := 3) sc__are_inserts.nd rfl (Or.inl rfl)) (pgs_cons (pg_name (i := 4) sc__are_inserts.nd rfl (Or.inl rfl)) pgs_nil)))) (fun _ _ _ _ _ => pts_nil) (fun _ _ _ _ _ => (pv 3))))
      (pss_one (ps_ret (pe_callB (cr_allK (K := K) rfl rfl) (by rfl) T.all (by decide +kernel) (pa_cons (pe_lc (own := [("at", 5)]) rfl sc__are_inserts.nd (pi_range1 (by rfl) T.range (pa_cons (pe_op op_sub (pe_callB (call_lenK (K := K) rfl) (by rfl) T.len PySem.boot_len (pa_cons (pv 2) pa_nil)) pe_int) pa_nil)) (blkOk_by (own := [("at", 5)]) (N := N__are_inserts) (sc := defScope s__are_inserts) (by decide +kernel)) (fun _ _ _ _ _ => (pg_name (i := 5) sc__are_inserts.nd rfl (Or.inl rfl))) (fun _ _ _ _ _ => pts_nil) (fun _ _ _ _ _ => (pe_cmpR (op_ltK (K := K) rfl hr.units0) (pe_ix (ix_listK (K := K) rfl) (pv 2) (pv 5) (fun _ _ => rfl)) (pe_ix (ix_listK (K := K) rfl) (pv 2) (pe_op op_add (pv 5) pe_int) (fun _ _ => rfl)) (nomark _)))) pa_nil)))))), ?_⟩
  rintro xs y ⟨d, rfl, hz, rfl⟩
  have hf : Fine K d := hz.to.to.fine
  cases d with
  | tup ds =>
    have hlen : ds.length < sizeLine := big hz.1
    have dsm : ds.map id = ds := List.map_id _
    cases hi : ds.all isIns with
    | false =>
      refine run_seq (M := fun _ => False) (run_if (b := true) (et_is (et_or (a := false) (b := true) (et_not (a := true) (et_B (by walk_at "fr evr"))) fun _ => et_not (a := false) (et_B (ev_is (ev_all (bs := ds.map isIns)
        (er_is (er_ofN (en_lcT (js := [1]) (l := ds) (enc := id) (f := fun _ => true) (v := fun d => .bl (isIns d)) (ev_is (ev_var rfl) (congrArg Dat.tup dsm.symm)) (by decide) hlen fun d hd => ⟨_, tg_name 1, et_yes, fun _ => ev_call (ea_cons (ev_var rfl) ea_nil) ⟨d, rfl, hz.2 d hd, rfl⟩⟩)) ?_)) ?_))) rfl) (fun _ => run_ret ev_bl ?_) (fun z => by cases z)) (fun _ z => z.elim)
      · rw [filter_yes, List.map_map]
        rfl
      · rw [List.all_map]
        exact congrArg Dat.bl hi
      · show Dat.bl false = Dat.bl (ds.all isIns && asc (ds.map wordOf))
        rw [hi]
        rfl
    | true =>
      refine run_seq1 (run_if (b := false) (et_or (a := false) (et_not (a := true) (et_B (by walk_at "fr evr"))) fun _ => et_not (a := true) (et_B (ev_is (ev_all (bs := ds.map isIns)
        (er_is (er_ofN (en_lcT (js := [1]) (l := ds) (enc := id) (f := fun _ => true) (v := fun d => .bl (isIns d)) (ev_is (ev_var rfl) (congrArg Dat.tup dsm.symm)) (by decide) hlen fun d hd => ⟨_, tg_name 1, et_yes, fun _ => ev_call (ea_cons (ev_var rfl) ea_nil) ⟨d, rfl, hz.2 d hd, rfl⟩⟩)) ?_)) ?_))) (fun z => by cases z) fun _ => run_next rfl) ?_
      · rw [filter_yes, List.map_map]
        rfl
      · rw [List.all_map]
        exact congrArg Dat.bl hi
      obtain ⟨ps, rfl, hp⟩ := inss_of hi
      rw [List.length_map] at hlen
      refine run_seq1 (run_asgN (xs := ps.map fun p => w p.1) (en_is (en_lcT (js := [3, 4]) (l := ps) (enc := rowD) (f := fun _ => true) (v := fun p => w p.1) (ev_var rfl) (by decide) hlen fun p hp => ⟨_, tg_tup (tgs_cons (tg_name 3) (tgs_cons (tg_name 4) tgs_nil)) rfl, et_yes, fun _ => ev_var rfl⟩) (by rw [filter_yes])) rfl) ?_
      refine run_ret (ev_is (ev_all (bs := (List.range (ps.length - 1)).map fun i => HT.lexLt ((ps.map (·.1))[i]?.getD []) ((ps.map (·.1))[i + 1]?.getD [])) (er_is (er_ofN (en_lcR (js := [5]) (n := (ps.length : Int) - 1) (f := fun _ => true) (v := fun i => .bl (HT.lexLt ((ps.map (·.1))[i]?.getD []) ((ps.map (·.1))[i + 1]?.getD []))) (ea_cons (ev_op (ev_is (ev_lenL (er_var rfl)) ?_) ev_int r2_sub) ea_nil) (by decide) ?_ fun a ha => ⟨_, tg_name 5, et_yes, fun _ => ?_⟩)) ?_)) ?_) rfl
      · rw [List.length_map]
      · have := hlen
        omega
      · obtain ⟨p, hp⟩ : ∃ p, ps[a]? = some p := ⟨ps[a]'(by omega), List.getElem?_eq_getElem (by omega)⟩
        obtain ⟨q, hq⟩ : ∃ q, ps[a + 1]? = some q := ⟨ps[a + 1]'(by omega), List.getElem?_eq_getElem (by omega)⟩
        refine ev_is (ev_op (ev_ixL (er_var rfl) (ev_var rfl) (z := w p.1) ?_) (ev_ixL (er_var rfl) (ev_op (ev_var rfl) ev_int r2_add) (z := w q.1) ?_) r2_ltT) ?_
        · rw [atI_nat (j := a) (by rw [List.getElem?_map, hp]; rfl)]
        · have e : ((a : Int) + 1) = ((a + 1 : Nat) : Int) := by omega
          rw [e, atI_nat (j := a + 1) (by rw [List.getElem?_map, hq]; rfl)]
        · rw [List.getElem?_map, List.getElem?_map, hp, hq]
          rfl
      · rw [filter_yes, List.map_map]
        have e : ((ps.length : Int) - 1).toNat = ps.length - 1 := by omega
        rw [e]
        rfl
      · show Dat.bl _ = Dat.bl (((ps.map rowD).all isIns) && asc ((ps.map rowD).map wordOf))
        have e : (ps.map rowD).map wordOf = ps.map (·.1) := by
          rw [List.map_map]
          exact List.map_congr_left fun p _ => wordOf_row p
        rw [hi, e, ← pairs_asc, Bool.true_and]
        unfold pairsLt
        rw [List.length_map]
  | _ => exact run_seq (M := fun _ => False) (run_if (b := true) (et_is (et_or (a := true) (b := false) (et_not (a := false) (et_B (by walk_at "fr evr"))) (fun z => by cases z)) rfl) (fun _ => run_ret ev_bl rfl) (fun z => by cases z)) (fun _ z => z.elim)
def isRuleD : Dat → Bool
  | .tup [a, b, c] => isFull a && (isInss b && (isNumber c && decide (1 ≤ intOf c)))
  | _ => false
def Sz3 (K : PySem.W.Frag) : Dat → Prop
  | .tup ds => ds.length ≤ 1000000 ∧ ∀ d ∈ ds, Sz2 K d
  | .lst ds => ds.length ≤ 1000000 ∧ ∀ d ∈ ds, Sz2 K d
  | d => Fine K d
theorem Sz3.to {K : PySem.W.Frag} {d : Dat} (h : Sz3 K d) : Sz2 K d := by
  cases d with
  | tup ds => exact ⟨h.1, fun x hx => (h.2 x hx).to⟩
  | lst ds => exact ⟨h.1, fun x hx => (h.2 x hx).to⟩
  | _ => exact h
def R_is_rule (K : PySem.W.Frag) (xs : List Dat) (y : Dat) : Prop := ∃ d, xs = [d] ∧ Sz3 K d ∧ y = .bl (isRuleD d)
theorem len_is_rule {xs : List Dat} {y : Dat} {K : PySem.W.Frag} (h : R_is_rule K xs y) : xs.length = 1 := by
  obtain ⟨r, rfl, _⟩ := h
  rfl
theorem ok_is_rule {f : Addr} {fd : FuncData} (F : Fun K "is_rule" "is_rule" s_is_rule f fd) {f_is_full_word : Addr} {d_is_full_word : FuncData} (C_is_full_word : Cal P w0 K mg base "is_full_word" ["value"] 4 (R_is_full_word K) f_is_full_word d_is_full_word) {f__are_inserts : Addr} {d__are_inserts : FuncData} (C__are_inserts : Cal P w0 K mg base "_are_inserts" ["value"] 6 (R__are_inserts K) f__are_inserts d__are_inserts) {f_is_number : Addr} {d_is_number : FuncData} (C_is_number : Cal P w0 K mg base "is_number" ["value"] 1 (R_is_number K) f_is_number d_is_number) (T : Bs mg) : FnOk P w0 K mg base CX0 7 f fd ["value"] (Pr (R_is_rule K)) := by
  refine fn_pr F sc_is_rule (fun xs y h => len_is_rule h) fun cdv A outer s H E hr => ⟨_, (pss_cons (ps_if (PW.pt (pw_or (pt_not (pt_val (pe_callB (call_isiK' (K := K) rfl) (by rfl) T.isinstance (by decide +kernel) (pa_cons (pv 0) (pa_cons (pe_bltn (v := .ty "tuple") (by rfl) T.tuple (by decide +kernel) rfl) pa_nil))))) (pw_or1 (pt_cmpR op_ne (pe_callB (call_lenK (K := K) rfl) (by rfl) T.len PySem.boot_len (pa_cons (pv 0) pa_nil)) pe_int (nomark _))))) (pss_one (ps_ret pe_bl)) pss_nil)
      (pss_cons (ps_asg (pv 0) (pg_tupK (K := K) 3 rfl rfl (pgs_cons (pg_name (i := 1) sc_is_rule.nd rfl (Or.inl rfl)) (pgs_cons (pg_name (i := 2) sc_is_rule.nd rfl (Or.inl rfl)) (pgs_cons (pg_name (i := 3) sc_is_rule.nd rfl (Or.inl rfl)) pgs_nil)))))
      (pss_one (ps_ret (pe_and (pe_call C_is_full_word.ok (hr.mono (by decide)) rfl C_is_full_word.at_ C_is_full_word.kp C_is_full_word.bd .nil pass0 (pa_cons (pv 1) pa_nil)) (pe_and (pe_call C__are_inserts.ok (hr.mono (by decide)) rfl C__are_inserts.at_ C__are_inserts.kp C__are_inserts.bd .nil pass0 (pa_cons (pv 2) pa_nil)) (pe_and (pe_call C_is_number.ok (hr.mono (by decide)) rfl C_is_number.at_ C_is_number.kp C_is_number.bd .nil pass0 (pa_cons (pv 3) pa_nil)) (pe_one (pe_cmpR op_ge (pv 3) pe_int (nomark _)))))))))), ?_⟩
  rintro xs y ⟨d, rfl, hz, rfl⟩
  have hf : Fine K d := hz.to.to.to.fine
  cases d with
  | tup ds =>
    rcases ds with _ | ⟨a, _ | ⟨b, _ | ⟨c, _ | ⟨e, r⟩⟩⟩⟩
    case cons.cons.cons.nil =>
      have hcF : Fine K c := (hz.2 c (List.mem_cons_of_mem _ (List.mem_cons_of_mem _ List.mem_cons_self))).to.to.fine
      have ha : Sz K a := (hz.2 a List.mem_cons_self).to.to
      have hb : Sz2 K b := hz.2 b (List.mem_cons_of_mem _ List.mem_cons_self)
      refine run_seq1 (run_if (b := false) (et_or (a := false) (et_not (a := true) (et_B (by walk_at "fr evr"))) fun _ => et_test (by walk_at "fr evr")) (fun z => by cases z) fun _ => run_next rfl) ?_
      refine run_seq1 (run_asgT (ev_var rfl) (tg_tup (tgs_cons (tg_name 1) (tgs_cons (tg_name 2) (tgs_cons (tg_name 3) tgs_nil))) rfl) rfl) ?_
      refine run_ret (ev_and (ev_call (ea_cons (ev_var rfl) ea_nil) ⟨a, rfl, ha, rfl⟩) fun _ => ev_and (ev_call (ea_cons (ev_var rfl) ea_nil) ⟨b, rfl, hb, rfl⟩) fun _ => ev_and (ev_call (ea_cons (ev_var rfl) ea_nil) ⟨c, rfl, hcF, rfl⟩) fun hc => ?_) rfl
      cases c with
      | int i => exact ev_op (ev_var rfl) ev_int r2_ge
      | _ => cases hc
    case nil => exact run_seq (M := fun _ => False) (run_if (b := true) (et_is (et_or (a := false) (b := true) (et_not (a := true) (et_B (by walk_at "fr evr"))) fun _ => et_test (by walk_at "fr evr")) rfl) (fun _ => run_ret ev_bl rfl) (fun z => by cases z)) (fun _ z => z.elim)
    case cons.nil => exact run_seq (M := fun _ => False) (run_if (b := true) (et_is (et_or (a := false) (b := true) (et_not (a := true) (et_B (by walk_at "fr evr"))) fun _ => et_test (by walk_at "fr evr")) rfl) (fun _ => run_ret ev_bl rfl) (fun z => by cases z)) (fun _ z => z.elim)
    case cons.cons.nil => exact run_seq (M := fun _ => False) (run_if (b := true) (et_is (et_or (a := false) (b := true) (et_not (a := true) (et_B (by walk_at "fr evr"))) fun _ => et_test (by walk_at "fr evr")) rfl) (fun _ => run_ret ev_bl rfl) (fun z => by cases z)) (fun _ z => z.elim)
    case cons.cons.cons.cons =>
      refine run_seq (M := fun _ => False) (run_if (b := true) (et_is (et_or (a := false) (b := true) (et_not (a := true) (et_B (by walk_at "fr evr"))) fun _ => et_is (et_test (ev_op (ev_lenT (ev_var rfl)) ev_int r2_neI)) ?_) rfl) (fun _ => run_ret ev_bl rfl) (fun z => by cases z)) (fun _ z => z.elim)
      show (!decide (((r.length + 1 + 1 + 1 + 1 : Nat) : Int) = 3)) = true
      rw [decide_eq_false (by omega)]
      rfl
  | _ => exact run_seq (M := fun _ => False) (run_if (b := true) (et_is (et_or (a := true) (b := false) (et_not (a := false) (et_B (by walk_at "fr evr"))) (fun z => by cases z)) rfl) (fun _ => run_ret ev_bl rfl) (fun z => by cases z)) (fun _ z => z.elim)
/-- a rule without addresses -/
structure Rule where
  flag : List Int
  ins : List (List Int × Int)
  chk : Int
def Rule.dat (r : Rule) : Dat := .tup [w r.flag, .tup (r.ins.map rowD), .int r.chk]
structure Wd (ns : List Int) : Prop where
  bits : ns.all isB = true
  short : ns.length ≤ 100000
structure Good (r : Rule) : Prop where
  flag : r.flag.all isB = true
  flag0 : 0 < r.flag.length
  flag1 : r.flag.length ≤ 1000
  many : r.ins.length ≤ 1000
  rows : ∀ p ∈ r.ins, p.1.all isB = true ∧ 0 < p.1.length ∧ p.1.length ≤ 1000 ∧ isB p.2 = true
  order : ∀ (i : Nat) (p q : List Int × Int), r.ins[i]? = some p → r.ins[i + 1]? = some q → HT.lexLt p.1 q.1 = true
  chk0 : 1 ≤ r.chk
  chk1 : Builtin.Int.intBits (r.chk - 1) ≤ 1000
theorem sz_w {K : PySem.W.Frag} {ns : List Int} (h : ns.length ≤ 1000000) : Sz K (w ns) := ⟨by
  rw [List.length_map]
  exact h, fun d hd => by
  obtain ⟨i, _, rfl⟩ := List.mem_map.mp hd
  exact True.intro⟩
theorem sz1_w {K : PySem.W.Frag} {ns : List Int} (h : ns.length ≤ 1000000) : Sz1 K (w ns) := ⟨by
  rw [List.length_map]
  exact h, fun d hd => by
  obtain ⟨i, _, rfl⟩ := List.mem_map.mp hd
  exact True.intro⟩
theorem sz2_w {K : PySem.W.Frag} {ns : List Int} (h : ns.length ≤ 1000000) : Sz2 K (w ns) := ⟨by
  rw [List.length_map]
  exact h, fun d hd => by
  obtain ⟨i, _, rfl⟩ := List.mem_map.mp hd
  exact True.intro⟩
theorem sz3_w {K : PySem.W.Frag} {ns : List Int} (h : ns.length ≤ 1000000) : Sz3 K (w ns) := ⟨by
  rw [List.length_map]
  exact h, fun d hd => by
  obtain ⟨i, _, rfl⟩ := List.mem_map.mp hd
  exact True.intro⟩
theorem row_sz {K : PySem.W.Frag} {p : List Int × Int} (h : p.1.length ≤ 1000000) : Sz1 K (rowD p) := by
  refine ⟨by show 2 ≤ 1000000; omega, fun d hd => ?_⟩
  rcases List.mem_cons.mp hd with rfl | hd
  · exact sz_w h
  · rw [List.mem_singleton.mp hd]
    exact True.intro
theorem rule_sz {K : PySem.W.Frag} {r : Rule} (h1 : r.flag.length ≤ 1000000) (h2 : r.ins.length ≤ 1000000) (h3 : ∀ p ∈ r.ins, p.1.length ≤ 1000000) : Sz3 K r.dat := by
  refine ⟨by show 3 ≤ 1000000; omega, fun d hd => ?_⟩
  rcases List.mem_cons.mp hd with rfl | hd
  · exact sz2_w h1
  rcases List.mem_cons.mp hd with rfl | hd
  · refine ⟨by rw [List.length_map]; exact h2, fun d hd => ?_⟩
    obtain ⟨p, hp, rfl⟩ := List.mem_map.mp hd
    exact row_sz (h3 p hp)
  · rw [List.mem_singleton.mp hd]
    exact True.intro
theorem Good.sz {K : PySem.W.Frag} {r : Rule} (G : Good r) : Sz3 K r.dat := rule_sz (by have := G.flag1; omega) (by have := G.many; omega) fun p hp => by have := (G.rows p hp).2.2.1; omega
theorem asc_all : ∀ (a : List Int) (ws : List (List Int)), (∀ (i : Nat) (p q : List Int), (a :: ws)[i]? = some p → (a :: ws)[i + 1]? = some q → HT.lexLt p q = true) → ascGo a ws = true
  | _, [], _ => rfl
  | a, b :: bs, h => by
    show (HT.lexLt a b && ascGo b bs) = true
    rw [h 0 a b rfl rfl, asc_all b bs fun i p q h1 h2 => h (i + 1) p q h1 h2]
    rfl
theorem Good.isRule {r : Rule} (G : Good r) : isRuleD r.dat = true := by
  have h1 : isFull (w r.flag) = true := by rw [isFull_w, G.flag, decide_eq_true G.flag0]; rfl
  have h2 : (r.ins.map rowD).all isIns = true := by
    rw [List.all_map]
    refine List.all_eq_true.mpr fun p hp => ?_
    obtain ⟨a, b, c, d⟩ := G.rows p hp
    show (isFull (w p.1) && isBit (.int p.2)) = true
    rw [isFull_w, a, decide_eq_true b]
    exact d
  have h3 : asc ((r.ins.map rowD).map wordOf) = true := by
    rw [List.map_map]
    have e : r.ins.map (wordOf ∘ rowD) = r.ins.map (·.1) := List.map_congr_left fun p _ => wordOf_row p
    rw [e]
    have o := G.order
    revert o
    generalize r.ins = l
    intro o
    cases l with
    | nil => rfl
    | cons p ps =>
      refine asc_all p.1 (ps.map (·.1)) fun i x y hx hy => ?_
      have hx' : ((p :: ps).map (·.1))[i]? = some x := hx
      have hy' : ((p :: ps).map (·.1))[i + 1]? = some y := hy
      rw [List.getElem?_map] at hx' hy'
      cases ex : (p :: ps)[i]? with
      | none => rw [ex] at hx'; cases hx'
      | some u =>
        cases ey : (p :: ps)[i + 1]? with
        | none => rw [ey] at hy'; cases hy'
        | some v =>
          rw [ex] at hx'
          rw [ey] at hy'
          cases hx'
          cases hy'
          exact o i u v ex ey
  show (isFull (w r.flag) && ((_ && _) && (true && decide (1 ≤ r.chk)))) = true
  rw [h1, h2, h3, decide_eq_true G.chk0]
  rfl
def R_need_rule (xs : List Dat) (y : Dat) : Prop := ∃ r, Good r ∧ xs = [r.dat] ∧ y = .non
theorem len_need_rule {xs : List Dat} {y : Dat} (h : R_need_rule xs y) : xs.length = 1 := by
  obtain ⟨r, _, rfl, _⟩ := h
  rfl
theorem ok_need_rule {f : Addr} {fd : FuncData} (F : Fun K "need_rule" "need_rule" s_need_rule f fd) {f_is_rule : Addr} {d_is_rule : FuncData} (C_is_rule : Cal P w0 K mg base "is_rule" ["value"] 7 (R_is_rule K) f_is_rule d_is_rule) : FnOk P w0 K mg base CX0 8 f fd ["value"] (Pr R_need_rule) := by
  refine fn_pr F sc_need_rule (fun xs y h => len_need_rule h) fun cdv A outer s H E hr => ⟨_, (pss_one (ps_if (pt_not (pt_val (pe_call C_is_rule.ok (hr.mono (by decide)) rfl C_is_rule.at_ C_is_rule.kp C_is_rule.bd .nil pass0 (pa_cons (pv 0) pa_nil)))) (pss_one ps_never) pss_nil)), ?_⟩
  rintro xs y ⟨r, G, rfl, rfl⟩
  exact run_if (b := false) (et_not (a := true) (et_B (ev_is (ev_call (ea_cons (ev_var rfl) ea_nil) ⟨r.dat, rfl, G.sz, rfl⟩) (congrArg Dat.bl G.isRule)))) (fun z => by cases z) fun _ => run_next rfl
def R_need_bits (xs : List Dat) (y : Dat) : Prop := ∃ ns, Wd ns ∧ xs = [w ns] ∧ y = .non
theorem len_need_bits {xs : List Dat} {y : Dat} (h : R_need_bits xs y) : xs.length = 1 := by
  obtain ⟨r, _, rfl, _⟩ := h
  rfl
theorem ok_need_bits {f : Addr} {fd : FuncData} (F : Fun K "need_bits" "need_bits" s_need_bits f fd) {f_is_word : Addr} {d_is_word : FuncData} (C_is_word : Cal P w0 K mg base "is_word" ["value"] 3 (R_is_word K) f_is_word d_is_word) : FnOk P w0 K mg base CX0 4 f fd ["value"] (Pr R_need_bits) := by
  refine fn_pr F sc_need_bits (fun xs y h => len_need_bits h) fun cdv A outer s H E hr => ⟨_, (pss_one (ps_if (pt_not (pt_val (pe_call C_is_word.ok (hr.mono (by decide)) rfl C_is_word.at_ C_is_word.kp C_is_word.bd .nil pass0 (pa_cons (pv 0) pa_nil)))) (pss_one ps_never) pss_nil)), ?_⟩
  rintro xs y ⟨ns, W, rfl, rfl⟩
  refine run_if (b := false) (et_not (a := true) (et_B (ev_is (ev_call (ea_cons (ev_var rfl) ea_nil) ⟨_, rfl, sz_w (by have := W.short; omega), rfl⟩) ?_))) (fun z => by cases z) fun _ => run_next rfl
  rw [isWord_w, W.bits]
end
end Fr

set_option Elab.async false
set_option linter.all false
set_option maxRecDepth 100000
set_option maxHeartbeats 4000000
namespace Fr
open PySem PySem.Spec PyProof.Rows L2
open Evl (Ex)
/-! # a store: lists and instances that change, by their addresses -/
inductive Cell where
  | lst (xs : List Dat) | ins (C dx : Addr) (fs : List (Str × Dat)) | dct (es : List (L2.Key × Dat))
/-- a dict of ints and texts -/
inductive RepsD (H : Hp) : List (L2.Key × V) → List (L2.Key × Dat) → Prop where
  | nil : RepsD H [] []
  | cons {k : L2.Key} {v : V} {d : Dat} {kvs : List (L2.Key × V)} {es : List (L2.Key × Dat)} : Rep H v d → RepsD H kvs es → RepsD H ((k, v) :: kvs) ((k, d) :: es)
theorem RepsD.mono {H H' : Hp} (x : Ex H H') : ∀ {kvs : List (L2.Key × V)} {es : List (L2.Key × Dat)}, RepsD H kvs es → RepsD H' kvs es
  | _, _, .nil => .nil
  | _, _, .cons h r => .cons (h.mono x) (RepsD.mono x r)
abbrev Sto := Addr → Option Cell
def Sto.put (S : Sto) (p : Addr) (c : Cell) : Sto := fun a => if a = p then some c else S a
theorem Sto.put_same {S : Sto} {p : Addr} {c : Cell} : S.put p c p = some c := if_pos rfl
theorem Sto.put_ne {S : Sto} {p a : Addr} {c : Cell} (h : a ≠ p) : S.put p c a = S a := if_neg h
/-- a cell lies in the base's heap, hidden; what it holds is data by now -/
def CellOk (A0 H0 A : Hp) (p : Addr) : Cell → Prop
  | .lst xs => ∃ vs, H0 p = some (.lst vs) ∧ A0 p = none ∧ Reps A vs xs
  | .ins C dx fs => ∃ kvs, H0 p = some (.ins C dx kvs) ∧ A0 p = none ∧ RepsF A kvs fs
  | .dct es => ∃ kvs, H0 p = some (.dK kvs) ∧ A0 p = none ∧ RepsD A kvs es
def StS (S : Sto) (A0 H0 A : Hp) : Prop := ∀ p c, S p = some c → CellOk A0 H0 A p c
theorem CellOk.some {A0 H0 A : Hp} {p : Addr} {c : Cell} (h : CellOk A0 H0 A p c) : ∃ o, H0 p = some o ∧ NT o ∧ A0 p = none := by
  cases c with
  | lst xs =>
    obtain ⟨vs, a, b, _⟩ := h
    exact ⟨_, a, True.intro, b⟩
  | ins C dx fs =>
    obtain ⟨kvs, a, b, _⟩ := h
    exact ⟨_, a, True.intro, b⟩
  | dct es =>
    obtain ⟨kvs, a, b, _⟩ := h
    exact ⟨_, a, True.intro, b⟩
theorem CellOk.at {A0 H0 A A1 H1 B : Hp} {p : Addr} {c : Cell} (h : CellOk A0 H0 A p c) (e : H1 p = H0 p) (n : A1 p = none) (v : Ex A B) : CellOk A1 H1 B p c := by
  cases c with
  | lst xs =>
    obtain ⟨vs, a, b, r⟩ := h
    exact ⟨vs, e.trans a, n, r.mono v⟩
  | ins C dx fs =>
    obtain ⟨kvs, a, b, r⟩ := h
    exact ⟨kvs, e.trans a, n, r.mono v⟩
  | dct es =>
    obtain ⟨kvs, a, b, r⟩ := h
    exact ⟨kvs, e.trans a, n, r.mono v⟩
theorem StS.mono {S : Sto} {A0 H0 A B : Hp} (h : StS S A0 H0 A) (v : Ex A B) : StS S A0 H0 B := fun p c e =>
  (h p c e).at rfl (h p c e).some.choose_spec.2.2 v
/-- how base and store go on -/
structure Evo (S : Sto) (H0 : Hp) (T : Sto) (H1 : Hp) : Prop where
  same : ∀ a, S a = none → T a = none → H1 a = H0 a
  keep : ∀ a, T a = none → S a = none
  new : ∀ a, S a = none → T a ≠ none → H0 a = none
theorem Evo.refl {S : Sto} {H0 : Hp} : Evo S H0 S H0 := ⟨fun _ _ _ => rfl, fun _ h => h, fun _ h n => absurd h n⟩
theorem Evo.trans {S T U : Sto} {H0 H1 H2 : Hp} (a : Evo S H0 T H1) (b : Evo T H1 U H2) : Evo S H0 U H2 := by
  refine ⟨fun x s u => ?_, fun x u => a.keep x (b.keep x u), fun x s u => ?_⟩
  · have t := b.keep x u
    exact (b.same x t u).trans (a.same x s t)
  · cases t : T x with
    | none => exact (a.same x s t).symm.trans (b.new x t u)
    | some c => exact a.new x s (by rw [t]; exact fun z => nomatch z)
theorem Gr.rebase {A0 H0 A H : Hp} (g : Gr A0 H0 A H) : Gr A H0 A H := ⟨g.up, Ex.refl A, g.sub, fun _ _ _ _ h => h⟩
theorem Gr.unbase {A0 H0 A H B H' : Hp} (g : Gr A0 H0 A H) (h : Gr A H0 B H') : Gr A0 H0 B H' := ⟨h.up, g.view.trans h.view, h.sub, fun a o e m n => h.hid a o e m (g.hid a o e m n)⟩
/-- the store, as one who is called finds it -/
theorem StS.enter {S : Sto} {A0 H0 A H : Hp} (h : StS S A0 H0 A) (g : Gr A0 H0 A H) : StS S A H A := fun p c e => by
  obtain ⟨o, h1, nt, h2⟩ := (h p c e).some
  exact (h p c e).at ((g.up p o h1).trans h1.symm) (g.hid p o h1 nt h2) (Ex.refl A)
/-- the base behind a call -/
def back (T : Sto) (H0 H1 : Hp) : Hp := fun a => match T a with
  | some _ => H1 a
  | none => H0 a
theorem back_none {T : Sto} {H0 H1 : Hp} {a : Addr} (h : T a = none) : back T H0 H1 a = H0 a := by unfold back; rw [h]
theorem back_some {T : Sto} {H0 H1 : Hp} {a : Addr} {c : Cell} (h : T a = some c) : back T H0 H1 a = H1 a := by unfold back; rw [h]
section
variable {S T : Sto} {A0 H0 A H H1 B H' : Hp} {σ : L2.St} {γ : Gam}
theorem Evo.leave (g : Gr A0 H0 A H) (e : Evo S H T H1) : Evo S H0 T (back T H0 H1) :=
  ⟨fun a s t => back_none t, e.keep, fun a s t => Evl.fresh_back g.up (e.new a s t)⟩
theorem Gr.leave (g : Gr A0 H0 A H) (e : Evo S H T H1) (b : Gr A H1 B H') (st : StS T A H1 B) : Gr A0 (back T H0 H1) B H' := by
  refine ⟨fun a o h => ?_, g.view.trans b.view, b.sub, fun a o h nt n => ?_⟩
  · cases t : T a with
    | some c =>
      rw [back_some t] at h
      exact b.up a o h
    | none =>
      rw [back_none t] at h
      exact b.up a o ((e.same a (e.keep a t) t).trans (g.up a o h))
  · cases t : T a with
    | some c =>
      rw [back_some t] at h
      exact b.hid a o h nt (st a c t).some.choose_spec.2.2
    | none =>
      rw [back_none t] at h
      exact b.hid a o ((e.same a (e.keep a t) t).trans (g.up a o h)) nt (g.hid a o h nt n)
theorem StS.leave (g : Gr A0 H0 A H) (st : StS T A H1 B) : StS T A0 (back T H0 H1) B := fun p c e => (st p c e).at (back_some e) (by
  have n := (st p c e).some.choose_spec.2.2
  exact Evl.fresh_back g.view n) (Ex.refl B)
theorem Ok.leave (k : Ok H0 A H σ γ) (s : StS S A0 H0 A) (e : Evo S H T H1) (b : Gr A H1 B H') : Ok (back T H0 H1) B H' σ γ := by
  have far : ∀ (l : Addr) (o : HO), NT o → H0 l = none → A l = none → H l = some o → back T H0 H1 l = none ∧ B l = none ∧ H' l = some o := fun l o nt h0 hA h => by
    have sl : S l = none := by
      cases q : S l with
      | none => rfl
      | some c =>
        obtain ⟨o', h1, _⟩ := (s l c q).some
        rw [h0] at h1
        cases h1
    have tl : T l = none := by
      cases q : T l with
      | none => rfl
      | some c =>
        have := e.new l sl (by rw [q]; exact fun z => nomatch z)
        rw [h] at this
        cases this
    have h1 : H1 l = some o := (e.same l sl tl).trans h
    exact ⟨(back_none tl).trans h0, b.hid l o h1 nt hA, b.up l o h1⟩
  refine ⟨b.sub, k.len, fun i x h => ?_, fun i xs h => ?_, fun i es h => ?_, fun i c xs h => ?_, fun i K ns h => ?_, k.sep⟩
  · obtain ⟨v, a, r⟩ := k.get i x h
    exact ⟨v, a, r.mono b.view⟩
  · obtain ⟨l, vs, a, h0, c, d, r⟩ := k.own i xs h
    obtain ⟨x1, x2, x3⟩ := far l (.lst vs) True.intro h0 c d
    exact ⟨l, vs, a, x1, x2, x3, r.mono b.view⟩
  · obtain ⟨l, vs, a, h0, c, d, r⟩ := k.ownD i es h
    obtain ⟨x1, x2, x3⟩ := far l (.dT vs) True.intro h0 c d
    exact ⟨l, vs, a, x1, x2, x3, r.mono b.view⟩
  · obtain ⟨vs, a, h0, c', d, r⟩ := k.bor i c xs h
    obtain ⟨x1, x2, x3⟩ := far c (.lst vs) True.intro h0 c' d
    exact ⟨vs, a, x1, x2, x3, r.mono b.view⟩
  · obtain ⟨a, h1, h2⟩ := k.scr i K ns h
    exact ⟨a, h1, Evl.ex_l b.view h2⟩
end
/-! ## the judgements -/
/-- what holds at a place: base, view, heap, slots, store -/
structure At (A0 H0 A H : Hp) (σ : L2.St) (γ : Gam) (S : Sto) : Prop where
  g : Gr A0 H0 A H
  k : Ok H0 A H σ γ
  s : StS S A0 H0 A
/-- from one place to another one of the same frame -/
structure Way (A0 : Hp) (S : Sto) (H0 A : Hp) (T : Sto) (H1 B : Hp) : Prop where
  e : Evo S H0 T H1
  v : Ex A B
theorem Way.refl {A0 : Hp} {S : Sto} {H0 A : Hp} : Way A0 S H0 A S H0 A := ⟨Evo.refl, Ex.refl A⟩
theorem Way.trans {A0 : Hp} {S T U : Sto} {H0 A H1 B H2 C : Hp} (a : Way A0 S H0 A T H1 B) (b : Way A0 T H1 B U H2 C) : Way A0 S H0 A U H2 C := ⟨a.e.trans b.e, a.v.trans b.v⟩
def RunS (ts : TS) (γ : Gam) (S : Sto) (N : Gam → Sto → Prop) (R : Dat → Sto → Prop) : Prop := ∀ A0 H0 A H σ, At A0 H0 A H σ γ S → ∀ D : Ends,
  (∀ δ T H1 B H' σ', N δ T → Way A0 S H0 A T H1 B → At A0 H1 B H' σ' δ T → D.nx σ' H') →
  (∀ v x T H1 B H', R x T → Way A0 S H0 A T H1 B → Gr A0 H1 B H' → StS T A0 H1 B → Rep B v x → D.rt v H') → ts D σ H
/-- a value, and the store behind it -/
def ExS (te : TE) (γ : Gam) (S : Sto) (P : Dat → Sto → Prop) : Prop := ∀ A0 H0 A H σ, At A0 H0 A H σ γ S → ∀ Q : VK,
  (∀ v x T H1 B H', P x T → Way A0 S H0 A T H1 B → At A0 H1 B H' σ γ T → Rep B v x → Q v H') → te σ H Q
def ExSA (ta : TA) (γ : Gam) (S : Sto) (P : List Dat → Sto → Prop) : Prop := ∀ A0 H0 A H σ, At A0 H0 A H σ γ S → ∀ Q : List V → Hp → Prop,
  (∀ vs xs T H1 B H', P xs T → Way A0 S H0 A T H1 B → At A0 H1 B H' σ γ T → Reps B vs xs → Q vs H') → ta σ H Q
/-- a test, and the store behind it -/
def ExST (tt : TT) (γ : Gam) (S : Sto) (P : Bool → Sto → Prop) : Prop := ∀ A0 H0 A H σ, At A0 H0 A H σ γ S → ∀ Q : Bool → Hp → Prop,
  (∀ b T H1 B H', P b T → Way A0 S H0 A T H1 B → At A0 H1 B H' σ γ T → Q b H') → tt σ H Q
section
variable {K : PySem.W.Frag} {γ δ : Gam} {S T : Sto} {te ta tb : TE} {tr : TA} {tt : TT} {ts tu tw : TS} {x y : Dat} {xs ys : List Dat} {N M : Gam → Sto → Prop} {R : Dat → Sto → Prop} {P : Dat → Sto → Prop} {PA : List Dat → Sto → Prop} {PT : Bool → Sto → Prop} {i : Nat}
theorem At.grow {A0 H0 A H B H' : Hp} {σ : L2.St} (a : At A0 H0 A H σ γ S) (g : Gr A H B H') : At A0 H0 B H' σ γ S := ⟨a.g.trans g, a.k.mono g, a.s.mono g.view⟩
/-- what leaves the store alone -/
theorem run_lift {N' : Gam → Prop} {R' : Dat → Gam → Prop} (h : Run tu γ N' R') (hn : ∀ δ, N' δ → N δ S) (hr : ∀ x δ, R' x δ → R x S) : RunS tu γ S N R := fun A0 H0 A H σ a D dn dr =>
  h A H0 A H σ a.g.rebase a.k D (fun δ B H' σ' n g v k => dn δ S H0 B H' σ' (hn δ n) ⟨Evo.refl, v⟩ ⟨a.g.unbase g, k, a.s.mono v⟩)
    fun v B H' x σ' δ r g k rx => dr v x S H0 B H' (hr x δ r) ⟨Evo.refl, g.view⟩ (a.g.unbase g) (a.s.mono g.view) rx
theorem runS_seq (h : RunS tu γ S M R) (hk : ∀ δ T, M δ T → RunS tw δ T N R) : RunS (tSeq tu tw) γ S N R := fun A0 H0 A H σ a D dn dr =>
  h A0 H0 A H σ a { D with nx := tw D } (fun δ T H1 B H' σ' m w a' => hk δ T m A0 H1 B H' σ' a' D (fun δ2 T2 H2 B2 H3 σ2 n w2 a2 => dn δ2 T2 H2 B2 H3 σ2 n (w.trans w2) a2)
    fun v x T2 H2 B2 H3 r w2 g2 s2 rx => dr v x T2 H2 B2 H3 r (w.trans w2) g2 s2 rx) dr
/-- a statement that leaves the store alone and goes one way on -/
theorem runS_l (h : Run tu γ (fun ε => ε = δ) (fun _ _ => False)) (hk : RunS tw δ S N R) : RunS (tSeq tu tw) γ S N R :=
  runS_seq (M := fun ε U => ε = δ ∧ U = S) (run_lift h (fun _ e => ⟨e, rfl⟩) fun _ _ z => z.elim) fun ε U ⟨e1, e2⟩ => by subst e1 e2; exact hk
theorem runS_next (h : N γ S) : RunS tNext γ S N R := fun A0 H0 A H σ a D dn dr => dn γ S H0 A H σ h Way.refl a
theorem es_of (h : EvD te γ x) (hp : P x S) : ExS te γ S P := fun A0 H0 A H σ a Q q => h H0 A H σ a.k _ fun v B H' g r => q v x S H0 B H' hp ⟨Evo.refl, g.view⟩ (a.grow g) r
theorem esa_nil (h : PA [] S) : ExSA tNil γ S PA := fun A0 H0 A H σ a Q q => q [] [] S H0 A H h Way.refl a .nil
theorem esa_cons (h : ExS te γ S fun x T => ExSA tr γ T fun xs U => PA (x :: xs) U) : ExSA (tCons te tr) γ S PA := fun A0 H0 A H σ a Q q =>
  h A0 H0 A H σ a _ fun v x T H1 B H' hx w a1 r => hx A0 H1 B H' σ a1 _ fun vs xs U H2 C H'' p w2 a2 r2 => q _ _ U H2 C H'' p (w.trans w2) a2 (.cons (r.mono w2.v) r2)
theorem esa_of (h : EvA tr γ xs) (hp : PA xs S) : ExSA tr γ S PA := fun A0 H0 A H σ a Q q => h H0 A H σ a.k _ fun v B H' g r => q v xs S H0 B H' hp ⟨Evo.refl, g.view⟩ (a.grow g) r
theorem est_of {b : Bool} (h : EvT tt γ b) (hp : PT b S) : ExST tt γ S PT := fun A0 H0 A H σ a Q q => h H0 A H σ a.k _ fun B H' g => q b S H0 B H' hp ⟨Evo.refl, g.view⟩ (a.grow g)
theorem ExS.weak {P' : Dat → Sto → Prop} (h : ExS te γ S P) (hp : ∀ x T, P x T → P' x T) : ExS te γ S P' := fun A0 H0 A H σ a Q q => h A0 H0 A H σ a Q fun v x T H1 B H' p => q v x T H1 B H' (hp x T p)
theorem runS_asg (h : ExS te γ S fun x T => N (γ.set i (.d x)) T) : RunS (tAsg te (gName i)) γ S N R := fun A0 H0 A H σ a D dn dr =>
  h A0 H0 A H σ a _ fun v x T H1 B H' n w a1 r => dn _ T H1 B H' _ n w ⟨a1.g, a1.k.setD r i, a1.s⟩
theorem runS_drop (h : ExS te γ S fun _ T => N γ T) : RunS (tDrop te) γ S N R := fun A0 H0 A H σ a D dn dr => h A0 H0 A H σ a _ fun v x T H1 B H' n w a1 r => dn γ T H1 B H' σ n w a1
theorem runS_ret (h : ExS te γ S R) : RunS (tRet te) γ S N R := fun A0 H0 A H σ a D dn dr => h A0 H0 A H σ a _ fun v x T H1 B H' p w a1 r => dr v x T H1 B H' p w a1.g a1.s r
theorem runS_if (h : ExST tt γ S fun b T => (b = true → RunS tu γ T N R) ∧ (b = false → RunS tw γ T N R)) : RunS (tIfS tt tu tw) γ S N R := fun A0 H0 A H σ a D dn dr =>
  h A0 H0 A H σ a _ fun b T H1 B H' p w a1 => by
    have dn' : ∀ δ U H2 C H3 σ', N δ U → Way A0 T H1 B U H2 C → At A0 H2 C H3 σ' δ U → D.nx σ' H3 := fun δ U H2 C H3 σ' n w2 a2 => dn δ U H2 C H3 σ' n (w.trans w2) a2
    have dr' : ∀ v x U H2 C H3, R x U → Way A0 T H1 B U H2 C → Gr A0 H2 C H3 → StS U A0 H2 C → Rep C v x → D.rt v H3 := fun v x U H2 C H3 r w2 g2 s2 rx => dr v x U H2 C H3 r (w.trans w2) g2 s2 rx
    cases b with
    | true => exact p.1 rfl A0 H1 B H' σ a1 D dn' dr'
    | false => exact p.2 rfl A0 H1 B H' σ a1 D dn' dr'
theorem RunS.weak {N' : Gam → Sto → Prop} {R' : Dat → Sto → Prop} (h : RunS tu γ S N R) (hn : ∀ δ T, N δ T → N' δ T) (hr : ∀ x T, R x T → R' x T) : RunS tu γ S N' R' := fun A0 H0 A H σ a D dn dr =>
  h A0 H0 A H σ a D (fun δ T H1 B H' σ' n => dn δ T H1 B H' σ' (hn δ T n)) fun v x T H1 B H' r => dr v x T H1 B H' (hr x T r)
end
end Fr

set_option Elab.async false
set_option linter.all false
set_option maxRecDepth 100000
set_option maxHeartbeats 4000000
namespace Fr
open PySem PySem.Spec PyProof.Rows L2
open Evl (Ex)
/-! # what changes a store -/
section
variable {S T : Sto} {A0 H0 A H H1 B H' : Hp} {σ : L2.St} {γ : Gam}
theorem At.leave (a : At A0 H0 A H σ γ S) (e : Evo S H T H1) (b : Gr A H1 B H') (st : StS T A H1 B) : At A0 (back T H0 H1) B H' σ γ T ∧ Way A0 S H0 A T (back T H0 H1) B :=
  ⟨⟨a.g.leave e b st, a.k.leave a.s e b, StS.leave a.g st⟩, ⟨e.leave a.g, b.view⟩⟩
theorem At.cell {p : Addr} {c : Cell} (a : At A0 H0 A H σ γ S) (e : S p = some c) : CellOk A H A p c := a.s.enter a.g p c e
/-- a cell changes -/
theorem At.put {p : Addr} {c c' : Cell} {o : HO} (a : At A0 H0 A H σ γ S) (e : S p = some c) (hc : ∀ H1 : Hp, H1 p = some o → CellOk A H1 A p c') :
    ∃ H2, At A0 H2 A (upd H p o) σ γ (S.put p c') ∧ Way A0 S H0 A (S.put p c') H2 A := by
  obtain ⟨o', h1, nt, n⟩ := (a.cell e).some
  have ev : Evo S H (S.put p c') (upd H p o) := ⟨fun x s t => by
      have ne : x ≠ p := fun z => by rw [z, Sto.put_same] at t; cases t
      exact upd_ne ne, fun x t => by
      have ne : x ≠ p := fun z => by rw [z, Sto.put_same] at t; cases t
      rw [Sto.put_ne ne] at t
      exact t, fun x s t => by
      by_cases q : x = p
      · rw [q, e] at s
        cases s
      · rw [Sto.put_ne q] at t
        exact absurd s t⟩
  have st : StS (S.put p c') A (upd H p o) A := fun x d q => by
    by_cases z : x = p
    · subst z
      rw [Sto.put_same] at q
      cases q
      exact hc _ upd_same
    · rw [Sto.put_ne z] at q
      obtain ⟨_, _, _, n'⟩ := (a.cell q).some
      exact (a.cell q).at (upd_ne z) n' (Ex.refl A)
  exact ⟨_, a.leave ev (Gr.refl (a.g.sub.mut n)) st⟩
/-- a new object becomes a cell -/
theorem At.new {p : Addr} {c : Cell} {o : HO} (a : At A0 H0 A H σ γ S) (hH : H p = some o) (h0 : H0 p = none) (hA : A p = none) (hf : ∀ (i : Nat) (s : Slot), γ[i]? = some s → s.mine = true → σ[i]? ≠ some (some (V.ref p))) (hc : ∀ H1 : Hp, H1 p = some o → ∀ A1 : Hp, A1 p = none → CellOk A1 H1 A p c) :
    ∃ H2, At A0 H2 A H σ γ (S.put p c) ∧ Way A0 S H0 A (S.put p c) H2 A := by
  have sp : S p = none := by
    cases q : S p with
    | none => rfl
    | some d =>
      obtain ⟨o', h1, _⟩ := (a.s p d q).some
      rw [h0] at h1
      cases h1
  have aN : A0 p = none := Evl.fresh_back a.g.view hA
  have e0 : ∀ x, x ≠ p → upd H0 p o x = H0 x := fun x n => upd_ne n
  refine ⟨upd H0 p o, ⟨⟨fun x u e => ?_, a.g.view, a.g.sub, fun x u e nt n => ?_⟩, ?_, fun x d q => ?_⟩, ⟨⟨fun x s t => ?_, fun x t => ?_, fun x s t => ?_⟩, Ex.refl A⟩⟩
  · by_cases z : x = p
    · subst z
      rw [upd_same] at e
      rw [hH]
      exact e
    · rw [upd_ne z] at e
      exact a.g.up x u e
  · by_cases z : x = p
    · subst z
      exact hA
    · rw [upd_ne z] at e
      exact a.g.hid x u e nt n
  · have k := a.k
    have nep : ∀ (i : Nat) (s : Slot) (l : Addr), γ[i]? = some s → s.mine = true → σ[i]? = some (some (V.ref l)) → l ≠ p := fun i s l h m e z => hf i s h m (by rw [e, z])
    refine ⟨k.sub, k.len, k.get, fun i xs h => ?_, fun i es h => ?_, fun i c xs h => ?_, k.scr, k.sep⟩
    · obtain ⟨l, vs, x1, x2, x3⟩ := k.own i xs h
      exact ⟨l, vs, x1, by rw [e0 l (nep i _ l h rfl x1)]; exact x2, x3⟩
    · obtain ⟨l, vs, x1, x2, x3⟩ := k.ownD i es h
      exact ⟨l, vs, x1, by rw [e0 l (nep i _ l h rfl x1)]; exact x2, x3⟩
    · obtain ⟨vs, x1, x2, x3⟩ := k.bor i c xs h
      exact ⟨vs, x1, by rw [e0 c (nep i _ c h rfl x1)]; exact x2, x3⟩
  · by_cases z : x = p
    · subst z
      rw [Sto.put_same] at q
      cases q
      exact hc _ upd_same _ aN
    · rw [Sto.put_ne z] at q
      have w := a.s x d q
      exact w.at (upd_ne z) w.some.choose_spec.2.2 (Ex.refl A)
  · have ne : x ≠ p := fun z => by rw [z, Sto.put_same] at t; cases t
    exact upd_ne ne
  · have ne : x ≠ p := fun z => by rw [z, Sto.put_same] at t; cases t
    rw [Sto.put_ne ne] at t
    exact t
  · by_cases z : x = p
    · subst z
      exact h0
    · rw [Sto.put_ne z] at t
      exact absurd s t
theorem At.far (a : At A0 H0 A H σ γ S) {p : Addr} (h : H p = none) : ∀ (i : Nat) (s : Slot), γ[i]? = some s → s.mine = true → σ[i]? ≠ some (some (V.ref p)) := fun i s hi m e => by
  obtain ⟨l, o, e2, _, _, e3⟩ := a.k.addr hi m
  rw [e2] at e
  cases e
  rw [h] at e3
  cases e3
end
theorem RepsF.at {A : Hp} {f : Str} {x : Dat} : ∀ {kvs : List (Str × V)} {fs : List (Str × Dat)}, RepsF A kvs fs → fs.lookup f = some x → ∃ v, kvs.lookup f = some v ∧ Rep A v x
  | _, _, .nil, h => nomatch h
  | _, _, @RepsF.cons _ g u d us ds a b, h => by
    by_cases q : f = g
    · subst q
      rw [List.lookup_cons_self] at h ⊢
      cases h
      exact ⟨u, rfl, a⟩
    · have e : (f == g) = false := by simp [q]
      simp only [List.lookup, e] at h ⊢
      exact RepsF.at b h
theorem RepsF.no {A : Hp} {f : Str} : ∀ {kvs : List (Str × V)} {fs : List (Str × Dat)}, RepsF A kvs fs → fs.lookup f = none → kvs.lookup f = none
  | _, _, .nil, h => rfl
  | _, _, @RepsF.cons _ g u d us ds a b, h => by
    by_cases q : f = g
    · subst q
      rw [List.lookup_cons_self] at h
      cases h
    · have e : (f == g) = false := by simp [q]
      simp only [List.lookup, e] at h ⊢
      exact RepsF.no b h
/-- what a def with a store promises: Pre says which posts hold -/
def PrM (Pre : Sto → List Dat → (Dat → Sto → Prop) → Prop) : Sp := fun vs H Q _ => ∃ A S xs P, Ex A H ∧ Reps A vs xs ∧ StS S A H A ∧ Pre S xs P ∧ ∀ y T B H1 H' v, P y T → Evo S H T H1 → Gr A H1 B H' → StS T A H1 B → Rep B v y → Q v H'
section
variable {K : PySem.W.Frag} {γ δ : Gam} {S T : Sto} {te ta tb : TE} {tr : TA} {tt : TT} {ts tu tw : TS} {x y : Dat} {xs ys : List Dat} {N M : Gam → Sto → Prop} {R : Dat → Sto → Prop} {P : Dat → Sto → Prop} {i : Nat} {C : Addr} {f m : Str}
/-- o.f -/
theorem es_fld (h : ExS ta γ S fun x T => ∃ p dx fs y, x = .hnd p ∧ T p = some (.ins C dx fs) ∧ Cls K C ∧ NoAttr K C f ∧ fs.lookup f = some y ∧ P y T) : ExS (tFld K ta f) γ S P := fun A0 H0 A H σ a Q q =>
  h A0 H0 A H σ a _ fun v x T H1 B H' ⟨p, dx, fs, y, e, ep, c, n, l, py⟩ w a1 r => by
    subst e
    cases r
    obtain ⟨kvs, h1, hn, rf⟩ := a1.cell ep
    obtain ⟨u, lu, ru⟩ := RepsF.at rf l
    exact ⟨p, C, dx, kvs, u, rfl, h1, c, n, lu, q u y T H1 B H' py w a1 ru⟩
/-- o.f = e -/
theorem runS_fld (h : ExS te γ S fun y T => ExS ta γ T fun x U => ∃ p dx fs, x = .hnd p ∧ U p = some (.ins C dx fs) ∧ Cls K C ∧ NoAttr K C f ∧ fs.length < 1000 ∧ N γ (U.put p (.ins C dx (putD f y fs)))) : RunS (sFld K ta te f) γ S N R := fun A0 H0 A H σ a D dn dr =>
  h A0 H0 A H σ a _ fun v y T H1 B H' hy w a1 ry => hy A0 H1 B H' σ a1 _ fun vx x U H2 C' H'' ⟨p, dx, fs, e, ep, c, n, l, hN⟩ w2 a2 rx => by
    subst e
    cases rx
    obtain ⟨kvs, h1, hn, rf⟩ := a2.cell ep
    refine ⟨p, C, dx, kvs, rfl, h1, c, n, by rw [rf.len]; exact l, ?_⟩
    obtain ⟨H3, a3, w3⟩ := a2.put (o := .ins C dx (putF f v kvs)) (c' := .ins C dx (putD f y fs)) ep fun Hn e => ⟨_, e, hn, RepsF.put (ry.mono w2.v) rf⟩
    exact dn γ _ H3 C' _ σ hN ((w.trans w2).trans w3) a3
/-- o.f = a new list -/
theorem runS_fldN (h : EvN te γ xs) (hx : ∀ l, S l = none → ExS ta γ (S.put l (.lst xs)) fun x U => ∃ p dx fs, x = .hnd p ∧ U p = some (.ins C dx fs) ∧ Cls K C ∧ NoAttr K C f ∧ fs.length < 1000 ∧ N γ (U.put p (.ins C dx (putD f (.hnd l) fs)))) : RunS (sFld K ta te f) γ S N R := fun A0 H0 A H σ a D dn dr =>
  h H0 A H σ a.k _ fun l vs B H1 g1 hl hB h1 r1 => by
    have a1 := a.grow g1
    have l0 : H0 l = none := Evl.fresh_back a.g.up hl
    have far : ∀ (i : Nat) (s : Slot), γ[i]? = some s → s.mine = true → σ[i]? ≠ some (some (V.ref l)) := a.far hl
    obtain ⟨H2, a2, w2⟩ := a1.new (c := .lst xs) h1 l0 hB far fun Hn e An n => ⟨vs, e, n, r1⟩
    have sl : S l = none := by
      cases q : S l with
      | none => rfl
      | some d =>
        obtain ⟨o', e1, _⟩ := (a.s l d q).some
        rw [l0] at e1
        cases e1
    have w1 : Way A0 S H0 A S H0 B := ⟨Evo.refl, g1.view⟩
    refine hx l sl A0 H2 B H1 σ a2 _ fun vx x U H3 C' H'' ⟨p, dx, fs, e, ep, c, n, lf, hN⟩ w3 a3 rx => ?_
    subst e
    cases rx
    obtain ⟨kvs, e1, hn, rf⟩ := a3.cell ep
    refine ⟨p, C, dx, kvs, rfl, e1, c, n, by rw [rf.len]; exact lf, ?_⟩
    obtain ⟨H4, a4, w4⟩ := a3.put (o := .ins C dx (putF f (.ref l) kvs)) (c' := .ins C dx (putD f (.hnd l) fs)) ep fun Hn e => ⟨_, e, hn, RepsF.put (.hnd l) rf⟩
    exact dn γ _ H4 C' _ σ hN (((w1.trans w2).trans w3).trans w4) a4
/-- l.append(e) -/
theorem runS_app (h : ExS ta γ S fun x T => ∃ l ys, x = .hnd l ∧ T l = some (.lst ys) ∧ ExS te γ T fun y U => ∃ xs, U l = some (.lst xs) ∧ xs.length < sizeLine ∧ N γ (U.put l (.lst (xs ++ [y])))) : RunS (tDrop (tBM K "list" rAppend ta (tCons te tNil))) γ S N R := fun A0 H0 A H σ a D dn dr =>
  h A0 H0 A H σ a _ fun v x T H1 B H' ⟨l, ys, e, el, hy⟩ w a1 r => by
    subst e
    cases r
    obtain ⟨us, h1, _, _⟩ := a1.cell el
    refine ⟨.inl ⟨rfl, us, SqL.of h1⟩, hy A0 H1 B H' σ a1 _ fun v2 y U H2 C' H'' ⟨xs, eu, hz, hN⟩ w2 a2 r2 => ?_⟩
    obtain ⟨vs, h2, hn, rs⟩ := a2.cell eu
    refine ⟨l, vs, v2, rfl, rfl, h2, by rw [rs.len]; exact hz, ?_⟩
    obtain ⟨H3, a3, w3⟩ := a2.put (o := .lst (vs ++ [v2])) (c' := .lst (xs ++ [y])) eu fun Hn e => ⟨_, e, hn, rs.app (Reps.one r2)⟩
    exact dn γ _ H3 C' _ σ hN ((w.trans w2).trans w3) a3
/-- f(e, ..) -/
theorem es_call {Pre : Sto → List Dat → (Dat → Sto → Prop) → Prop} {E : XK} (h : ExSA tr γ S fun xs T => Pre T xs P) : ExS (tCall (PrM Pre) [] E tr) γ S P := fun A0 H0 A H σ a Q q =>
  h A0 H0 A H σ a _ fun vs xs T H1 B H' hp w a1 r => ⟨B, T, xs, P, a1.g.sub, by rw [List.append_nil]; exact r, a1.s.enter a1.g, hp, fun y U C' H2 H3 v py ev g st rv => by
    obtain ⟨a2, w2⟩ := a1.leave ev g st
    exact q v y U _ C' H3 py (w.trans w2) a2 rv⟩
/-- o.m(e, ..) -/
theorem es_meth {Pre : Sto → List Dat → (Dat → Sto → Prop) → Prop} {E : XK} (h : ExS ta γ S fun x T => ∃ p dx fs, x = .hnd p ∧ T p = some (.ins C dx fs) ∧ fs.lookup m = none ∧ ExSA tr γ T fun xs U => Pre U (.hnd p :: xs) P) : ExS (tMeth C m (PrM Pre) [] E ta tr) γ S P := fun A0 H0 A H σ a Q q =>
  h A0 H0 A H σ a _ fun v x T H1 B H' ⟨p, dx, fs, e, ep, l, hx⟩ w a1 r => by
    subst e
    cases r
    obtain ⟨kvs, h1, hn, rf⟩ := a1.cell ep
    refine ⟨p, dx, kvs, rfl, h1, RepsF.no rf l, hx A0 H1 B H' σ a1 _ fun vs xs U H2 C' H'' hp w2 a2 r2 => ?_⟩
    refine ⟨C', U, .hnd p :: xs, P, a2.g.sub, by rw [List.append_nil]; exact .cons (.hnd p) r2, a2.s.enter a2.g, hp, fun y V' D' H3 H4 v py ev g st rv => ?_⟩
    obtain ⟨a3, w3⟩ := a2.leave ev g st
    exact q v y V' _ D' H4 py ((w.trans w2).trans w3) a3 rv
/-- o.p, a property that leaves the store or changes it -/
theorem es_prop {Pre : Sto → List Dat → (Dat → Sto → Prop) → Prop} {E : XK} (h : ExS ta γ S fun x T => ∃ p dx fs, x = .hnd p ∧ T p = some (.ins C dx fs) ∧ Pre T [.hnd p] P) : ExS (tProp C (PrM Pre) [] E ta) γ S P := fun A0 H0 A H σ a Q q =>
  h A0 H0 A H σ a _ fun v x T H1 B H' ⟨p, dx, fs, e, ep, hp⟩ w a1 r => by
    subst e
    cases r
    obtain ⟨kvs, h1, hn, rf⟩ := a1.cell ep
    refine ⟨p, dx, kvs, rfl, h1, B, T, [.hnd p], P, a1.g.sub, .cons (.hnd p) .nil, a1.s.enter a1.g, hp, fun y V' D' H3 H4 v py ev g st rv => ?_⟩
    obtain ⟨a3, w3⟩ := a1.leave ev g st
    exact q v y V' _ D' H4 py (w.trans w3) a3 rv
end
section
variable {P : Program} {w0 : World} {K : PySem.W.Frag} {mg : Str → Option Value} {base : Heap}
theorem fn_prM {x qual : Str} {st : Stmt} {f : Addr} {fd : FuncData} {N ps : List Str} {k : Nat} {Pre : Sto → List Dat → (Dat → Sto → Prop) → Prop} (F : Fun K x qual st f fd) (S : FnScope N ps (defScope st)) (hlen : ∀ S xs P, Pre S xs P → xs.length = ps.length)
    (hbody : ∀ (cdv : Value) (A : Around) (outer : List PySem.Env) (s : Shared) (H : Hp) (E : XK), Room k (A.deeper (envOfC qual (defScope st) s.heap.objs.size f cdv)) →
      ∃ t, PSs (cxOf CX0 P w0 K mg base N qual (defScope st) f cdv A outer s H E).nox (defBody st) t ∧ ∀ S xs P, Pre S xs P → RunS t (entry N xs) S (fun _ T => P .non T) P) : FnOk P w0 K mg base CX0 (k + 1) f fd ps (PrM Pre) := by
  refine F.ok S (fun vs H Q E h => ?_) fun cdv A outer s H vs Q E hr h => ?_
  · obtain ⟨A, S, xs, P, _, r, _, hp, _⟩ := h
    rw [r.len]
    exact hlen S xs P hp
  · obtain ⟨B, S, xs, P, sub, r, st, hp, q⟩ := h
    obtain ⟨t, h1, h2⟩ := hbody cdv A outer s H E hr
    refine ⟨t, h1, h2 S xs P hp B H B H _ ⟨Gr.refl sub, ok_entry sub N r, st⟩ _ (fun δ T H1 C H' σ' hn w a => ?_) fun v x T H1 C H' hx w g s2 rx => ?_⟩
    · exact q .non T C H1 H' .non hn w.e a.g a.s .non
    · exact q x T C H1 H' v hx w.e g s2 rx
end
end Fr

set_option Elab.async false
set_option linter.all false
set_option maxRecDepth 100000
set_option maxHeartbeats 4000000
namespace Fr
open PySem PySem.Spec PyProof.Rows L2
open Evl (Ex)
/-! # a store that is read: its cells are shown for a while -/
/-- data whose values hold no list, dict or instance -/
inductive Flat : Dat → Prop where
  | non : Flat .non
  | bl (b : Bool) : Flat (.bl b)
  | int (i : Int) : Flat (.int i)
  | str (x : Str) : Flat (.str x)
  | hnd (p : Addr) : Flat (.hnd p)
  | tup {ds : List Dat} : (∀ d ∈ ds, Flat d) → Flat (.tup ds)
section
variable {B C : Hp} (keep : ∀ a xs, B a = some (.tup xs) → C a = some (.tup xs))
include keep
mutual
theorem Rep.flat : ∀ {v : V} {d : Dat}, Rep B v d → Flat d → Rep C v d
  | _, _, .non, _ => .non
  | _, _, .bl b, _ => .bl b
  | _, _, .int i, _ => .int i
  | _, _, .str x, _ => .str x
  | _, _, .hnd p, _ => .hnd p
  | _, _, .tup h r, .tup f => .tup (keep _ _ h) (Reps.flat r f)
theorem Reps.flat : ∀ {vs : List V} {ds : List Dat}, Reps B vs ds → (∀ d ∈ ds, Flat d) → Reps C vs ds
  | _, _, .nil, _ => .nil
  | _, _, .cons h r, f => .cons (Rep.flat h (f _ List.mem_cons_self)) (Reps.flat r fun d hd => f d (List.mem_cons_of_mem _ hd))
end
end
theorem flat_w (ns : List Int) : Flat (w ns) := .tup fun d hd => by
  obtain ⟨i, _, rfl⟩ := List.mem_map.mp hd
  exact .int i
def noHp : Hp := fun _ => none
open Classical in
noncomputable def shown (D : Addr → Prop) (H A : Hp) : Hp := fun a => if D a then H a else A a
open Classical in
noncomputable def unshown (D : Addr → Prop) (B : Hp) : Hp := fun a => if D a then none else B a
section
variable {D : Addr → Prop} {S : Sto} {A0 H0 A H B H' : Hp} {σ : L2.St} {γ γ' : Gam} {a : Addr}
theorem shown_y (h : D a) : shown D H A a = H a := by unfold shown; rw [if_pos h]
theorem shown_n (h : ¬ D a) : shown D H A a = A a := by unfold shown; rw [if_neg h]
theorem unshown_y (h : D a) : unshown D B a = none := by unfold unshown; rw [if_pos h]
theorem unshown_n (h : ¬ D a) : unshown D B a = B a := by unfold unshown; rw [if_neg h]
/-- what is shown is in the store -/
theorem At.hidden (t : At A0 H0 A H σ γ S) (hD : ∀ a, D a → S a ≠ none) (h : D a) : ∃ o, H a = some o ∧ NT o ∧ A a = none ∧ H0 a ≠ none := by
  cases q : S a with
  | none => exact absurd q (hD a h)
  | some c =>
    obtain ⟨o, h1, nt, n⟩ := (t.cell q).some
    obtain ⟨o2, h2, _⟩ := (t.s a c q).some
    exact ⟨o, h1, nt, n, by rw [h2]; exact fun z => nomatch z⟩
theorem shown_ex (t : At A0 H0 A H σ γ S) (hD : ∀ a, D a → S a ≠ none) : Ex A (shown D H A) := fun x u e => by
  by_cases q : D x
  · obtain ⟨_, _, _, n, _⟩ := t.hidden hD q
    rw [n] at e
    cases e
  · rw [shown_n q]
    exact e
theorem shown_sub (t : At A0 H0 A H σ γ S) : Ex (shown D H A) H := fun x u e => by
  by_cases q : D x
  · rw [shown_y q] at e
    exact e
  · rw [shown_n q] at e
    exact t.k.sub x u e
theorem At.unshow (t : At A0 H0 A H σ γ S) (hD : ∀ a, D a → S a ≠ none) (g : Gr (shown D H A) H B H') : Gr A H (unshown D B) H' ∧ ∀ x xs, B x = some (.tup xs) → unshown D B x = some (.tup xs) := by
  refine ⟨⟨g.up, fun x u e => ?_, fun x u e => ?_, fun x u e nt n => ?_⟩, fun x xs e => ?_⟩
  · by_cases q : D x
    · obtain ⟨_, _, _, n, _⟩ := t.hidden hD q
      rw [n] at e
      cases e
    · rw [unshown_n q]
      exact g.view x u (by rw [shown_n q]; exact e)
  · by_cases q : D x
    · rw [unshown_y q] at e
      cases e
    · rw [unshown_n q] at e
      exact g.sub x u e
  · by_cases q : D x
    · exact unshown_y q
    · rw [unshown_n q]
      exact g.hid x u e nt (by rw [shown_n q]; exact n)
  · by_cases q : D x
    · obtain ⟨o, h1, nt, _⟩ := t.hidden hD q
      have := g.view x o (by rw [shown_y q]; exact h1)
      rw [e] at this
      cases this
      exact nt.elim
    · rw [unshown_n q]
      exact e
/-- the slots, some of them seen otherwise -/
def Sees (D : Addr → Prop) (S : Sto) (γ γ' : Gam) : Prop := ∀ A0 H0 A H σ, At A0 H0 A H σ γ S → Ok H0 (shown D H A) H σ γ → Ok noHp (shown D H A) H σ γ'
theorem At.shownOk (t : At A0 H0 A H σ γ S) (hD : ∀ a, D a → S a ≠ none) : Ok H0 (shown D H A) H σ γ := by
  have k := t.k
  have v := shown_ex t hD
  have nl : ∀ l, H0 l = none → A l = none → shown D H A l = none := fun l h0 hA => by
    by_cases q : D l
    · obtain ⟨_, _, _, _, n⟩ := t.hidden hD q
      exact absurd h0 n
    · rw [shown_n q]
      exact hA
  refine ⟨shown_sub t, k.len, fun i x h => ?_, fun i xs h => ?_, fun i es h => ?_, fun i c xs h => ?_, fun i K ns h => ?_, k.sep⟩
  · obtain ⟨u, e, r⟩ := k.get i x h
    exact ⟨u, e, r.mono v⟩
  · obtain ⟨l, vs, x1, x2, x3, x4, x5⟩ := k.own i xs h
    exact ⟨l, vs, x1, x2, nl l x2 x3, x4, x5.mono v⟩
  · obtain ⟨l, vs, x1, x2, x3, x4, x5⟩ := k.ownD i es h
    exact ⟨l, vs, x1, x2, nl l x2 x3, x4, x5.mono v⟩
  · obtain ⟨vs, x1, x2, x3, x4, x5⟩ := k.bor i c xs h
    exact ⟨vs, x1, x2, nl c x2 x3, x4, x5.mono v⟩
  · obtain ⟨b, h1, h2⟩ := k.scr i K ns h
    exact ⟨b, h1, Evl.ex_l v h2⟩
theorem Ok.noBase (k : Ok H0 A H σ γ) : Ok noHp A H σ γ := by
  refine ⟨k.sub, k.len, k.get, fun i xs h => ?_, fun i es h => ?_, fun i c xs h => ?_, k.scr, k.sep⟩
  · obtain ⟨l, vs, x1, x2, x3⟩ := k.own i xs h
    exact ⟨l, vs, x1, rfl, x3⟩
  · obtain ⟨l, vs, x1, x2, x3⟩ := k.ownD i es h
    exact ⟨l, vs, x1, rfl, x3⟩
  · obtain ⟨vs, x1, x2, x3⟩ := k.bor i c xs h
    exact ⟨vs, x1, rfl, x3⟩
end
section
variable {K : PySem.W.Frag} {D : Addr → Prop} {γ γ' : Gam} {S : Sto} {te : TE} {tt : TT} {tr : TA} {y : Dat} {ys : List Dat} {P : Dat → Sto → Prop} {PT : Bool → Sto → Prop} {PL : List Dat → Sto → Prop}
theorem es_view (hD : ∀ a, D a → S a ≠ none) (hs : Sees D S γ γ') (h : EvD te γ' y) (fl : Flat y) (hp : P y S) : ExS te γ S P := fun A0 H0 A H σ t Q q =>
  h noHp (shown D H A) H σ (hs A0 H0 A H σ t (t.shownOk hD)) _ fun v B H' g r => by
    obtain ⟨g2, kp⟩ := t.unshow hD g
    exact q v y S H0 _ H' hp ⟨Evo.refl, g2.view⟩ (t.grow g2) (r.flat kp fl)
theorem esa_view (hD : ∀ a, D a → S a ≠ none) (hs : Sees D S γ γ') (h : EvA tr γ' ys) (fl : ∀ y ∈ ys, Flat y) (hp : PL ys S) : ExSA tr γ S PL := fun A0 H0 A H σ t Q q =>
  h noHp (shown D H A) H σ (hs A0 H0 A H σ t (t.shownOk hD)) _ fun v B H' g r => by
    obtain ⟨g2, kp⟩ := t.unshow hD g
    exact q v ys S H0 _ H' hp ⟨Evo.refl, g2.view⟩ (t.grow g2) (Reps.flat kp r fl)
theorem est_view {b : Bool} (hD : ∀ a, D a → S a ≠ none) (hs : Sees D S γ γ') (h : EvT tt γ' b) (hp : PT b S) : ExST tt γ S PT := fun A0 H0 A H σ t Q q =>
  h noHp (shown D H A) H σ (hs A0 H0 A H σ t (t.shownOk hD)) _ fun B H' g => by
    obtain ⟨g2, kp⟩ := t.unshow hD g
    exact q b S H0 _ H' hp ⟨Evo.refl, g2.view⟩ (t.grow g2)
/-- a new list of flat data: from here on it is data that stands still -/
theorem es_viewL (hD : ∀ a, D a → S a ≠ none) (hs : Sees D S γ γ') (h : EvN te γ' ys) (fl : ∀ y ∈ ys, Flat y) (hp : P (.lst ys) S) : ExS te γ S P := fun A0 H0 A H σ t Q q =>
  h noHp (shown D H A) H σ (hs A0 H0 A H σ t (t.shownOk hD)) _ fun l us B H' g hl hB h1 r => by
    obtain ⟨g2, kp⟩ := t.unshow hD g
    have hB2 : unshown D B l = none := by
      by_cases q : D l
      · exact unshown_y q
      · rw [unshown_n q]
        exact hB
    have g3 := g2.show h1 hl hB2
    exact q _ _ S H0 _ H' hp ⟨Evo.refl, g3.view⟩ (t.grow g3) (.lst upd_same ((Reps.flat kp r fl).mono (Ex.new hB2)))
/-- a new list of flat data: from here on it is a cell -/
theorem es_viewN (hD : ∀ a, D a → S a ≠ none) (hs : Sees D S γ γ') (h : EvN te γ' ys) (fl : ∀ y ∈ ys, Flat y) (hp : ∀ l, S l = none → P (.hnd l) (S.put l (.lst ys))) : ExS te γ S P := fun A0 H0 A H σ t Q q =>
  h noHp (shown D H A) H σ (hs A0 H0 A H σ t (t.shownOk hD)) _ fun l us B H' g hl hB h1 r => by
    obtain ⟨g2, kp⟩ := t.unshow hD g
    have hB2 : unshown D B l = none := by
      by_cases q : D l
      · exact unshown_y q
      · rw [unshown_n q]
        exact hB
    have l0 : H0 l = none := Evl.fresh_back t.g.up hl
    have sl : S l = none := by
      cases q : S l with
      | none => rfl
      | some d =>
        obtain ⟨o', e1, _⟩ := (t.s l d q).some
        rw [l0] at e1
        cases e1
    obtain ⟨H2, t2, w2⟩ := (t.grow g2).new (c := .lst ys) h1 l0 hB2 (t.far hl) fun Hn e An n => ⟨us, e, n, Reps.flat kp r fl⟩
    exact q _ _ _ H2 _ H' (hp l sl) ⟨w2.e, g2.view⟩ t2 (.hnd l)
/-- the fields of an instance, its lists shown -/
inductive Frz (S : Sto) (D : Addr → Prop) : List (Str × Dat) → List (Str × Dat) → Prop where
  | nil : Frz S D [] []
  | keep {n : Str} {x : Dat} {fs gs : List (Str × Dat)} : Frz S D fs gs → Frz S D ((n, x) :: fs) ((n, x) :: gs)
  | list {n : Str} {l : Addr} {xs : List Dat} {fs gs : List (Str × Dat)} : D l → S l = some (.lst xs) → Frz S D fs gs → Frz S D ((n, .hnd l) :: fs) ((n, .lst xs) :: gs)
theorem Frz.rep {A0 H0 A H : Hp} {σ : L2.St} (t : At A0 H0 A H σ γ S) (hD : ∀ a, D a → S a ≠ none) : ∀ {fs gs : List (Str × Dat)} {kvs : List (Str × V)}, Frz S D fs gs → RepsF A kvs fs → RepsF (shown D H A) kvs gs
  | _, _, _, .nil, .nil => .nil
  | _, _, _, .keep z, .cons r rs => .cons (r.mono (shown_ex t hD)) (Frz.rep t hD z rs)
  | _, _, _, .list d e z, .cons r rs => by
    cases r
    obtain ⟨vs, h1, _, r1⟩ := t.cell e
    exact .cons (.lst (by rw [shown_y d]; exact h1) (r1.mono (shown_ex t hD))) (Frz.rep t hD z rs)
/-- an instance behind a handle, shown in its slot -/
theorem sees_set {i : Nat} {p C dx : Addr} {fs gs : List (Str × Dat)} (hD : ∀ a, D a → S a ≠ none) (hi : γ[i]? = some (Slot.d (.hnd p))) (dp : D p) (ep : S p = some (.ins C dx fs)) (z : Frz S D fs gs) (h : Sees D S γ γ') (h2 : γ'[i]? = some (Slot.d (.hnd p))) : Sees D S γ (γ'.set i (.d (.obj C gs))) := fun A0 H0 A H σ t k => by
  have k1 := h A0 H0 A H σ t k
  obtain ⟨v, e, r⟩ := k1.get i _ h2
  cases r
  obtain ⟨kvs, h1, _, rf⟩ := t.cell ep
  have rr : Rep (shown D H A) (.ref p) (.obj C gs) := .obj (by rw [shown_y dp]; exact h1) (Frz.rep t hD z rf)
  have k2 := k1.setD rr i
  have e2 : σ.set i (some (V.ref p)) = σ := by
    refine List.ext_getElem? fun j => ?_
    by_cases q : i = j
    · subst q
      rw [e, List.getElem?_set_self]
      rw [k1.len]
      exact (List.getElem?_eq_some_iff.mp h2).1
    · rw [List.getElem?_set_ne q]
  rw [e2] at k2
  exact k2
theorem sees_refl : Sees D S γ γ := fun A0 H0 A H σ t k => k.noBase
theorem sees_one {i : Nat} {p C dx : Addr} {fs gs : List (Str × Dat)} (hD : ∀ a, D a → S a ≠ none) (hi : γ[i]? = some (Slot.d (.hnd p))) (dp : D p) (ep : S p = some (.ins C dx fs)) (z : Frz S D fs gs) : Sees D S γ (γ.set i (.d (.obj C gs))) := sees_set hD hi dp ep z sees_refl hi
end
end Fr

set_option Elab.async false
set_option linter.all false
set_option maxRecDepth 100000
set_option maxHeartbeats 4000000
namespace Fr
open PySem PySem.Spec PyProof.Rows L2
open Evl (Ex)
/-! # len(o), o == p, o[k] of an own class -/
/-- the class has the name as a def -/
structure OwnSp (K : PySem.W.Frag) (C : Addr) (n : Str) (f : Addr) : Prop where
  at_ : PySem.W.findIn K (.ref C) n = some (some (.ref f))
  fn : PySem.W.isFn K (.ref f) = true
/-- the type of a value -/
def TyOf (X : Cx) (y : V) (H : Hp) (tb : Value) : Prop := ∀ (pins : List (Addr × Obj)) (σ : L2.St) (s : Shared) (u : Value), Inv X pins σ H s → RelV y u → PySem.W.Looks (model X.prog X.w) s.heap (typeOf u) tb
section
variable {X : Cx} {CX : CXT} {k : Nat} {C f : Addr} {fd : FuncData} {ps : List Str} {sp : Sp} {E : XK}
theorem ty_ins {b D dx : Addr} {fs : List (Str × V)} {H : Hp} (h : H b = some (.ins D dx fs)) : TyOf X (.ref b) H (.ref D) := fun pins σ s u I r => by
  cases (show u = Value.ref b from r)
  obtain ⟨mB, J, _⟩ := ins_get I.hok h
  obtain ⟨od, J, _⟩ := J.look
  exact J.type
def rLenOwn (C : Addr) (sp : Sp) (E : XK) : List V → Hp → VK → Prop := fun xs H Q => ∃ a dx fs, xs = [.ref a] ∧ H a = some (.ins C dx fs) ∧ sp [.ref a] H (fun v H' => ∃ n, v = .int n ∧ 0 ≤ n ∧ n < 2 ^ 63 ∧ Q (.int n) H') E
theorem run_own {pins : List (Addr × Obj)} {σ : L2.St} {s : Shared} {H : Hp} {A : Around} {vs : List V} {us : List Value} {Q : VK} {n : Nat} (I : Inv X pins σ H s) (e0 : Env0 X.prog X.w X.K X.mg X.base A X.stack s H) (F : FnOk X.prog X.w X.K X.mg X.base CX k f fd ps sp) (hr : Room k A) (hb : Binds X.K fd ps []) (hx : Passes CX X E)
    (r : Vals vs us) (h : sp vs H Q E) : wpAny (model X.prog X.w) A (call (.ref f) us) (fun u s' => ∃ v H', Inv X pins σ H' s' ∧ RelV v u ∧ Q v H') X.xe s := by
  have hl := F.len _ _ _ _ h
  refine wpAny_call (codeAny_mono (F.run A X.stack s H ⟨us, []⟩ us vs Q E hr e0 (by
    have := hb s us I.kIn (by rw [List.append_nil, ← r.length]; exact hl)
    simpa using this) r h) fun q s' hq => ?_)
  cases q with
  | error e => exact hx pins σ H s e s' I hq
  | ok fl =>
    cases fl with
    | ret w =>
      obtain ⟨z, H', I', rz, ez⟩ := I.after hq
      exact ⟨z, H', I', rz, ez⟩
    | next => exact False.elim hq
    | brk => exact False.elim hq
    | cont => exact False.elim hq
theorem call_lenOwn (F : FnOk X.prog X.w X.K X.mg X.base CX k f fd ps sp) (hr : Room (k + 1) X.A) (o : OwnSp X.K C "__len__" f) (hb : Binds X.K fd ps []) (hx : Passes CX X E) : CallR X (.builtin "len") (rLenOwn C sp E) := by
  intro pins s σ H xs us Q I r h
  obtain ⟨a, dx, fs, rfl, ha, hq⟩ := h
  obtain rfl := Vals.ref1 r
  obtain ⟨mA, J, _⟩ := ins_get I.hok ha
  obtain ⟨od, J, _⟩ := J.look
  obtain ⟨m, hF⟩ := I.fr
  refine PySem.W.len_K hF I.ok.mod.kin J o.at_ o.fn (wpAny_mono (run_own (n := 0) I I.env0.in1 F hr.in1 hb hx (vs := [.ref a]) (.cons rfl .nil) hq) (fun u s' hu => ?_) fun _ _ e => e)
  obtain ⟨v, H', I', rv, n, rfl, n0, n1, q⟩ := hu
  obtain ⟨t, rfl⟩ := rv
  exact ⟨⟨n0, n1⟩, .int n, H', I'.tok _, ⟨_, rfl⟩, q⟩
/-- o == y -/
def rEqOwn (X : Cx) (C : Addr) (sp : Sp) (E : XK) : R2 := fun x y H Q => ∃ a dx fs tb, x = .ref a ∧ H a = some (.ins C dx fs) ∧ TyOf X y H tb ∧ PySem.W.notFirst X.K C tb = true ∧ sp [.ref a, y] H (fun v H' => ∃ b, v = .bl b ∧ Q (.bl b) H') E
theorem op_eqOwn (F : FnOk X.prog X.w X.K X.mg X.base CX k f fd ps sp) (hr : Room k X.A) (hu : X.A.units < cLine) (o : OwnSp X.K C "__eq__" f) (hb : Binds X.K fd ps []) (hx : Passes CX X E) : OpR X (compareOp .Eq) (rEqOwn X C sp E) := by
  intro pins s σ H x y v u Q I rx ry h
  obtain ⟨a, dx, fs, tb, rfl, ha, ht, hn, hq⟩ := h
  cases (show v = Value.ref a from rx)
  obtain ⟨mA, J, _⟩ := ins_get I.hok ha
  obtain ⟨od, J, _⟩ := J.look
  obtain ⟨m, hF⟩ := I.fr
  refine PySem.W.cmp_K (op := .Eq) (tb := tb) hu hF I.ok.mod.kin J (ht pins σ s u I ry) hn o.at_ o.fn (wpAny_mono (run_own (n := 0) I I.env0 F hr hb hx (vs := [.ref a, y]) (.cons rfl (.cons ry .nil)) hq) (fun w s' hw => ?_) fun _ _ e => e)
  obtain ⟨v, H', I', rv, b, rfl, q⟩ := hw
  cases (show w = Value.bool b from rv)
  exact ⟨.bl b, H', I', rfl, q⟩
end
end Fr

set_option Elab.async false
set_option linter.all false
set_option maxRecDepth 100000
set_option maxHeartbeats 4000000
namespace Fr
open PySem PySem.Spec PyProof.Rows L2
open Evl (Ex)
/-! # instances that stand still: fields, properties, methods, len, == -/
section
variable {K : PySem.W.Frag} {γ : Gam} {ta tb te : TE} {tr : TA} {x y z : Dat} {xs ys : List Dat} {C : Addr} {f m : Str} {fs gs : List (Str × Dat)} {E : XK} {R : List Dat → Dat → Prop} {RN : List Dat → List Dat → Prop}
theorem ev_fldO (h : EvD ta γ (.obj C fs)) (c : Cls K C) (n : NoAttr K C f) (l : fs.lookup f = some y) : EvD (tFld K ta f) γ y := fun H0 A H σ k Q q =>
  h H0 A H σ k _ fun v B H1 g1 r1 => by
    cases r1 with
    | @obj a _ dx kvs _ h1 rf =>
      obtain ⟨u, lu, ru⟩ := RepsF.at rf l
      exact ⟨a, C, dx, kvs, u, rfl, g1.sub _ _ h1, c, n, lu, q u B H1 g1 ru⟩
theorem er_fldO (h : EvD ta γ (.obj C fs)) (c : Cls K C) (n : NoAttr K C f) (l : fs.lookup f = some (.lst ys)) : EvR (tFld K ta f) γ ys := er_ofD (ev_fldO h c n l)
theorem ev_prop (h : EvD ta γ (.obj C fs)) (hR : R [.obj C fs] y) : EvD (tProp C (Pr R) [] E ta) γ y := fun H0 A H σ k Q q =>
  h H0 A H σ k _ fun v B H1 g1 r1 => by
    cases r1 with
    | @obj a _ dx kvs _ h1 rf =>
      exact ⟨a, dx, kvs, rfl, g1.sub _ _ h1, B, [.obj C fs], y, g1.sub, .cons (.obj h1 rf) .nil, hR, fun v D H2 g2 r2 => q v D H2 (g1.trans g2) r2⟩
theorem en_prop (h : EvD ta γ (.obj C fs)) (hR : RN [.obj C fs] ys) : EvN (tProp C (PrN RN) [] E ta) γ ys := fun H0 A H σ k Q q =>
  h H0 A H σ k _ fun v B H1 g1 r1 => by
    cases r1 with
    | @obj a _ dx kvs _ h1 rf =>
      exact ⟨a, dx, kvs, rfl, g1.sub _ _ h1, B, [.obj C fs], ys, g1.sub, .cons (.obj h1 rf) .nil, hR, fun l us D H2 g2 hl hD h2 r2 => q l us D H2 (g1.trans g2) (Evl.fresh_back g1.up hl) hD h2 r2⟩
theorem ev_meth (h : EvD ta γ (.obj C fs)) (l : fs.lookup m = none) (ha : EvA tr γ xs) (hR : R (.obj C fs :: xs) y) : EvD (tMeth C m (Pr R) [] E ta tr) γ y := fun H0 A H σ k Q q =>
  h H0 A H σ k _ fun v B H1 g1 r1 => by
    cases r1 with
    | @obj a _ dx kvs _ h1 rf =>
      refine ⟨a, dx, kvs, rfl, g1.sub _ _ h1, RepsF.no rf l, ha H0 B H1 σ (k.mono g1) _ fun vs D H2 g2 r2 => ?_⟩
      exact ⟨D, .obj C fs :: xs, y, g2.sub, by rw [List.append_nil]; exact .cons (.obj (g2.view _ _ h1) (rf.mono g2.view)) r2, hR, fun v D' H3 g3 r3 => q v D' H3 ((g1.trans g2).trans g3) r3⟩
theorem ev_lenO {n : Int} (h : EvD ta γ (.obj C fs)) (hR : R [.obj C fs] (.int n)) (n0 : 0 ≤ n) (n1 : n < 2 ^ 63) : EvD (tCB (rLenOwn C (Pr R) E) (tCons ta tNil)) γ (.int n) := fun H0 A H σ k Q q =>
  h H0 A H σ k _ fun v B H1 g1 r1 => by
    cases r1 with
    | @obj a _ dx kvs _ h1 rf =>
      refine ⟨a, dx, kvs, rfl, g1.sub _ _ h1, B, [.obj C fs], .int n, g1.sub, .cons (.obj h1 rf) .nil, hR, fun v D H2 g2 r2 => ?_⟩
      cases r2
      exact ⟨n, rfl, n0, n1, q _ D H2 (g1.trans g2) (.int n)⟩
/-- o == p, of two classes -/
theorem r2_eqO {X : Cx} {D : Addr} {b : Bool} (eK : X.K = K) (hn : PySem.W.notFirst K C (.ref D) = true) (hR : R [.obj C fs, .obj D gs] (.bl b)) : R2D (rEqOwn X C (Pr R) E) (.obj C fs) (.obj D gs) (.bl b) := fun A H vx vy s r1 r2 Q q => by
  subst eK
  cases r1 with
  | @obj a _ dx kvs _ h1 rf =>
    cases r2 with
    | @obj a2 _ dx2 kvs2 _ h2 rf2 =>
      refine ⟨a, dx, kvs, .ref D, rfl, s _ _ h1, ty_ins (s _ _ h2), hn, A, [.obj C fs, .obj D gs], .bl b, s, .cons (.obj h1 rf) (.cons (.obj h2 rf2) .nil), hR, fun v B H2 g2 r2 => ?_⟩
      cases r2
      exact ⟨b, rfl, q _ B H2 g2 (.bl b)⟩
end
section
variable {K : PySem.W.Frag} {γ : Gam} {S : Sto} {tr : TA} {P : Dat → Sto → Prop} {C : Addr} {E : XK}
/-- C(e, ..), its instance a cell -/
theorem es_make {Pre : Sto → List Dat → (Dat → Sto → Prop) → Prop} (h : ExSA tr γ S fun xs T => ∀ x dx, T x = none → Pre (T.put x (.ins C dx [])) (.hnd x :: xs) (fun y U => y = .non ∧ P (.hnd x) U)) : ExS (tMake C (PrM Pre) [] E tr) γ S P := fun A0 H0 A H σ a Q q =>
  h A0 H0 A H σ a _ fun vs xs T H1 B H' hp w a1 r => fun x dx hx hdx ne => by
    have s1 : Ex B H' := a1.g.sub
    have bx : B x = none := Evl.fresh_back s1 hx
    have hx1 : upd H' dx (.own x) x = none := by rw [upd_ne (Ne.symm ne)]; exact hx
    have g1 : Gr B H' B (upd H' dx (.own x)) := Gr.newU s1 hdx
    have g2 : Gr B H' B (upd (upd H' dx (.own x)) x (.ins C dx [])) := g1.trans (Gr.newU g1.sub hx1)
    have a2 := a1.grow g2
    have h0 : H1 x = none := Evl.fresh_back a1.g.up hx
    obtain ⟨H3, a3, w3⟩ := a2.new (c := .ins C dx []) upd_same h0 bx (a1.far hx) fun Hn e An n => ⟨[], e, n, .nil⟩
    have tx : T x = none := by
      cases q : T x with
      | none => rfl
      | some d =>
        obtain ⟨o', e1, _⟩ := (a1.s x d q).some
        rw [h0] at e1
        cases e1
    refine ⟨B, T.put x (.ins C dx []), .hnd x :: xs, _, a3.g.sub, by rw [List.append_nil]; exact .cons (.hnd x) r, a3.s.enter a3.g, hp x dx tx, fun y U D' H4 H5 v py ev g st rv => ?_⟩
    obtain ⟨e1, py⟩ := py
    subst e1
    cases rv
    obtain ⟨a4, w4⟩ := a3.leave ev g st
    exact ⟨rfl, q (.ref x) (.hnd x) U _ D' H5 py ((w.trans w3).trans w4) a4 (.hnd x)⟩
end
end Fr

set_option Elab.async false
set_option linter.all false
set_option maxRecDepth 100000
set_option maxHeartbeats 4000000
namespace Fr
open PySem PySem.Spec PyProof.Rows L2
open Evl (Ex)
/-! # data that is equal to itself -/
inductive Tame : Nat → Dat → Prop where
  | non {n : Nat} : Tame n .non
  | bl {n : Nat} (b : Bool) : Tame n (.bl b)
  | int {n : Nat} (i : Int) : Tame n (.int i)
  | str {n : Nat} {x : Str} : PyData.strOk x = true → Tame n (.str x)
  | tup {n : Nat} {ds : List Dat} : (∀ d ∈ ds, Tame n d) → Tame (n + 1) (.tup ds)
  | lst {n : Nat} {ds : List Dat} : (∀ d ∈ ds, Tame n d) → Tame (n + 1) (.lst ds)
def TameOk (n : Nat) (d : Dat) : Prop := noDic d = true ∧ (py d).canLay0 = true ∧ (py d).depth ≤ n + 1
theorem tames {n : Nat} : ∀ {ds : List Dat}, (∀ d ∈ ds, TameOk n d) → noDics ds = true ∧ PyData.canLayAll0 (pys ds) = true ∧ PyData.depthAll (pys ds) ≤ n + 1
  | [], _ => ⟨rfl, by simp [pys, PyData.canLayAll0], by simp [pys, PyData.depthAll]⟩
  | d :: ds, h => by
    obtain ⟨a1, a2, a3⟩ := h d List.mem_cons_self
    obtain ⟨b1, b2, b3⟩ := tames fun e he => h e (List.mem_cons_of_mem _ he)
    refine ⟨Bool.and_eq_true_iff.mpr ⟨a1, b1⟩, ?_, ?_⟩
    · show PyData.canLayAll0 (py d :: pys ds) = true
      simp only [PyData.canLayAll0, a2, b2, Bool.and_self]
    · show PyData.depthAll (py d :: pys ds) ≤ n + 1
      simp only [PyData.depthAll]
      omega
theorem Tame.ok {n : Nat} {d : Dat} (h : Tame n d) : TameOk n d := by
  induction h with
  | non => exact ⟨rfl, by simp [py, PyData.canLay0], by simp [py, PyData.depth]⟩
  | bl b => exact ⟨rfl, by simp [py, PyData.canLay0], by simp [py, PyData.depth]⟩
  | int i => exact ⟨rfl, by simp [py, PyData.canLay0], by simp [py, PyData.depth]⟩
  | str h => exact ⟨rfl, by simp [py, PyData.canLay0, h], by simp [py, PyData.depth]⟩
  | tup _ ih =>
    obtain ⟨a1, a2, a3⟩ := tames ih
    refine ⟨a1, ?_, ?_⟩
    · show PyData.canLay0 (.tuple (pys _)) = true
      simp only [PyData.canLay0]
      exact a2
    · show PyData.depth (.tuple (pys _)) ≤ _
      simp only [PyData.depth]
      omega
  | lst _ ih =>
    obtain ⟨a1, a2, a3⟩ := tames ih
    refine ⟨a1, ?_, ?_⟩
    · show PyData.canLay0 (.list (pys _)) = true
      simp only [PyData.canLay0]
      exact a2
    · show PyData.depth (.list (pys _)) ≤ _
      simp only [PyData.depth]
      omega
theorem Tame.mono {n : Nat} {d : Dat} (h : Tame n d) : Tame (n + 1) d := by
  induction h with
  | non => exact .non
  | bl b => exact .bl b
  | int i => exact .int i
  | str h => exact .str h
  | tup _ ih => exact .tup ih
  | lst _ ih => exact .lst ih
theorem tame_w (ns : List Int) : Tame 1 (w ns) := .tup fun d hd => by
  obtain ⟨i, _, rfl⟩ := List.mem_map.mp hd
  exact .int i
section
variable {K : PySem.W.Frag} {d : Dat} {n : Nat}
theorem TameOk.shaped (h : TameOk n d) (hn : n ≤ 60) : SeqAt.shaped (py d) = true := by
  unfold SeqAt.shaped
  rw [h.2.1, decide_eq_true (show (py d).depth ≤ 64 by have := h.2.2; omega)]
  rfl
theorem r2_eqT (h : Tame n d) (hn : n ≤ 60) : R2D (rEqD K) d d (.bl true) := by
  have k := h.ok
  have e := r2_eqD (K := K) k.1 k.1 (k.shaped hn) (k.shaped hn)
  rw [show PyData.eqv (py d) (py d) = true from SeqAt.eqv_refl _ k.2.1] at e
  exact e
theorem r2_neT (h : Tame n d) (hn : n ≤ 60) : R2D (rNeD K) d d (.bl false) := by
  have k := h.ok
  have e := r2_neD (K := K) k.1 k.1 (k.shaped hn) (k.shaped hn)
  rw [show PyData.eqv (py d) (py d) = true from SeqAt.eqv_refl _ k.2.1] at e
  exact e
end
/-! # a crate that is a cell -/
section
variable {S : Sto} {γ : Gam} {ta tb te : TE} {tr : TA} {tt tu : TT} {x y : Dat} {P : Dat → Sto → Prop} {PT : Bool → Sto → Prop} {E : XK}
theorem es_lend {Rf : List Dat → List Dat → Dat → List Dat → Prop} {Pre : List Dat → List Dat → Prop} (h : ExS ta γ S fun x T => ∃ c, x = .hnd c ∧ ExSA tr γ T fun xs U => ∃ ds, U c = some (.lst ds) ∧ Pre ds xs ∧ ∀ y ds', Rf ds xs y ds' → P y (U.put c (.lst ds'))) :
    ExS (tCall (PrC Rf Pre) [] E (tCons ta tr)) γ S P := fun A0 H0 A H σ a Q q =>
  h A0 H0 A H σ a _ fun v x T H1 B H' ⟨c, e, hx⟩ w1 a1 r => by
    subst e
    cases r
    refine hx A0 H1 B H' σ a1 _ fun us xs U H2 C H'' ⟨ds, ec, hp, hS⟩ w2 a2 r2 => ?_
    obtain ⟨cs, h1, cn, rc⟩ := a2.cell ec
    refine ⟨C, c, cs, ds, us, xs, by rw [List.append_nil], a2.g.sub, cn, h1, rc, r2, hp, fun v D H3 y cs' ds' hR g hD h3 rd ry => ?_⟩
    have ev : Evo U H'' (U.put c (.lst ds')) (upd H'' c (.lst cs')) := ⟨fun z s t => by
        have ne : z ≠ c := fun q => by rw [q, Sto.put_same] at t; cases t
        exact upd_ne ne, fun z t => by
        have ne : z ≠ c := fun q => by rw [q, Sto.put_same] at t; cases t
        rw [Sto.put_ne ne] at t
        exact t, fun z s t => by
        by_cases q : z = c
        · rw [q, ec] at s
          cases s
        · rw [Sto.put_ne q] at t
          exact absurd s t⟩
    have gb : Gr C (upd H'' c (.lst cs')) D H3 := by
      refine ⟨fun z o e => ?_, g.view, g.sub, fun z o e nt n => ?_⟩
      · by_cases q : z = c
        · subst q
          rw [upd_same] at e
          rw [h3]
          exact e
        · rw [upd_ne q] at e
          exact g.up z o (by rw [hide_ne q]; exact e)
      · by_cases q : z = c
        · subst q
          exact hD
        · rw [upd_ne q] at e
          exact g.hid z o (by rw [hide_ne q]; exact e) nt n
    have st : StS (U.put c (.lst ds')) C (upd H'' c (.lst cs')) D := fun z d q => by
      by_cases e : z = c
      · subst e
        rw [Sto.put_same] at q
        cases q
        exact ⟨cs', upd_same, cn, rd⟩
      · rw [Sto.put_ne e] at q
        obtain ⟨_, _, _, n'⟩ := (a2.cell q).some
        exact (a2.cell q).at (upd_ne e) n' g.view
    obtain ⟨a3, w3⟩ := a2.leave ev gb st
    exact q v y _ _ D H3 (hS y ds' hR) ((w1.trans w2).trans w3) a3 ry
theorem es_var {i : Nat} (h : γ[i]? = some (Slot.d x)) (hp : P x S) : ExS (tVar i) γ S P := es_of (ev_var h) hp
/-- a op b -/
theorem es_op {r : R2} (h : ExS ta γ S fun x T => ExS tb γ T fun y U => ∃ z, R2D r x y z ∧ P z U) : ExS (tOp r ta tb) γ S P := fun A0 H0 A H σ a Q q =>
  h A0 H0 A H σ a _ fun v x T H1 B H' hx w1 a1 r1 => hx A0 H1 B H' σ a1 _ fun u y U H2 C H'' ⟨z, hr, hp⟩ w2 a2 r2 => hr C H'' v u a2.g.sub (r1.mono w2.v) r2 _ fun p D H3 g3 r3 => q p z U H2 D H3 hp ⟨(w1.trans w2).e, (w1.trans w2).v.trans g3.view⟩ (a2.grow g3) r3
/-- e1 if t else e2 -/
theorem es_if (h : ExST tt γ S fun b T => (b = true → ExS ta γ T P) ∧ (b = false → ExS tb γ T P)) : ExS (tIf tt ta tb) γ S P := fun A0 H0 A H σ a Q q =>
  h A0 H0 A H σ a _ fun b T H1 B H' hb w1 a1 => by
    cases b with
    | true => exact hb.1 rfl A0 H1 B H' σ a1 Q fun v x U H2 C H'' p w2 a2 r => q v x U H2 C H'' p (w1.trans w2) a2 r
    | false => exact hb.2 rfl A0 H1 B H' σ a1 Q fun v x U H2 C H'' p w2 a2 r => q v x U H2 C H'' p (w1.trans w2) a2 r
end
end Fr

set_option Elab.async false
set_option linter.all false
set_option maxRecDepth 100000
set_option maxHeartbeats 4000000
namespace Fr
open PySem PySem.Spec PyProof.Rows L2
open Evl (Ex)
/-! # more of a store: displays, tests, loops, pop -/
section
variable {K : PySem.W.Frag} {S : Sto} {γ δ : Gam} {ta tb te : TE} {tr : TA} {t u : TT} {ts tu tw : TS} {x y : Dat} {P : Dat → Sto → Prop} {PT : Bool → Sto → Prop} {PA : List Dat → Sto → Prop} {N M : Gam → Sto → Prop} {R : Dat → Sto → Prop} {E : XK} {i : Nat}
/-- [e, ..], data from here on -/
theorem es_lst (h : ExSA tr γ S fun xs T => xs.length ≤ sizeLine ∧ P (.lst xs) T) : ExS (tLst tr) γ S P := fun A0 H0 A H σ a Q q =>
  h A0 H0 A H σ a _ fun vs xs T H1 B H' ⟨hl, hp⟩ w a1 r => ⟨by rw [r.len]; exact hl, fun p hn => by
    have g := Gr.new (o := .lst vs) a1.g.sub hn
    exact q _ _ T H1 _ _ hp ⟨w.e, w.v.trans g.view⟩ (a1.grow g) (.lst upd_same (r.mono g.view))⟩
theorem es_tup (h : ExSA tr γ S fun xs T => xs.length ≤ sizeLine ∧ P (.tup xs) T) : ExS (tTup tr) γ S P := fun A0 H0 A H σ a Q q =>
  h A0 H0 A H σ a _ fun vs xs T H1 B H' ⟨hl, hp⟩ w a1 r => ⟨by rw [r.len]; exact hl, fun p hn => by
    have g := Gr.new (o := .tup vs) a1.g.sub hn
    exact q _ _ T H1 _ _ hp ⟨w.e, w.v.trans g.view⟩ (a1.grow g) (.tup upd_same (r.mono g.view))⟩
/-- [e, ..], a cell from here on -/
theorem es_lstN (h : ExSA tr γ S fun xs T => xs.length ≤ sizeLine ∧ ∀ l, T l = none → P (.hnd l) (T.put l (.lst xs))) : ExS (tLst tr) γ S P := fun A0 H0 A H σ a Q q =>
  h A0 H0 A H σ a _ fun vs xs T H1 B H' ⟨hl, hp⟩ w a1 r => ⟨by rw [r.len]; exact hl, fun p hn => by
    have g := Gr.newU (o := .lst vs) a1.g.sub hn
    have h0 : H1 p = none := Evl.fresh_back a1.g.up hn
    have hB : B p = none := Evl.fresh_back a1.g.sub hn
    have tp : T p = none := by
      cases q : T p with
      | none => rfl
      | some d =>
        obtain ⟨o', e1, _⟩ := (a1.s p d q).some
        rw [h0] at e1
        cases e1
    obtain ⟨H2, a2, w2⟩ := (a1.grow g).new (c := .lst xs) upd_same h0 hB (a1.far hn) fun Hn e An n => ⟨vs, e, n, r⟩
    exact q _ _ _ H2 _ _ (hp p tp) (w.trans w2) a2 (.hnd p)⟩
theorem est_B (h : ExS te γ S fun x T => ∃ b, x = .bl b ∧ PT b T) : ExST (tB te) γ S PT := fun A0 H0 A H σ a Q q =>
  h A0 H0 A H σ a _ fun v x T H1 B H' ⟨b, e, hp⟩ w a1 r => by
    subst e
    cases r
    exact ⟨b, rfl, q b T H1 B H' hp w a1⟩
theorem est_test (h : ExS te γ S fun x T => ∃ b, x = .bl b ∧ PT b T) : ExST (tTest te) γ S PT := est_B h
theorem est_not (h : ExST t γ S fun b T => PT (!b) T) : ExST (tNot t) γ S PT := fun A0 H0 A H σ a Q q => h A0 H0 A H σ a _ fun b T H1 B H' hp w a1 => q (!b) T H1 B H' hp w a1
theorem est_and (h : ExST t γ S fun b T => (b = true → ExST u γ T PT) ∧ (b = false → PT false T)) : ExST (tAnd t u) γ S PT := fun A0 H0 A H σ a Q q =>
  h A0 H0 A H σ a _ fun b T H1 B H' hb w a1 => by
    cases b with
    | true => exact hb.1 rfl A0 H1 B H' σ a1 Q fun c U H2 C H'' p w2 a2 => q c U H2 C H'' p (w.trans w2) a2
    | false => exact q false T H1 B H' (hb.2 rfl) w a1
theorem est_or (h : ExST t γ S fun b T => (b = true → PT true T) ∧ (b = false → ExST u γ T PT)) : ExST (tOr t u) γ S PT := fun A0 H0 A H σ a Q q =>
  h A0 H0 A H σ a _ fun b T H1 B H' hb w a1 => by
    cases b with
    | false => exact hb.2 rfl A0 H1 B H' σ a1 Q fun c U H2 C H'' p w2 a2 => q c U H2 C H'' p (w.trans w2) a2
    | true => exact q true T H1 B H' (hb.1 rfl) w a1
theorem ExST.weak {PT' : Bool → Sto → Prop} (h : ExST t γ S PT) (hp : ∀ b T, PT b T → PT' b T) : ExST t γ S PT' := fun A0 H0 A H σ a Q q => h A0 H0 A H σ a Q fun b T H1 B H' p => q b T H1 B H' (hp b T p)
/-- l.pop() -/
theorem es_pop (h : ExS ta γ S fun x T => ∃ l xs y, x = .hnd l ∧ T l = some (.lst (xs ++ [y])) ∧ P y (T.put l (.lst xs))) : ExS (tBM0 K "list" rPop ta) γ S P := fun A0 H0 A H σ a Q q =>
  h A0 H0 A H σ a _ fun v x T H1 B H' ⟨l, xs, y, e, el, hp⟩ w a1 r => by
    subst e
    cases r
    obtain ⟨us, h1, hn, rs⟩ := a1.cell el
    have hl : us.length = xs.length + 1 := by rw [rs.len, List.length_append]; rfl
    obtain ⟨v2, hv, rv⟩ := rs.get (i := xs.length) (d := y) (by rw [List.getElem?_append_right (Nat.le_refl _), Nat.sub_self]; rfl)
    refine ⟨.inl ⟨rfl, us, SqL.of h1⟩, l, us, v2, rfl, rfl, h1, by rw [hl]; exact hv, ?_⟩
    have rd : Reps B us.dropLast xs := by
      have : ∀ {ws : List V} {ds : List Dat}, Reps B ws (ds ++ [y]) → Reps B ws.dropLast ds := by
        intro ws ds
        induction ds generalizing ws with
        | nil =>
          intro h
          cases h with
          | cons a b =>
            cases b
            exact .nil
        | cons d ds ih =>
          intro h
          cases h with
          | cons a b =>
            have n : ∃ z zs, ∀ vs', Reps B vs' (ds ++ [y]) → vs'.length = ds.length + 1 := ⟨0, 0, fun vs' h => by rw [h.len, List.length_append]; rfl⟩
            rename_i v0 vs0
            cases vs0 with
            | nil =>
              have := b.len
              simp at this
            | cons v1 vs1 => exact .cons a (ih b)
      exact this rs
    obtain ⟨H3, a3, w3⟩ := a1.put (o := .lst us.dropLast) (c' := .lst xs) el fun Hn e => ⟨_, e, hn, rd⟩
    exact q v2 y _ H3 B _ hp (w.trans w3) a3 rv
/-! ### loops -/
theorem runS_forR {n : Int} {j : Nat} (h : EvA tr γ [.int n]) (hn : -(2 ^ 62) ≤ n ∧ n < 2 ^ 62) (I : Nat → Gam → Sto → Prop) (h0 : I 0 γ S)
    (hs : ∀ (i : Nat) δ T, (i : Int) < n → I i δ T → RunS tu (δ.set j (.d (.int (i : Int)))) T (I (i + 1)) R) (hd : ∀ δ T, I n.toNat δ T → N δ T) : RunS (tFor (iRng1 tr) (gName j) tu) γ S N R := fun A0 H0 A H σ a D dn dr =>
  h H0 A H σ a.k _ fun vs B H1 g1 r1 => by
    cases r1 with
    | cons r1 r2 =>
      cases r1
      cases r2
      have a1 := a.grow g1
      have w1 : Way A0 S H0 A S H0 B := ⟨Evo.refl, g1.view⟩
      refine ⟨n, rfl, hn.1, hn.2, for_range (lo := 0) (n := n.toNat) (fun i σ' H' => ∃ δ T H2 C, I i δ T ∧ Way A0 S H0 A T H2 C ∧ At A0 H2 C H' σ' δ T) ⟨γ, S, H0, B, h0, w1, a1⟩ ?_ ?_⟩
      · rintro i σ' H' hi ⟨δ, T, H2, C, hI, w2, a2⟩
        have e0 : (0 : Int) + (i : Int) = (i : Int) := Int.zero_add _
        rw [e0]
        have k3 := a2.k.setD (v := .int (i : Int)) (.int _) j
        exact hs i δ T (by omega) hI A0 H2 C H' _ ⟨a2.g, k3, a2.s⟩ { D with nx := _, ct := _, bk := D.nx } (fun δ' T' H3 C' H4 σ4 hN w3 a4 => ⟨δ', T', H3, C', hN, w2.trans w3, a4⟩) fun v x U H3 C' H4 r w3 g3 s3 rx => dr v x U H3 C' H4 r (w2.trans w3) g3 s3 rx
      · rintro σ' H' ⟨δ, T, H2, C, hI, w2, a2⟩
        exact dn δ T H2 C H' σ' (hd δ T hI) w2 a2
end
end Fr

set_option Elab.async false
set_option linter.all false
set_option maxRecDepth 100000
set_option maxHeartbeats 4000000
namespace Fr
open PySem PySem.Spec PyProof.Rows L2
open Evl (Ex)
open TL
/-! # texts -/
/-- the decimal digits of an int -/
def strI (i : Int) : Str := toString i
section
variable {K : PySem.W.Frag} {γ : Gam} {ta tb te : TE} {tr : TA} {tt : TT} {x y z : Dat} {xs : List Dat} {a b : Str} {g : TG} {js vs : List Nat}
/-- sep.join(a list of texts) -/
def rJoin (K : PySem.W.Frag) : V → List V → Hp → VK → Prop := fun x xs H Q => ∃ a p, ∃ ys : List Str, x = .str a ∧ xs = [.ref p] ∧ (SqL K H p (ys.map V.str) ∨ SqT K H p (ys.map V.str)) ∧ (ys.map (·.length)).sum + ys.length * a.length ≤ 16777216 ∧ Q (.str (Txt.join a ys)) H
theorem mt_joinK {X : Cx} {K : PySem.W.Frag} (e : X.K = K) : MtR X "str.join" (rJoin K) := e ▸ mt_join
def rSplitS : V → List V → Hp → VK → Prop := fun x xs H Q => ∃ a b, x = .str a ∧ xs = [.str b] ∧ (b.length == 0) = false ∧ a.length + 2 ≤ sizeLine ∧ rNewStrs (Txt.split a b) H Q
theorem mt_splitS {X : Cx} : MtR X "str.split" rSplitS := mt_split
def rStartsS : V → List V → Hp → VK → Prop := fun x xs H Q => ∃ a b, x = .str a ∧ xs = [.str b] ∧ Q (.bl (Txt.startswith a b)) H
theorem mt_startsS {X : Cx} : MtR X "str.startswith" rStartsS := mt_startswith
def rDigitS : V → List V → Hp → VK → Prop := fun x xs H Q => ∃ a, x = .str a ∧ xs = [] ∧ True ∧ Q (.bl (Txt.isdigit a)) H
theorem mt_digitS {X : Cx} : MtR X "str.isdigit" rDigitS := mt_isdigit
def rAsciiS : V → List V → Hp → VK → Prop := fun x xs H Q => ∃ a, x = .str a ∧ xs = [] ∧ True ∧ Q (.bl (Txt.isascii a)) H
theorem mt_asciiS {X : Cx} : MtR X "str.isascii" rAsciiS := mt_isascii
def rStrI : List V → Hp → VK → Prop := fun xs H Q => ∃ i, xs = [.int i] ∧ i.natAbs.log2 < 1920 ∧ Q (.str (strI i)) H
theorem cr_strI {X : Cx} : CallR X (.type "str") rStrI := call_str_int
def rIntS : List V → Hp → VK → Prop := fun xs H Q => ∃ a n, xs = [.str a] ∧ PySem.intText? a = some n ∧ a.length ≤ 640 ∧ Q (.int n) H
theorem cr_intS {X : Cx} : CallR X (.type "int") rIntS := call_int_str
def rLenStr : List V → Hp → VK → Prop := fun xs H Q => ∃ z, xs = [.str z] ∧ z.length ≤ sizeLine ∧ Q (.int z.length) H
theorem cr_lenStr {X : Cx} : CallR X (.builtin "len") rLenStr := call_len_str
def rCatS2 : R2 := fun x y H Q => ∃ i j, x = .str i ∧ y = .str j ∧ i.length + j.length ≤ sizeLine ∧ Q (.str (i ++ j)) H
theorem op_catS2 {X : Cx} : OpR X (binaryOp .Add) rCatS2 := op_add_str
theorem reps_str {H : Hp} : ∀ ys : List Str, Reps H (ys.map V.str) (ys.map Dat.str)
  | [] => .nil
  | y :: ys => .cons (.str y) (reps_str ys)
theorem reps_strs {H : Hp} : ∀ {ys : List Str} {us : List V}, Reps H us (ys.map Dat.str) → us = ys.map V.str
  | [], _, h => by cases h; rfl
  | y :: ys, _, h => by
    cases h with
    | cons h r =>
      cases h
      rw [reps_strs r]
      rfl
theorem ev_join {ys : List Str} (h : EvD ta γ (.str a)) (hl : EvR tb γ (ys.map .str)) (hz : (ys.map (·.length)).sum + ys.length * a.length ≤ 16777216) : EvD (tM1 (rJoin K) ta tb) γ (.str (Txt.join a ys)) := fun H0 A H σ k Q q =>
  h H0 A H σ k _ fun v B H1 g1 r1 => by
    cases r1
    refine ⟨⟨a, rfl⟩, hl H0 B H1 σ (k.mono g1) _ fun l us C H2 g2 h2 r2 => ?_⟩
    have e := reps_strs r2
    subst e
    exact ⟨a, l, ys, rfl, rfl, .inl (SqL.of h2), hz, q _ C H2 (g1.trans g2) (.str _)⟩
theorem en_split (h : EvD ta γ (.str a)) (hb : EvD tb γ (.str b)) (h0 : (b.length == 0) = false) (hz : a.length + 2 ≤ sizeLine) : EvN (tM1 rSplitS ta tb) γ ((Txt.split a b).map .str) := fun H0 A H σ k Q q =>
  h H0 A H σ k _ fun v B H1 g1 r1 => by
    cases r1
    refine ⟨⟨a, rfl⟩, hb H0 B H1 σ (k.mono g1) _ fun v2 C H2 g2 r2 => ?_⟩
    cases r2
    refine ⟨a, b, rfl, rfl, h0, hz, fun p hp => ?_⟩
    have g := g1.trans g2
    exact q p _ C _ (g.trans (Gr.newU g.sub hp)) (Evl.fresh_back g.up hp) (Evl.fresh_back g.sub hp) upd_same (reps_str _)
theorem ev_starts (h : EvD ta γ (.str a)) (hb : EvD tb γ (.str b)) : EvD (tM1 rStartsS ta tb) γ (.bl (Txt.startswith a b)) := fun H0 A H σ k Q q =>
  h H0 A H σ k _ fun v B H1 g1 r1 => by
    cases r1
    refine ⟨⟨a, rfl⟩, hb H0 B H1 σ (k.mono g1) _ fun v2 C H2 g2 r2 => ?_⟩
    cases r2
    exact ⟨a, b, rfl, rfl, q _ C H2 (g1.trans g2) (.bl _)⟩
theorem ev_digit (h : EvD ta γ (.str a)) : EvD (tM0 rDigitS ta) γ (.bl (Txt.isdigit a)) := fun H0 A H σ k Q q =>
  h H0 A H σ k _ fun v B H1 g1 r1 => by
    cases r1
    exact ⟨⟨a, rfl⟩, a, rfl, rfl, True.intro, q _ B H1 g1 (.bl _)⟩
theorem ev_ascii (h : EvD ta γ (.str a)) : EvD (tM0 rAsciiS ta) γ (.bl (Txt.isascii a)) := fun H0 A H σ k Q q =>
  h H0 A H σ k _ fun v B H1 g1 r1 => by
    cases r1
    exact ⟨⟨a, rfl⟩, a, rfl, rfl, True.intro, q _ B H1 g1 (.bl _)⟩
theorem ev_strI {i : Int} (h : EvD te γ (.int i)) (hz : i.natAbs.log2 < 1920) : EvD (tCB rStrI (tCons te tNil)) γ (.str (strI i)) := fun H0 A H σ k Q q =>
  h H0 A H σ k _ fun v B H1 g1 r1 => by
    cases r1
    exact ⟨i, rfl, hz, q _ B H1 g1 (.str _)⟩
theorem ev_intS {n : Int} (h : EvD te γ (.str a)) (hn : PySem.intText? a = some n) (hz : a.length ≤ 640) : EvD (tCB rIntS (tCons te tNil)) γ (.int n) := fun H0 A H σ k Q q =>
  h H0 A H σ k _ fun v B H1 g1 r1 => by
    cases r1
    exact ⟨a, n, rfl, hn, hz, q _ B H1 g1 (.int n)⟩
theorem ev_lenS (h : EvD te γ (.str a)) (hz : a.length ≤ sizeLine) : EvD (tCB rLenStr (tCons te tNil)) γ (.int (a.length : Int)) := fun H0 A H σ k Q q =>
  h H0 A H σ k _ fun v B H1 g1 r1 => by
    cases r1
    exact ⟨a, rfl, hz, q _ B H1 g1 (.int _)⟩
theorem r2_catS (hz : a.length + b.length ≤ sizeLine) : R2D rCatS2 (.str a) (.str b) (.str (a ++ b)) := fun A H vx vy s r1 r2 Q q => by
  cases r1
  cases r2
  exact ⟨a, b, rfl, rfl, hz, q _ A H (Gr.refl s) (.str _)⟩
theorem r2_ninS {ns : List Str} : R2D (rIn K true) (.str a) (.tup (ns.map .str)) (.bl (!ns.any fun n => n == a)) := fun A H vx vy s r1 r2 Q q => by
  cases r1
  cases r2 with
  | @tup p us _ h1 R1 =>
    have e := reps_strs R1
    subst e
    refine ⟨p, ns.map V.str, rfl, .inr (SqT.of (s _ _ h1)), rfl, by rw [List.all_map]; exact List.all_eq_true.mpr fun _ _ => rfl, ?_⟩
    have e : inV (.str a) (ns.map V.str) = ns.any fun n => n == a := by
      unfold inV
      rw [List.any_map]
      rfl
    show Q (.bl (if true = true then !inV (.str a) (ns.map V.str) else _)) H
    rw [if_pos rfl, e]
    exact q _ A H (Gr.refl s) (.bl _)
/-- text[0] -/
theorem ev_ixS {i : Int} {c : Nat} (h : EvD ta γ (.str a)) (hb : EvD tb γ (.int i)) (hz : a.length ≤ sizeLine) (hc : atI a.cps.toList i = some c) : EvD (tOp rIxS ta tb) γ (.str ⟨#[c]⟩) := fun H0 A H σ k Q q =>
  h H0 A H σ k _ fun v B H1 g1 r1 => hb H0 B H1 σ (k.mono g1) _ fun u C H2 g2 r2 => by
    cases r1
    cases r2
    exact ⟨a, i, c, rfl, rfl, hz, hc, q _ C H2 (g1.trans g2) (.str _)⟩
theorem ev_cutS {tl th : TO} {lo hi : Option Int} (h : EvD te γ (.str a)) (h1 : EvO tl γ lo) (h2 : EvO th γ hi) (hz : a.length ≤ sizeLine) : EvD (tSl rSlS te tl th) γ (.str (cutS a lo hi)) := fun H0 A H σ k Q q =>
  h H0 A H σ k _ fun v B H1 g1 r1 => by
    cases r1
    exact h1 H0 B H1 σ (k.mono g1) _ fun C H2 g2 => h2 H0 C H2 σ ((k.mono g1).mono g2) _ fun D H3 g3 => ⟨a, rfl, hz, q _ D H3 ((g1.trans g2).trans g3) (.str _)⟩
/-- the truth of a tuple -/
theorem et_truT (h : EvD te γ (.tup xs)) : EvT (fun σ H Q => te σ H fun x H' => ∃ k, TruV K x H' k ∧ Q k H') γ (!xs.isEmpty) := fun H0 A H σ k Q q => h H0 A H σ k _ fun v B H1 g r => by
  cases r with
  | tup h1 rs =>
    refine ⟨!xs.isEmpty, .inr (.inl ⟨_, SqT.of (g.sub _ _ h1), ?_⟩), q B H1 g⟩
    cases rs <;> rfl
/-- {x} in an f-string -/
theorem ev_fmtS (h : EvD te γ (.str a)) (hz : a.length ≤ sizeLine) : EvD (tFmt te) γ (.str a) := fun H0 A H σ k Q q => h H0 A H σ k _ fun v B H1 g r => by
  cases r
  exact .inl ⟨a, rfl, hz, q _ B H1 g (.str _)⟩
theorem ev_fmtI {i : Int} (h : EvD te γ (.int i)) (hz : i.natAbs.log2 < 1920) : EvD (tFmt te) γ (.str (strI i)) := fun H0 A H σ k Q q => h H0 A H σ k _ fun v B H1 g r => by
  cases r
  exact .inr ⟨i, rfl, hz, q _ B H1 g (.str _)⟩
/-- f'..' of two and of three parts -/
theorem ev_fs2 (h1 : EvD ta γ (.str a)) (h2 : EvD tb γ (.str b)) (hz : a.length + b.length ≤ sizeLine) : EvD (fun σ H Q => tJs [ta, tb] Str.empty σ H fun out H1 => Q (.str out) H1) γ (.str (Str.empty ++ a ++ b)) := fun H0 A H σ k Q q =>
  h1 H0 A H σ k _ fun v B H1 g1 r1 => by
    cases r1
    have e0 : (Str.empty ++ a).length = a.length := by rw [len_tl, len_tl, tl_append]; rfl
    refine ⟨a, rfl, by rw [e0]; omega, h2 H0 B H1 σ (k.mono g1) _ fun u C H2 g2 r2 => ?_⟩
    cases r2
    have e1 : (Str.empty ++ a ++ b).length = a.length + b.length := by rw [len_tl, len_tl, len_tl, tl_append, tl_append, List.length_append, List.length_append]; simp [tl, Str.empty]
    exact ⟨b, rfl, by rw [e1]; exact hz, q _ C H2 (g1.trans g2) (.str _)⟩
theorem ev_fs3 {c : Str} {tc : TE} (h1 : EvD ta γ (.str a)) (h2 : EvD tb γ (.str b)) (h3 : EvD tc γ (.str c)) (hz : a.length + b.length + c.length ≤ sizeLine) : EvD (fun σ H Q => tJs [ta, tb, tc] Str.empty σ H fun out H1 => Q (.str out) H1) γ (.str (Str.empty ++ a ++ b ++ c)) := fun H0 A H σ k Q q =>
  h1 H0 A H σ k _ fun v B H1 g1 r1 => by
    cases r1
    have e0 : (Str.empty ++ a).length = a.length := by rw [len_tl, len_tl, tl_append]; rfl
    refine ⟨a, rfl, by rw [e0]; omega, h2 H0 B H1 σ (k.mono g1) _ fun u C H2 g2 r2 => ?_⟩
    cases r2
    have e1 : (Str.empty ++ a ++ b).length = a.length + b.length := by rw [len_tl, len_tl, len_tl, tl_append, tl_append, List.length_append, List.length_append]; simp [tl, Str.empty]
    refine ⟨b, rfl, by rw [e1]; omega, h3 H0 C H2 σ ((k.mono g1).mono g2) _ fun u2 D H3 g3 r3 => ?_⟩
    cases r3
    have e2 : (Str.empty ++ a ++ b ++ c).length = a.length + b.length + c.length := by rw [len_tl, tl_append, List.length_append, ← len_tl, ← len_tl, e1]
    exact ⟨c, rfl, by rw [e2]; exact hz, q _ D H3 ((g1.trans g2).trans g3) (.str _)⟩
theorem lc_text {z : Str} {σ : L2.St} {H1 : Hp} {D : Addr} {Qd : Hp → Prop} {vs : List Nat} (Pv : Nat → Hp → Prop) (h0 : Pv 0 (upd H1 D (.lst []))) (hs : ∀ i c H, z.cps[i]? = some c → Pv i H → g (.str ⟨#[c]⟩) (L2.wipe σ vs) H fun σ2 H2 => L2.wipe σ2 vs = L2.wipe σ vs ∧ tt σ2 H2 fun b H3 =>
    if b = true then te σ2 H3 fun y H4 => ∃ acc, H4 D = some (.lst acc) ∧ acc.length < sizeLine ∧ Pv (i + 1) (upd H4 D (.lst (acc ++ [y]))) else Pv (i + 1) H3) (hd : ∀ H, Pv z.cps.size H → Qd H) :
    ∃ W : Nat → Nat → Hp → Prop, (∃ m, W 0 m (upd H1 D (.lst []))) ∧ ∀ i m H, W i m H →
      ((Its z).stop i H ∧ Qd H) ∨ ((Its z).go i H ∧ ∃ Nx : Hp → Prop, (∀ H', Nx H' → ∃ m', m' < m ∧ W (i + 1) m' H') ∧ ∀ x H', (Its z).yld i H x H' → g x (L2.wipe σ vs) H' fun σ2 H2 => L2.wipe σ2 vs = L2.wipe σ vs ∧ tt σ2 H2 fun b H3 =>
        if b = true then te σ2 H3 fun y H4 => ∃ acc, H4 D = some (.lst acc) ∧ acc.length < sizeLine ∧ Nx (upd H4 D (.lst (acc ++ [y]))) else Nx H3) := by
  refine ⟨fun i m H => m = z.cps.size - i ∧ i ≤ z.cps.size ∧ Pv i H, ⟨z.cps.size, by simp, Nat.zero_le _, h0⟩, ?_⟩
  rintro i m H ⟨rfl, hi, p⟩
  by_cases q : i < z.cps.size
  · refine .inr ⟨q, Pv (i + 1), fun H' p' => ⟨z.cps.size - (i + 1), by omega, rfl, q, p'⟩, ?_⟩
    rintro x H' ⟨rfl, c, hc, rfl⟩
    exact hs i c _ hc p
  · have e : i = z.cps.size := by omega
    subst e
    exact .inl ⟨Nat.le_refl _, hd H p⟩
theorem en_lcS {f : Nat → Bool} {v : Nat → Dat} {tv : TE} (h : EvD te γ (.str a)) (hj : ∀ j ∈ js, j ∈ vs) (hz : (tl a).length < sizeLine)
    (hs : ∀ c ∈ tl a, ∃ δ, Tg g js (wipeG γ vs) (.str ⟨#[c]⟩) δ ∧ EvT tt δ (f c) ∧ (f c = true → EvD tv δ (v c))) : EvN (tLc (iStr te) g tt tv vs) γ (((tl a).filter f).map v) := fun H0 A H σ k Q q =>
  h H0 A H σ k _ fun u B H1 g1 r1 => by
    cases r1
    have get : ∀ {i c : Nat}, a.cps[i]? = some c → (tl a)[i]? = some c := fun {i c} e => by
      show a.cps.toList[i]? = some c
      rw [← e, Array.getElem?_toList]
    refine ⟨a, rfl, fun D hD => lc_text (CP (tl a) f v B H1 D) (cp_zero g1.sub hD) (fun i c H' hc p => ?_) (fun H' p => ?_)⟩
    · have hc' := get hc
      obtain ⟨δ, t1, t2, t3⟩ := hs c (List.mem_of_getElem? hc')
      exact cp_turn (k.mono g1) hD hz hc' p (fun C _ => .str _) hj t1 t2 t3
    · obtain ⟨C, acc, gC, cD, hAcc, rAcc⟩ := p
      have e : a.cps.size = (tl a).length := by simp [tl]
      rw [e, List.take_length] at rAcc
      exact q D acc C H' (g1.trans gC) (Evl.fresh_back g1.up hD) cD hAcc rAcc
end
end Fr

set_option Elab.async false
set_option linter.all false
set_option maxRecDepth 100000
set_option maxHeartbeats 4000000
namespace Fr
open PySem PySem.Spec PyProof.Rows L2
open TL
/-! # the texts of words and lists, and what they are read as -/
theorem tl_strI (n : Nat) : tl (strI (n : Int)) = numL n := tl_num n
theorem tl_bit {b : Int} (h : b = 0 ∨ b = 1) : tl (strI b) = [48 + b.toNat] := by
  rcases h with rfl | rfl
  · exact (tl_strI 0).trans (numL_lt (by decide))
  · exact (tl_strI 1).trans (numL_lt (by decide))
theorem strI_bit {b : Int} (h : b = 0 ∨ b = 1) : strI b = ⟨#[48 + b.toNat]⟩ := ext_tl (tl_bit h)
theorem log_small {i : Int} (h : i.natAbs < 2 ^ 1919) : i.natAbs.log2 < 1920 := by
  by_cases z : i.natAbs = 0
  · rw [z]
    decide
  · exact Nat.lt_of_lt_of_le ((Nat.log2_lt z).mpr h) (by decide)
theorem log_mil {i : Int} (h : i.natAbs < 1000001) : i.natAbs.log2 < 1920 := log_small (Nat.lt_of_lt_of_le h (by decide +kernel))
def wordS (ns : List Int) : Str := if ns = [] then "-" else Txt.join "" (ns.map strI)
def sepW : Str := " "
def sepR : Str := "; "
theorem tl_empty : tl ("" : Str) = [] := by decide +kernel
theorem tl_dash : tl ("-" : Str) = [45] := by decide +kernel
theorem joinL_nil : ∀ l : List (List Nat), joinL [] l = l.flatten
  | [] => rfl
  | [p] => by simp [joinL]
  | p :: q :: r => by
    show p ++ ([] ++ joinL [] (q :: r)) = _
    rw [List.nil_append, joinL_nil (q :: r)]
    rfl
theorem tl_bits : ∀ {ns : List Int}, (∀ b ∈ ns, b = 0 ∨ b = 1) → ((ns.map strI).map tl).flatten = ns.map fun b => 48 + b.toNat
  | [], _ => rfl
  | b :: ns, h => by
    rw [List.map_cons, List.map_cons, List.flatten_cons, tl_bits fun c hc => h c (List.mem_cons_of_mem _ hc), tl_bit (h b List.mem_cons_self)]
    rfl
theorem tl_word {ns : List Int} (h : ∀ b ∈ ns, b = 0 ∨ b = 1) (hn : ns ≠ []) : tl (wordS ns) = ns.map fun b => 48 + b.toNat := by
  unfold wordS
  rw [if_neg hn, join_eq, tl_join, tl_empty, joinL_nil, tl_bits h]
theorem wordS_nil : wordS [] = "-" := if_pos rfl
theorem word_signs {ns : List Int} (h : ∀ b ∈ ns, b = 0 ∨ b = 1) : ∀ c ∈ tl (wordS ns), c = 45 ∨ c = 48 ∨ c = 49 := by
  by_cases hn : ns = []
  · subst hn
    rw [wordS_nil, tl_dash]
    intro c hc
    exact .inl (List.mem_singleton.mp hc)
  · rw [tl_word h hn]
    intro c hc
    obtain ⟨b, hb, rfl⟩ := List.mem_map.mp hc
    rcases h b hb with rfl | rfl
    · exact .inr (.inl rfl)
    · exact .inr (.inr rfl)
theorem word_len {ns : List Int} (h : ∀ b ∈ ns, b = 0 ∨ b = 1) : (wordS ns).length ≤ ns.length + 1 := by
  rw [len_tl]
  by_cases hn : ns = []
  · subst hn
    rw [wordS_nil, tl_dash]
    decide
  · rw [tl_word h hn, List.length_map]
    omega
theorem word_ne {ns : List Int} (h : ∀ b ∈ ns, b = 0 ∨ b = 1) (hn : ns ≠ []) : wordS ns ≠ "-" ∧ wordS ns ≠ "" := by
  constructor
  · intro e
    have e2 := congrArg tl e
    rw [tl_word h hn, tl_dash] at e2
    cases ns with
    | nil => exact hn rfl
    | cons b ns =>
      rw [List.map_cons] at e2
      have := (List.cons.inj e2).1
      omega
  · intro e
    have e2 := congrArg tl e
    rw [tl_word h hn, tl_empty] at e2
    exact hn (List.map_eq_nil_iff.mp e2)
theorem word_inj {ns ms : List Int} (h1 : ∀ b ∈ ns, b = 0 ∨ b = 1) (h2 : ∀ b ∈ ms, b = 0 ∨ b = 1) (e : wordS ns = wordS ms) : ns = ms := by
  by_cases n0 : ns = []
  · subst n0
    by_cases m0 : ms = []
    · exact m0.symm
    · rw [wordS_nil] at e
      exact absurd e.symm (word_ne h2 m0).1
  · by_cases m0 : ms = []
    · subst m0
      rw [wordS_nil] at e
      exact absurd e (word_ne h1 n0).1
    · have e2 := congrArg tl e
      rw [tl_word h1 n0, tl_word h2 m0] at e2
      clear e n0 m0
      induction ns generalizing ms with
      | nil => exact (List.map_eq_nil_iff.mp e2.symm).symm
      | cons b ns ih =>
        cases ms with
        | nil => cases e2
        | cons c ms =>
          rw [List.map_cons, List.map_cons] at e2
          obtain ⟨e3, e4⟩ := List.cons.inj e2
          have hb := h1 b List.mem_cons_self
          have hc := h2 c List.mem_cons_self
          have e5 : b = c := by omega
          rw [e5, ih (fun x hx => h1 x (List.mem_cons_of_mem _ hx)) (fun x hx => h2 x (List.mem_cons_of_mem _ hx)) e4]
/-- the signs of a word, one by one, are told as its bits -/
theorem sign_int {b : Int} (h : b = 0 ∨ b = 1) : PySem.intText? ⟨#[48 + b.toNat]⟩ = some b := by
  rw [← strI_bit h]
  rcases h with rfl | rfl
  · exact int_num (n := 0) (by decide +kernel)
  · exact int_num (n := 1) (by decide +kernel)
theorem tl_sepW : tl sepW = [32] := by decide +kernel
theorem tl_sepR : tl sepR = [59, 32] := by decide +kernel
theorem split_words {parts : List Str} (hn : parts ≠ []) (h : ∀ p ∈ parts, 32 ∉ tl p) : Txt.split (Txt.join sepW parts) sepW = parts := split_join (s := 32) (S := []) tl_sepW (by decide +kernel) hn h
theorem split_parts {parts : List Str} (hn : parts ≠ []) (h : ∀ p ∈ parts, 59 ∉ tl p) : Txt.split (Txt.join sepR parts) sepR = parts := split_join (s := 59) (S := [32]) tl_sepR (by decide +kernel) hn h
theorem word_no {ns : List Int} (h : ∀ b ∈ ns, b = 0 ∨ b = 1) {s : Nat} (hs : s ≠ 45 ∧ s ≠ 48 ∧ s ≠ 49) : s ∉ tl (wordS ns) := fun hm => by
  rcases word_signs h s hm with e | e | e
  · exact hs.1 e
  · exact hs.2.1 e
  · exact hs.2.2 e
/-! ## lists of payloads -/
def listS (ps : List (List Int)) : Str := if ps = [] then "none" else Txt.join sepW (ps.map wordS)
theorem listS_nil : listS [] = "none" := if_pos rfl
theorem tl_none : tl ("none" : Str) = [110, 111, 110, 101] := by decide +kernel
theorem joinL_signs (S : List Nat) : ∀ (l : List (List Nat)) (c : Nat), c ∈ joinL S l → c ∈ S ∨ ∃ p ∈ l, c ∈ p
  | [], c, h => nomatch h
  | [p], c, h => .inr ⟨p, List.mem_cons_self, h⟩
  | p :: q :: r, c, h => by
    rcases List.mem_append.mp (show c ∈ p ++ (S ++ joinL S (q :: r)) from h) with h | h
    · exact .inr ⟨p, List.mem_cons_self, h⟩
    rcases List.mem_append.mp h with h | h
    · exact .inl h
    rcases joinL_signs S (q :: r) c h with h | ⟨z, hz, h⟩
    · exact .inl h
    · exact .inr ⟨z, List.mem_cons_of_mem _ hz, h⟩
theorem listS_none {ps : List (List Int)} (h : ∀ p ∈ ps, ∀ b ∈ p, b = 0 ∨ b = 1) (hn : ps ≠ []) : listS ps ≠ "none" := fun e => by
  unfold listS at e
  rw [if_neg hn] at e
  have e2 := congrArg tl e
  rw [join_eq, tl_join, tl_sepW, tl_none] at e2
  have hm : (110 : Nat) ∈ joinL [32] ((ps.map wordS).map tl) := by rw [e2]; exact List.mem_cons_self
  rcases joinL_signs _ _ _ hm with z | ⟨q, hq, z⟩
  · exact absurd (List.mem_singleton.mp z) (by decide)
  · obtain ⟨s, hs, rfl⟩ := List.mem_map.mp hq
    obtain ⟨p, hp, rfl⟩ := List.mem_map.mp hs
    exact word_no (h p hp) ⟨by decide, by decide, by decide⟩ z
theorem split_list {ps : List (List Int)} (h : ∀ p ∈ ps, ∀ b ∈ p, b = 0 ∨ b = 1) (hn : ps ≠ []) : Txt.split (listS ps) sepW = ps.map wordS := by
  unfold listS
  rw [if_neg hn]
  refine split_words (fun e => hn (List.map_eq_nil_iff.mp e)) fun s hs => ?_
  obtain ⟨p, hp, rfl⟩ := List.mem_map.mp hs
  exact word_no (h p hp) ⟨by decide, by decide, by decide⟩
theorem joinL_len (S : List Nat) {m : Nat} : ∀ l : List (List Nat), (∀ p ∈ l, p.length ≤ m) → (joinL S l).length ≤ l.length * (m + S.length)
  | [], _ => Nat.zero_le _
  | [p], h => by
    show p.length ≤ _
    have := h p List.mem_cons_self
    simp only [List.length_singleton]
    omega
  | p :: q :: r, h => by
    show (p ++ (S ++ joinL S (q :: r))).length ≤ _
    have h1 := h p List.mem_cons_self
    have h2 := joinL_len S (q :: r) fun z hz => h z (List.mem_cons_of_mem _ hz)
    rw [List.length_append, List.length_append, List.length_cons (as := q :: r), Nat.succ_mul]
    omega
theorem sum_le {m : Nat} : ∀ l : List Str, (∀ p ∈ l, p.length ≤ m) → (l.map (·.length)).sum ≤ l.length * m
  | [], _ => Nat.zero_le _
  | p :: l, h => by
    have h1 := h p List.mem_cons_self
    have h2 := sum_le l fun z hz => h z (List.mem_cons_of_mem _ hz)
    rw [List.map_cons, List.sum_cons, List.length_cons, Nat.succ_mul]
    omega
/-! ## numbers -/
theorem num_ascii (n : Nat) : Txt.isascii (strI (n : Int)) = true := by
  show (strI (n : Int)).cps.all (· < 128) = true
  rw [← Array.all_toList, show (strI (n : Int)).cps.toList = numL n from tl_strI n]
  refine List.all_eq_true.mpr fun c hc => ?_
  have := numL_digits n c hc
  exact decide_eq_true (by omega)
theorem num_digit (n : Nat) : Txt.isdigit (strI (n : Int)) = true := by
  show (decide ((strI (n : Int)).length > 0) && (strI (n : Int)).cps.all Unicode.isDigit) = true
  have ten : ∀ d : Fin 10, Unicode.isDigit (48 + d.1) = true := by decide +kernel
  have h0 : 0 < (numL n).length := List.length_pos_iff.mpr (numL_ne n)
  rw [decide_eq_true (show (strI (n : Int)).length > 0 by rw [len_tl, tl_strI]; exact h0), Bool.true_and, ← Array.all_toList, show (strI (n : Int)).cps.toList = numL n from tl_strI n]
  refine List.all_eq_true.mpr fun c hc => ?_
  have r := numL_digits n c hc
  have e := ten ⟨c - 48, by omega⟩
  rw [show 48 + (c - 48) = c by omega] at e
  exact e
theorem num_head : ∀ (n : Nat), 1 ≤ n → ∃ c, (numL n)[0]? = some c ∧ c ≠ 48 := by
  intro n
  induction n using Nat.strongRecOn with
  | _ n ih =>
    intro h1
    by_cases h : n < 10
    · rw [numL_lt h]
      exact ⟨48 + n, rfl, by omega⟩
    · rw [numL_step (by omega)]
      obtain ⟨c, e, nc⟩ := ih (n / 10) (by omega) (by omega)
      have hl : 0 < (numL (n / 10)).length := (List.getElem?_eq_some_iff.mp e).1
      exact ⟨c, by rw [List.getElem?_append_left hl]; exact e, nc⟩
theorem num_read {n : Nat} (h : n < 10000000) : PySem.intText? (strI (n : Int)) = some (n : Int) ∧ (strI (n : Int)).length ≤ 7 := by
  have l := numL_len (n := n) (k := 7) (by decide) (by omega)
  exact ⟨int_num (by omega), by rw [len_tl, tl_strI]; exact l⟩
/-! ## beginnings -/
theorem starts_of (a b : Str) : Txt.startswith (a ++ b) a = true := PySem.W.KT.starts_app a b
theorem cut_app (a b : Str) : cutS (a ++ b) (some (a.length : Int)) none = b := by
  refine ext_tl ?_
  unfold cutS
  rw [HT.sIx_nat, HT.sIx_none, tl_mk]
  have e : (a ++ b).cps.toList = tl a ++ tl b := tl_append a b
  have la : a.length = (tl a).length := len_tl a
  have lab : (a ++ b).length = (tl a).length + (tl b).length := by rw [len_tl, tl_append, List.length_append]
  rw [e, la, lab, Nat.min_eq_left (by omega), List.drop_left, Nat.add_sub_cancel_left, List.take_length]
end Fr

set_option Elab.async false
set_option linter.all false
set_option maxRecDepth 100000
set_option maxHeartbeats 4000000
namespace Fr
open PySem PySem.Spec PyProof.Rows L2
open Evl (Ex)
abbrev s__need_text : Stmt := topS 42
abbrev N__need_text : List Str := ["value"]
theorem sc__need_text : FnScope N__need_text ["value"] (defScope s__need_text) := ⟨rfl, rfl, rfl, by decide +kernel, rfl, by decide +kernel, by decide +kernel⟩
abbrev s_parse_word : Stmt := topS 39
abbrev N_parse_word : List Str := ["text", "sign"]
theorem sc_parse_word : FnScope N_parse_word ["text"] (defScope s_parse_word) := ⟨rfl, rfl, rfl, by decide +kernel, rfl, by decide +kernel, by decide +kernel⟩
abbrev s__behind : Stmt := topS 43
abbrev N__behind : List Str := ["name", "part"]
theorem sc__behind : FnScope N__behind ["name", "part"] (defScope s__behind) := ⟨rfl, rfl, rfl, by decide +kernel, rfl, by decide +kernel, by decide +kernel⟩

/-! # the texts of a rule -/
def insS (p : List Int × Int) : Str := wordS p.1 ++ " puts " ++ strI p.2
def partsS (r : Rule) : List Str := ("flag " ++ wordS r.flag) :: (r.ins.map insS ++ ["check " ++ strI r.chk])
def ruleS (r : Rule) : Str := Txt.join sepR (partsS r)
/-- small enough to be written -/
structure Wr (r : Rule) : Prop where
  g : Good r
  f16 : r.flag.length ≤ 16
  n8 : r.ins.length ≤ 8
  w16 : ∀ p ∈ r.ins, p.1.length ≤ 16
  c6 : r.chk ≤ 1000000
theorem big' {n : Nat} (h : n ≤ 1000000) : n ≤ sizeLine := Nat.le_of_lt (big h)
theorem b01 {ns : List Int} (h : ns.all isB = true) : ∀ b ∈ ns, b = 0 ∨ b = 1 := fun b hb => by
  have z : (0 == b || 1 == b) = true := List.all_eq_true.mp h b hb
  rcases Bool.or_eq_true_iff.mp z with e | e
  · exact .inl (beq_iff_eq.mp e).symm
  · exact .inr (beq_iff_eq.mp e).symm
section
variable {P : Program} {w0 : World} {K : PySem.W.Frag} {mg : Str → Option Value} {base : Heap}
def R__need_text (xs : List Dat) (y : Dat) : Prop := ∃ a : Str, xs = [.str a] ∧ y = .non
theorem len__need_text {xs : List Dat} {y : Dat} (h : R__need_text xs y) : xs.length = 1 := by
  obtain ⟨_, rfl, _⟩ := h
  rfl
theorem ok__need_text {f : Addr} {fd : FuncData} (F : Fun K "_need_text" "_need_text" s__need_text f fd) (T : Bs mg) : FnOk P w0 K mg base CX0 1 f fd ["value"] (Pr R__need_text) := by
  refine fn_pr F sc__need_text (fun xs y h => len__need_text h) fun cdv A outer s H E hr => ⟨_, (pss_one (ps_if (pt_not (pt_val (pe_callB (call_isiK' (K := K) rfl) (by rfl) T.isinstance (by decide +kernel) (pa_cons (pv 0) (pa_cons (pe_bltn (v := .ty "str") (by rfl) T.str (by decide +kernel) rfl) pa_nil))))) (pss_one ps_never) pss_nil)), ?_⟩
  rintro xs y ⟨a, rfl, rfl⟩
  exact run_if (b := false) (et_not (a := true) (et_B (ev_isStr (x := .str a) (ev_var rfl) True.intro))) (fun z => by cases z) fun _ => run_next rfl
def R_parse_word (xs : List Dat) (y : Dat) : Prop := ∃ ns : List Int, ns.all isB = true ∧ ns.length ≤ 1000 ∧ xs = [.str (wordS ns)] ∧ y = w ns
theorem len_parse_word {xs : List Dat} {y : Dat} (h : R_parse_word xs y) : xs.length = 1 := by
  obtain ⟨_, _, _, rfl, _⟩ := h
  rfl
theorem ok_parse_word {f : Addr} {fd : FuncData} (F : Fun K "parse_word" "parse_word" s_parse_word f fd) {f__need_text : Addr} {d__need_text : FuncData} (C__need_text : Cal P w0 K mg base "_need_text" ["value"] 1 R__need_text f__need_text d__need_text) (T : Bs mg) : FnOk P w0 K mg base CX0 2 f fd ["text"] (Pr R_parse_word) := by
  refine fn_pr F sc_parse_word (fun xs y h => len_parse_word h) fun cdv A outer s H E hr => ⟨_, (pss_cons (ps_expr (pe_call C__need_text.ok (hr.mono (by decide)) rfl C__need_text.at_ C__need_text.kp C__need_text.bd .nil pass0 (pa_cons (pv 0) pa_nil)))
      (pss_cons (ps_if (pt_cmpR op_eq (pv 0) pe_str (nomark _)) (pss_one (ps_ret (pe_tup pa_nil))) pss_nil)
      (pss_cons (ps_if (PW.pt (pw_or (pt_cmpR op_eq (pv 0) pe_str (nomark _)) (pw_or1 (pt_not (pt_val (pe_callB (cr_allK (K := K) rfl rfl) (by rfl) T.all (by decide +kernel) (pa_cons (pe_lc (own := [("sign", 1)]) rfl sc_parse_word.nd (pi_str (pv 0)) (blkOk_by (own := [("sign", 1)]) (N := N_parse_word) (sc := defScope s_parse_word) (by decide +kernel)) (fun _ _ _ _ _ => (pg_name (i := 1) sc_parse_word.nd rfl (Or.inl rfl))) (fun _ _ _ _ _ => pts_nil) (fun _ _ _ _ _ => (pe_cmpR (op_inK (K := K) rfl) (pv 1) (pe_tup (pa_cons pe_str (pa_cons pe_str pa_nil))) (by rfl)))) pa_nil))))))) (pss_one ps_never) pss_nil)
      (pss_one (ps_ret (pe_callTy (call_tupK (K := K) rfl) (by rfl) T.tuple (by decide +kernel) (pa_cons (pe_lc (own := [("sign", 1)]) rfl sc_parse_word.nd (pi_str (pv 0)) (blkOk_by (own := [("sign", 1)]) (N := N_parse_word) (sc := defScope s_parse_word) (by decide +kernel)) (fun _ _ _ _ _ => (pg_name (i := 1) sc_parse_word.nd rfl (Or.inl rfl))) (fun _ _ _ _ _ => pts_nil) (fun _ _ _ _ _ => (pe_callTy cr_intS (by rfl) T.int (by decide +kernel) (pa_cons (pv 1) pa_nil)))) pa_nil))))))), ?_⟩
  rintro xs y ⟨ns, hb, hl, rfl, rfl⟩
  have h01 := b01 hb
  refine run_seq1 (run_drop (ev_call (ea_cons (ev_var rfl) ea_nil) ⟨_, rfl, rfl⟩) rfl) ?_
  by_cases hn : ns = []
  · subst hn
    exact run_seq (M := fun _ => False) (run_if (b := true) (et_is (et_test (ev_op (ev_var rfl) ev_str r2_eqS)) (decide_eq_true wordS_nil)) (fun _ => run_ret ev_w0 rfl) fun z => by cases z) fun _ z => z.elim
  · obtain ⟨e1, e2⟩ := word_ne h01 hn
    have et := tl_word h01 hn
    have bg : (TL.tl (wordS ns)).length < sizeLine := by
      rw [et, List.length_map]
      exact big (by omega)
    have sign : ∀ c ∈ TL.tl (wordS ns), ∃ b : Int, (b = 0 ∨ b = 1) ∧ c = 48 + b.toNat := fun c hc => by
      rw [et] at hc
      obtain ⟨b, hb, rfl⟩ := List.mem_map.mp hc
      exact ⟨b, h01 b hb, rfl⟩
    refine run_seq1 (run_if (b := false) (et_is (et_test (ev_op (ev_var rfl) ev_str r2_eqS)) (decide_eq_false e1)) (fun z => by cases z) fun _ => run_next rfl) ?_
    refine run_seq1 (run_if (b := false) (et_or (a := false) (b := false) (et_is (et_test (ev_op (ev_var rfl) ev_str r2_eqS)) (decide_eq_false e2)) fun _ => et_not (a := true) (et_B (ev_is (ev_all (bs := (TL.tl (wordS ns)).map fun _ => true) (er_is (er_ofN (en_lcS (js := [1]) (f := fun _ => true) (v := fun _ => .bl true) (ev_var rfl) (by decide) bg fun c hc => ⟨_, tg_name 1, et_yes, fun _ => ?_⟩)) ?_)) ?_))) (fun z => by cases z) fun _ => run_next rfl) ?_
    · obtain ⟨b, hb, rfl⟩ := sign c hc
      refine ev_is (ev_op (ev_var rfl) (ev_tup (ea_cons ev_str (ea_cons ev_str ea_nil)) (by show 2 ≤ sizeLine; decide)) (r2_inS (ns := ["0", "1"]))) ?_
      rcases hb with rfl | rfl
      · exact congrArg Dat.bl (by decide +kernel)
      · exact congrArg Dat.bl (by decide +kernel)
    · rw [filter_yes, List.map_map]
      rfl
    · rw [List.all_map]
      exact congrArg Dat.bl (List.all_eq_true.mpr fun _ _ => rfl)
    refine run_ret (ev_is (ev_tupL (er_is (ys := ns.map .int) (er_ofN (en_lcS (js := [1]) (f := fun _ => true) (v := fun (c : Nat) => Dat.int (((c : Nat) : Int) - 48)) (ev_var rfl) (by decide) bg fun c hc => ⟨_, tg_name 1, et_yes, fun _ => ?_⟩)) ?_)) rfl) rfl
    · obtain ⟨b, hb, rfl⟩ := sign c hc
      refine ev_is (ev_intS (ev_var rfl) (sign_int hb) (by show 1 ≤ 640; decide)) (congrArg Dat.int ?_)
      omega
    · rw [filter_yes, et, List.map_map]
      refine List.map_congr_left fun b hb => ?_
      have := h01 b hb
      show Dat.int (((48 + b.toNat : Nat) : Int) - 48) = Dat.int b
      congr 1
      omega
def R__behind (xs : List Dat) (y : Dat) : Prop := ∃ a b : Str, a.length ≤ 1000 ∧ b.length ≤ 100000 ∧ xs = [.str a, .str (a ++ b)] ∧ y = .str b
theorem len__behind {xs : List Dat} {y : Dat} (h : R__behind xs y) : xs.length = 2 := by
  obtain ⟨_, _, _, _, rfl, _⟩ := h
  rfl
theorem ok__behind {f : Addr} {fd : FuncData} (F : Fun K "_behind" "_behind" s__behind f fd) (T : Bs mg) : FnOk P w0 K mg base CX0 1 f fd ["name", "part"] (Pr R__behind) := by
  refine fn_pr F sc__behind (fun xs y h => len__behind h) fun cdv A outer s H E hr => ⟨_, (pss_cons (ps_if (pt_not (pt_val (pe_m1 PySem.F.slot_str_startswith PySem.F.type_str_startswith mt_startsS (pv 1) (pv 0)))) (pss_one ps_never) pss_nil)
      (pss_one (ps_ret (pe_slice sl_str (pv 1) (po_some (pe_callB cr_lenStr (by rfl) T.len PySem.boot_len (pa_cons (pv 0) pa_nil))) po_none)))), ?_⟩
  rintro xs y ⟨a, b, ha, hb, rfl, rfl⟩
  have hl : (a ++ b).length = a.length + b.length := by rw [TL.len_tl, TL.tl_append, List.length_append, ← TL.len_tl, ← TL.len_tl]
  refine run_seq1 (run_if (b := false) (et_not (a := true) (et_B (ev_is (ev_starts (ev_var rfl) (ev_var rfl)) (congrArg Dat.bl (starts_of a b))))) (fun z => by cases z) fun _ => run_next rfl) ?_
  exact run_ret (ev_is (ev_cutS (ev_var rfl) (eo_some (ev_lenS (ev_var rfl) (big' (by omega)))) eo_none (by rw [hl]; exact big' (by omega))) (congrArg Dat.str (cut_app a b))) rfl
end
end Fr

set_option Elab.async false
set_option linter.all false
set_option maxRecDepth 100000
set_option maxHeartbeats 4000000
namespace Fr
open PySem PySem.Spec PyProof.Rows L2
open Evl (Ex)
/-! # dicts that change, new lists, lists within lists that are shown -/
def lkX (es : List (L2.Key × Dat)) (k : L2.Key) : Option Dat := (es.find? fun p => decide (p.1 = k)).map (·.2)
def putX (es : List (L2.Key × Dat)) (k : L2.Key) (x : Dat) : List (L2.Key × Dat) :=
  if (es.any fun e => decide (e.1 = k)) = true then es.map (fun e => if e.1 = k then (e.1, x) else e) else es ++ [(k, x)]
section
variable {H : Hp}
theorem RepsD.val (k : L2.Key) : ∀ {kvs : List (L2.Key × V)} {es : List (L2.Key × Dat)}, RepsD H kvs es → (lkX es k = none ∧ valV kvs k = none) ∨ ∃ x v, lkX es k = some x ∧ valV kvs k = some v ∧ Rep H v x
  | _, _, .nil => .inl ⟨rfl, rfl⟩
  | _, _, @RepsD.cons _ k' v d kvs es h r => by
    unfold lkX valV
    by_cases e : k' = k
    · rw [List.find?_cons_of_pos (by simpa using e), List.find?_cons_of_pos (by simpa using e)]
      exact .inr ⟨d, v, rfl, rfl, h⟩
    · rw [List.find?_cons_of_neg (by simpa using e), List.find?_cons_of_neg (by simpa using e)]
      exact RepsD.val k r
theorem RepsD.len : ∀ {kvs : List (L2.Key × V)} {es : List (L2.Key × Dat)}, RepsD H kvs es → kvs.length = es.length
  | _, _, .nil => rfl
  | _, _, .cons _ r => by simp [RepsD.len r]
theorem RepsD.any (k : L2.Key) : ∀ {kvs : List (L2.Key × V)} {es : List (L2.Key × Dat)}, RepsD H kvs es → (kvs.any fun e => decide (e.1 = k)) = (es.any fun e => decide (e.1 = k))
  | _, _, .nil => rfl
  | _, _, .cons h r => by
    rw [List.any_cons, List.any_cons, RepsD.any k r]
theorem RepsD.app : ∀ {vs us : List (L2.Key × V)} {ds es : List (L2.Key × Dat)}, RepsD H vs ds → RepsD H us es → RepsD H (vs ++ us) (ds ++ es)
  | _, _, _, _, .nil, s => s
  | _, _, _, _, .cons h r, s => .cons h (RepsD.app r s)
theorem RepsD.repl {k : L2.Key} {v : V} {x : Dat} (hv : Rep H v x) : ∀ {kvs : List (L2.Key × V)} {es : List (L2.Key × Dat)}, RepsD H kvs es → RepsD H (kvs.map fun e => if e.1 = k then (e.1, v) else e) (es.map fun e => if e.1 = k then (e.1, x) else e)
  | _, _, .nil => .nil
  | _, _, @RepsD.cons _ k' v' d' kvs es h r => by
    rw [List.map_cons, List.map_cons]
    by_cases e : k' = k
    · rw [if_pos e, if_pos e]
      exact .cons hv (RepsD.repl hv r)
    · rw [if_neg e, if_neg e]
      exact .cons h (RepsD.repl hv r)
theorem RepsD.put {k : L2.Key} {v : V} {x : Dat} {kvs : List (L2.Key × V)} {es : List (L2.Key × Dat)} (r : RepsD H kvs es) (hv : Rep H v x) : RepsD H (putK kvs k v) (putX es k x) := by
  unfold putK putX
  rw [r.any k]
  split
  · exact r.repl hv
  · exact r.app (.cons hv .nil)
end
theorem putX_len (es : List (L2.Key × Dat)) (k : L2.Key) (x : Dat) : (putX es k x).length ≤ es.length + 1 := by
  unfold putX
  split <;> simp
theorem lkX_in {es : List (L2.Key × Dat)} {k : L2.Key} {x : Dat} (h : lkX es k = some x) : (k, x) ∈ es := by
  unfold lkX at h
  cases q : es.find? fun p => decide (p.1 = k) with
  | none =>
    rw [q] at h
    cases h
  | some e =>
    rw [q] at h
    cases h
    have h1 := List.mem_of_find?_eq_some q
    have h2 : e.1 = k := of_decide_eq_true (List.find?_some (p := fun p : L2.Key × Dat => decide (p.1 = k)) q)
    rw [← h2]
    exact h1
theorem mem_putX {es : List (L2.Key × Dat)} {k : L2.Key} {x : Dat} {e : L2.Key × Dat} (h : e ∈ putX es k x) : e ∈ es ∨ e = (k, x) := by
  unfold putX at h
  split at h
  · obtain ⟨e', he, rfl⟩ := List.mem_map.mp h
    by_cases q : e'.1 = k
    · rw [if_pos q, q]
      exact .inr rfl
    · rw [if_neg q]
      exact .inl he
  · rcases List.mem_append.mp h with h | h
    · exact .inl h
    · exact .inr (List.mem_singleton.mp h)
section
variable {K : PySem.W.Frag} {S : Sto} {γ γ' : Gam} {ta tb te td tx ty : TE} {tr : TA} {t u : TT} {ts tu tw : TS} {x y : Dat} {ys : List Dat} {P : Dat → Sto → Prop} {PT : Bool → Sto → Prop} {PA : List Dat → Sto → Prop} {N M : Gam → Sto → Prop} {R : Dat → Sto → Prop} {E : XK}
theorem At.none_of {A0 H0 A H : Hp} {σ : L2.St} (a : At A0 H0 A H σ γ S) {l : Addr} (hl : H l = none) : H0 l = none ∧ S l = none := by
  have l0 : H0 l = none := Evl.fresh_back a.g.up hl
  refine ⟨l0, ?_⟩
  cases q : S l with
  | none => rfl
  | some d =>
    obtain ⟨o', e1, _⟩ := (a.s l d q).some
    rw [l0] at e1
    cases e1
/-- a new list becomes a cell -/
theorem es_newN (h : EvN te γ ys) (hp : ∀ l, S l = none → P (.hnd l) (S.put l (.lst ys))) : ExS te γ S P := fun A0 H0 A H σ a Q q =>
  h H0 A H σ a.k _ fun l us B H' g hl hB h1 r => by
    obtain ⟨l0, sl⟩ := a.none_of hl
    obtain ⟨H2, a2, w2⟩ := (a.grow g).new (c := .lst ys) h1 l0 hB (a.far hl) fun Hn e An n => ⟨us, e, n, r⟩
    exact q _ _ _ H2 _ H' (hp l sl) ⟨w2.e, g.view.trans w2.v⟩ a2 (.hnd l)
/-- {}, a cell from here on -/
theorem es_dnew (hp : ∀ l, S l = none → P (.hnd l) (S.put l (.dct []))) : ExS tDNewK γ S P := fun A0 H0 A H σ a Q q p hn => by
  obtain ⟨l0, sl⟩ := a.none_of hn
  have g := Gr.newU (o := .dK []) a.g.sub hn
  have hB : A p = none := Evl.fresh_back a.g.sub hn
  obtain ⟨H2, a2, w2⟩ := (a.grow g).new (c := .dct []) upd_same l0 hB (a.far hn) fun Hn e An n => ⟨[], e, n, .nil⟩
  exact q _ _ _ H2 _ _ (hp p sl) ⟨w2.e, g.view.trans w2.v⟩ a2 (.hnd p)
/-- d.get(k, e) -/
theorem es_dget2 (h : ExS td γ S fun x T => ∃ l es0, x = .hnd l ∧ T l = some (.dct es0) ∧ ExS ty γ T fun y U => ∃ s, y = .str s ∧ ExS tx γ U fun z W => ∃ es, W l = some (.dct es) ∧ P ((lkX es (.inr s)).getD z) W) : ExS (tDGet2 td ty tx) γ S P := fun A0 H0 A H σ a Q q =>
  h A0 H0 A H σ a _ fun v x T H1 B H' ⟨l, es0, e, el, hy⟩ w1 a1 r => by
    subst e
    cases r
    obtain ⟨kvs0, h1, _, _⟩ := a1.cell el
    refine ⟨l, rfl, .inl ⟨kvs0, .inl h1⟩, hy A0 H1 B H' σ a1 _ fun v2 y U H2 C H'' ⟨s, e2, hz⟩ w2 a2 r2 => hz A0 H2 C H'' σ a2 _ fun v3 z W H3 D H4 ⟨es, ew, hp⟩ w3 a3 r3 => ?_⟩
    subst e2
    cases r2
    obtain ⟨kvs, h3, _, rs⟩ := a3.cell ew
    refine ⟨_, DGet.k (k := .inr s) h3, ?_⟩
    rcases rs.val (.inr s) with ⟨e1, e2⟩ | ⟨x', v', e1, e2, rv⟩
    · rw [e2]
      rw [e1] at hp
      exact q _ _ W H3 D H4 hp ((w1.trans w2).trans w3) a3 r3
    · rw [e2]
      rw [e1] at hp
      exact q _ _ W H3 D H4 hp ((w1.trans w2).trans w3) a3 rv
/-- d[k] = e -/
theorem runS_dput (h : ExS te γ S fun x T => ExS td γ T fun d U => ∃ l, d = .hnd l ∧ ExS ty γ U fun y W => ∃ s es, y = .str s ∧ W l = some (.dct es) ∧ es.length < sizeLine ∧ N γ (W.put l (.dct (putX es (.inr s) x)))) : RunS (sDPut td ty te) γ S N R := fun A0 H0 A H σ a D dn dr =>
  h A0 H0 A H σ a _ fun v x T H1 B H' hx w1 a1 r1 => hx A0 H1 B H' σ a1 _ fun v2 d U H2 C H'' ⟨l, e, hy⟩ w2 a2 r2 => hy A0 H2 C H'' σ a2 _ fun v3 y W H3 F H4 ⟨s, es, e2, ew, hz, hN⟩ w3 a3 r3 => by
    subst e e2
    cases r2
    cases r3
    obtain ⟨kvs, h3, hn, rs⟩ := a3.cell ew
    refine ⟨l, _, rfl, DPut.k (k := .inr s) h3 (by rw [rs.len]; exact hz), ?_⟩
    have rx := (r1.mono w2.v).mono w3.v
    obtain ⟨H5, a5, w5⟩ := a3.put (o := .dK (putK kvs (.inr s) v)) (c' := .dct (putX es (.inr s) x)) ew fun Hn e => ⟨_, e, hn, rs.put rx⟩
    exact dn γ _ H5 F _ σ hN (((w1.trans w2).trans w3).trans w5) a5
theorem runS_par {i j : Nat} (h : ExSA tr γ S fun xs T => ∃ x y, xs = [x, y] ∧ N ((γ.set i (.d x)).set j (.d y)) T) : RunS (tPar i j tr) γ S N R := fun A0 H0 A H σ a D dn dr =>
  h A0 H0 A H σ a _ fun vs xs T H1 B H' ⟨x, y, e, hN⟩ w a1 r => by
    subst e
    cases r with
    | cons r1 r2 =>
      cases r2 with
      | cons r2 r3 =>
        cases r3
        exact ⟨_, _, rfl, dn _ T H1 B H' _ hN w ⟨a1.g, (a1.k.setD r1 i).setD r2 j, a1.s⟩⟩
theorem runS_par3 {i j l : Nat} (h : ExSA tr γ S fun xs T => ∃ x y z, xs = [x, y, z] ∧ N (((γ.set i (.d x)).set j (.d y)).set l (.d z)) T) : RunS (tPar3 i j l tr) γ S N R := fun A0 H0 A H σ a D dn dr =>
  h A0 H0 A H σ a _ fun vs xs T H1 B H' ⟨x, y, z, e, hN⟩ w a1 r => by
    subst e
    cases r with
    | cons r1 r2 =>
      cases r2 with
      | cons r2 r3 =>
        cases r3 with
        | cons r3 r4 =>
          cases r4
          exact ⟨_, _, _, rfl, dn _ T H1 B H' _ hN w ⟨a1.g, ((a1.k.setD r1 i).setD r2 j).setD r3 l, a1.s⟩⟩
end
/-! ## data with cells in it, shown to its ground -/
mutual
inductive Deep (S : Sto) (D : Addr → Prop) : Dat → Dat → Prop where
  | same {x : Dat} : Deep S D x x
  | cell {l : Addr} {xs ys : List Dat} : D l → S l = some (.lst xs) → Deeps S D xs ys → Deep S D (.hnd l) (.lst ys)
  | lst {xs ys : List Dat} : Deeps S D xs ys → Deep S D (.lst xs) (.lst ys)
  | tup {xs ys : List Dat} : Deeps S D xs ys → Deep S D (.tup xs) (.tup ys)
inductive Deeps (S : Sto) (D : Addr → Prop) : List Dat → List Dat → Prop where
  | nil : Deeps S D [] []
  | cons {x y : Dat} {xs ys : List Dat} : Deep S D x y → Deeps S D xs ys → Deeps S D (x :: xs) (y :: ys)
end
theorem Deeps.refl {S : Sto} {D : Addr → Prop} : ∀ {xs : List Dat}, Deeps S D xs xs
  | [] => .nil
  | _ :: _ => .cons .same Deeps.refl
section
variable {D : Addr → Prop} {S : Sto} {γ γ' : Gam} {A0 H0 A H : Hp} {σ : L2.St}
mutual
theorem Deep.rep (t : At A0 H0 A H σ γ S) (hD : ∀ a, D a → S a ≠ none) : ∀ {v : V} {x y : Dat}, Deep S D x y → Rep (shown D H A) v x → Rep (shown D H A) v y
  | _, _, _, .same, r => r
  | _, _, _, .cell d e z, .hnd _ => by
    obtain ⟨vs, h1, _, r1⟩ := t.cell e
    exact .lst (by rw [shown_y d]; exact h1) (Deeps.rep t hD z (r1.mono (shown_ex t hD)))
  | _, _, _, .lst z, .lst h r => .lst h (Deeps.rep t hD z r)
  | _, _, _, .tup z, .tup h r => .tup h (Deeps.rep t hD z r)
theorem Deeps.rep (t : At A0 H0 A H σ γ S) (hD : ∀ a, D a → S a ≠ none) : ∀ {vs : List V} {xs ys : List Dat}, Deeps S D xs ys → Reps (shown D H A) vs xs → Reps (shown D H A) vs ys
  | _, _, _, .nil, .nil => .nil
  | _, _, _, .cons z zs, .cons r rs => .cons (Deep.rep t hD z r) (Deeps.rep t hD zs rs)
end
/-- what stands in a slot, its cells shown -/
theorem sees_deep {i : Nat} {x y : Dat} (hD : ∀ a, D a → S a ≠ none) (h : Sees D S γ γ') (h2 : γ'[i]? = some (Slot.d x)) (z : Deep S D x y) : Sees D S γ (γ'.set i (.d y)) := fun A0 H0 A H σ t k => by
  have k1 := h A0 H0 A H σ t k
  obtain ⟨v, e, r⟩ := k1.get i _ h2
  have k2 := k1.setD (Deep.rep t hD z r) i
  have e2 : σ.set i (some v) = σ := by
    refine List.ext_getElem? fun j => ?_
    by_cases q : i = j
    · subst q
      rw [e, List.getElem?_set_self]
      rw [k1.len]
      exact (List.getElem?_eq_some_iff.mp h2).1
    · rw [List.getElem?_set_ne q]
  rw [e2] at k2
  exact k2
end
end Fr

set_option Elab.async false
set_option linter.all false
set_option maxRecDepth 100000
set_option maxHeartbeats 4000000
namespace Fr
open PySem PySem.Spec PyProof.Rows L2
open Evl (Ex)
/-! # a method that is called by keywords alone; o[k] of an own class -/
def KwOk1 (K : PySem.W.Frag) (fd : FuncData) (ps ks : List Str) (js : List Nat) : Prop := KBn K fd ps 1 ks (fun us ws => us ++ pick js ws) (fun vs zs => vs ++ pick js zs)
theorem kw_ok1 {K : PySem.W.Frag} {x qual : Str} {st : Stmt} {f : Addr} {fd : FuncData} {ps ks : List Str} {js : List Nat} (F : Fun K x qual st f fd)
    (h : ∀ (kV doc pm : Value) (an : Option Addr) (cdv ct u : Value) (ws : List Value), ws.length = ks.length → bindArgs (PySem.W.fnOf x qual (defArgs st) (defBody st) (defScope st) .none kV doc pm an cdv ct) ⟨[u], ks.zip ws⟩ = pure (ps.zip (u :: pick js ws))) : KwOk1 K fd ps ks js := by
  obtain ⟨oc, od, kV, doc, pm, an, cdv, ct, osl, rfl, lk, hcd⟩ := F.ex
  refine ⟨fun s us ws X l1 l2 => ?_, fun r1 r2 => r1.append (vals_pick r2 js)⟩
  obtain ⟨u, rfl⟩ := List.length_eq_one_iff.mp l1
  exact .of_eq (h kV doc pm an cdv ct u ws l2)
def tMethW (C : Addr) (m : Str) (js : List Nat) (n : Nat) (sp : Sp) (E : XK) (ta : TE) (tk : TA) : TE := fun σ H Q => ta σ H fun x H1 => ∃ a dx fs, x = .ref a ∧ H1 a = some (.ins C dx fs) ∧ fs.lookup m = none ∧ tk σ H1 fun zs H2 => zs.length = n ∧ sp (x :: pick js zs) H2 Q E
section
variable {X : Cx} {CX : CXT} {k : Nat} {C f : Addr} {m : Str} {fd : FuncData} {ps ks : List Str} {js : List Nat} {sp : Sp} {E : XK} {o e : Expr} {apos pos : Pos} {kws : List Keyword} {ta tb : TE} {tk : TA}
theorem pe_methK {pl : Sem Bool} (he : PE X o ta) (c : Cls X.K C) (hm : Meth X.K C m f) (F : FnOk X.prog X.w X.K X.mg X.base CX k f fd ps sp) (hr : Room k X.A) (hb : KwOk1 X.K fd ps ks js) (hx : Passes CX X E) (hkw : PK X kws tk)
    (hall : (backToKw pos (keywordEach kws X.env)).all (·.1.isSome) = true := by rfl) (hks : (backToKw pos (keywordEach kws X.env)).filterMap (·.1) = ks := by rfl)
    (hpl : ((backTo pos (starEach [] X.env)).any (·.1) || (backToKw pos (keywordEach kws X.env)).any (·.1.isNone)) = false := by rfl)
    (ht : eval (.Call (.Attribute o m apos) [] kws pos) X.env = (do
      let w ← eval o X.env
      standAt apos.atName
      let (g, first) ← holding [w] (getMethod w m pl)
      callWith pos g first (backTo pos (starEach [] X.env)) (backToKw pos (keywordEach kws X.env))) := by rfl) :
    PE X (.Call (.Attribute o m apos) [] kws pos) (tMethW C m js ks.length sp E ta tk) := by
  refine ⟨fun pins s σ H Q I h => ?_⟩
  refine PySem.W.methodCall_KW (pl := pl) (thn (he.run pins s σ H _ I h) fun u s1 ⟨x, H1, I1, rx, a, dx, fs, ex, ea, l, q⟩ => ?_) ht
  subst ex
  obtain rfl : u = Value.ref a := rx
  refine getmeth_ok I1 ea c hm l ?_
  refine PySem.W.callWith_KW0 (first := [.ref a]) (h₀ := X.base) I.ok.mod.kin hm.kp hall ?_ hpl
  refine thn (hkw.run pos pins s1 σ H1 _ I1 q) fun ws s2 ⟨zs, H2, I2, rz, l2, q2⟩ => ⟨I2.kIn, ?_⟩
  rw [hks]
  exact run_fnN (us := [.ref a]) (vs := [.ref a]) F hr hb hx I2 (.cons rfl .nil) rz rfl l2 q2
def rIxOwn (C : Addr) (sp : Sp) (E : XK) : R2 := fun x y H Q => ∃ a dx fs, x = .ref a ∧ H a = some (.ins C dx fs) ∧ sp [.ref a, y] H Q E
theorem pe_ixOwn (F : FnOk X.prog X.w X.K X.mg X.base CX k f fd ps sp) (hr : Room (k + 1) X.A) (s : OwnSp X.K C "__getitem__" f) (hfn : PySem.W.fnIn X.K f = true) (hb : Binds X.K fd ps []) (hx : Passes CX X E) (ha : PE X o ta) (hbb : PE X e tb)
    (hsl : ∀ v u : Value, subscripted e true v u = runValue (.builtin "lifetime.subscript" ⟨[v, u], []⟩) := by intro _ _; rfl) : PE X (.Subscript o e pos) (tOp (rIxOwn C sp E) ta tb) := by
  refine ⟨fun pins s0 σ H Q I h => ?_⟩
  refine Subscript_ (binT ha hbb I h fun v u s2 x y H2 I2 rx ry q => ?_)
  obtain ⟨a, dx, fs, rfl, ea, hq⟩ := q
  cases (show v = Value.ref a from rx)
  obtain ⟨mA, J, _⟩ := ins_get I2.hok ea
  obtain ⟨od, J, _⟩ := J.look
  obtain ⟨mm, hF⟩ := I2.fr
  exact PySem.W.sub_K hF I2.ok.mod.kin J s.at_ hfn s.fn (run_own (n := 0) I2 I2.env0.in1 F hr.in1 hb hx (vs := [.ref a, y]) (.cons rfl (.cons ry .nil)) hq) (hsl _ _)
end
section
variable {K : PySem.W.Frag} {γ : Gam} {S : Sto} {ta tb : TE} {tr : TA} {x y : Dat} {xs : List Dat} {C : Addr} {fs : List (Str × Dat)} {m : Str} {E : XK} {R : List Dat → Dat → Prop} {P : Dat → Sto → Prop} {js : List Nat}
theorem ev_ixO (h : EvD ta γ (.obj C fs)) (hb : EvD tb γ x) (hR : R [.obj C fs, x] y) : EvD (tOp (rIxOwn C (Pr R) E) ta tb) γ y := fun H0 A H σ k Q q =>
  h H0 A H σ k _ fun v B H1 g1 r1 => by
    cases r1 with
    | @obj a _ dx kvs _ h1 rf =>
      exact hb H0 B H1 σ (k.mono g1) _ fun u D H2 g2 r2 => ⟨a, dx, kvs, rfl, g2.sub _ _ (g2.view _ _ h1), D, [.obj C fs, x], y, g2.sub, .cons (.obj (g2.view _ _ h1) (rf.mono g2.view)) (.cons r2 .nil), hR, fun v D' H3 g3 r3 => q v D' H3 ((g1.trans g2).trans g3) r3⟩
theorem es_methK {Pre : Sto → List Dat → (Dat → Sto → Prop) → Prop} {n : Nat} (h : ExS ta γ S fun x T => ∃ p dx fs, x = .hnd p ∧ T p = some (.ins C dx fs) ∧ fs.lookup m = none ∧ ExSA tr γ T fun xs U => xs.length = n ∧ Pre U (.hnd p :: pick js xs) P) : ExS (tMethW C m js n (PrM Pre) E ta tr) γ S P := fun A0 H0 A H σ a Q q =>
  h A0 H0 A H σ a _ fun v x T H1 B H' ⟨p, dx, fs, e, ep, l, hx⟩ w a1 r => by
    subst e
    cases r
    obtain ⟨kvs, h1, hn, rf⟩ := a1.cell ep
    refine ⟨p, dx, kvs, rfl, h1, RepsF.no rf l, hx A0 H1 B H' σ a1 _ fun vs xs U H2 C' H'' ⟨hl, hp⟩ w2 a2 r2 => ⟨by rw [r2.len]; exact hl, ?_⟩⟩
    refine ⟨C', U, .hnd p :: pick js xs, P, a2.g.sub, .cons (.hnd p) (reps_pick r2 js), a2.s.enter a2.g, hp, fun y V' D' H3 H4 v py ev g st rv => ?_⟩
    obtain ⟨a3, w3⟩ := a2.leave ev g st
    exact q v y V' _ D' H4 py ((w.trans w2).trans w3) a3 rv
end
end Fr

set_option Elab.async false
set_option linter.all false
set_option maxRecDepth 100000
set_option maxHeartbeats 4000000
namespace Fr
open PySem PySem.Spec PyProof.Rows L2
open Evl (Ex)
/-! # a store and exceptions: who raises leaves the store as it was -/
def PrME (PreE : Sto → List Dat → Value → Prop) : Sp := fun vs H Q E => ∃ A S xs cls, Ex A H ∧ Reps A vs xs ∧ StS S A H A ∧ PreE S xs cls ∧ ∀ B H', Gr A H B H' → E cls none H'
def PrMB (Pre : Sto → List Dat → (Dat → Sto → Prop) → Prop) (PreE : Sto → List Dat → Value → Prop) : Sp := fun vs H Q E => PrM Pre vs H Q E ∨ PrME PreE vs H Q E
def RunES (ts : TS) (W : WX) (γ : Gam) (S : Sto) (cls : Value) : Prop := ∀ A0 H0 A H σ, At A0 H0 A H σ γ S → ∀ D : Ends, (∀ B H' σ', Gr A H0 B H' → W cls none σ' H') → ts D σ H
def ExES (te : TE) (W : WX) (γ : Gam) (S : Sto) (cls : Value) : Prop := ∀ A0 H0 A H σ, At A0 H0 A H σ γ S → ∀ Q : VK, (∀ B H', Gr A H B H' → W cls none σ H') → te σ H Q
def ExTES (t : TT) (W : WX) (γ : Gam) (S : Sto) (cls : Value) : Prop := ∀ A0 H0 A H σ, At A0 H0 A H σ γ S → ∀ Q : Bool → Hp → Prop, (∀ B H', Gr A H B H' → W cls none σ H') → t σ H Q
def tMethE (C : Addr) (m : Str) (sp : Sp) (E : L2.St → XK) (ta : TE) (t : TA) : TE := fun σ H Q => ta σ H fun x H1 => ∃ a dx fs, x = .ref a ∧ H1 a = some (.ins C dx fs) ∧ fs.lookup m = none ∧ t σ H1 fun vs H2 => sp (x :: vs) H2 Q (E σ)
section
variable {X : Cx} {CX : CXT} {k : Nat} {C f : Addr} {m : Str} {fd : FuncData} {ps : List Str} {sp : Sp} {E : L2.St → XK} {o e : Expr} {es : List Expr} {apos pos : Pos} {ta : TE} {t : TA}
/-- o.m(e, ..) that may raise -/
theorem pe_methE {pl : Sem Bool} (he : PE X o ta) (c : Cls X.K C) (hm : Meth X.K C m f) (F : FnOk X.prog X.w X.K X.mg X.base CX k f fd ps sp) (hr : Room k X.A) (hb : Binds X.K fd ps []) (hx : ∀ σ, PassesAt CX X σ (E σ)) (ha : PA X (e :: es) t)
    (hst : starEach (e :: es) X.env = (false, eval e X.env) :: starEach es X.env := by rfl) (hpl : (backTo pos (starEach es X.env)).any (·.1) = false := by rfl)
    (ht : eval (.Call (.Attribute o m apos) (e :: es) [] pos) X.env = (do
      let w ← eval o X.env
      standAt apos.atName
      let (g, first) ← holding [w] (getMethod w m pl)
      callWith pos g first (backTo pos (starEach (e :: es) X.env)) (backToKw pos (keywordEach [] X.env))) := by rfl) :
    PE X (.Call (.Attribute o m apos) (e :: es) [] pos) (tMethE C m sp E ta t) := by
  refine ⟨fun pins s σ H Q I h => ?_⟩
  refine PySem.W.methodCall_KW (pl := pl) (thn (he.run pins s σ H _ I h) fun u s1 ⟨x, H1, I1, rx, a, dx, fs, ex, ea, l, q⟩ => ?_) ht
  subst ex
  obtain rfl : u = Value.ref a := rx
  refine getmeth_ok I1 ea c hm l ?_
  refine PySem.W.callWith_K (first := [.ref a]) (h₀ := X.base) I.ok.mod.kin hm.kp (thn (ha.run pos pins s1 σ H1 _ I1 q) fun us s2 ⟨vs, H2, I2, r, q2⟩ => ⟨I2.kIn, ?_⟩) hst hpl
  exact run_fnS (us := .ref a :: us) (vs := .ref a :: vs) F hr hb (hx σ) I2 (.cons rfl r) q2
/-- o.m() -/
theorem pe_methE0 {pl : Sem Bool} (he : PE X o ta) (c : Cls X.K C) (hm : Meth X.K C m f) (F : FnOk X.prog X.w X.K X.mg X.base CX k f fd ps sp) (hr : Room k X.A) (hb : Binds X.K fd ps []) (hx : ∀ σ, PassesAt CX X σ (E σ))
    (ht : eval (.Call (.Attribute o m apos) [] [] pos) X.env = (do
      let w ← eval o X.env
      standAt apos.atName
      let (g, first) ← holding [w] (getMethod w m pl)
      callWith pos g first (backTo pos (starEach [] X.env)) (backToKw pos (keywordEach [] X.env))) := by rfl) :
    PE X (.Call (.Attribute o m apos) [] [] pos) (tMethE C m sp E ta tNil) := by
  refine ⟨fun pins s σ H Q I h => ?_⟩
  refine PySem.W.methodCall_KW (pl := pl) (thn (he.run pins s σ H _ I h) fun u s1 ⟨x, H1, I1, rx, a, dx, fs, ex, ea, l, q⟩ => ?_) ht
  subst ex
  obtain rfl : u = Value.ref a := rx
  refine getmeth_ok I1 ea c hm l ?_
  exact PySem.W.callWith_K0 (first := [.ref a]) I1.kIn hm.kp (run_fnS (us := [.ref a]) (vs := [.ref a]) F hr hb (hx σ) I1 (.cons rfl .nil) q)
end
section
variable {K : PySem.W.Frag} {γ δ : Gam} {S T : Sto} {ta te : TE} {tr : TA} {t u : TT} {tu tw : TS} {W : WX} {cls : Value} {x : Dat} {xs : List Dat} {N : Gam → Sto → Prop} {R : Dat → Sto → Prop} {P : Dat → Sto → Prop} {C : Addr} {m : Str} {Pre : Sto → List Dat → (Dat → Sto → Prop) → Prop} {PreE : Sto → List Dat → Value → Prop}
theorem res_lift (h : RunE tu W γ cls) : RunES tu W γ S cls := fun A0 H0 A H σ a D d => h A H0 A H σ a.g.rebase a.k D d
theorem ees_lift (h : EvE te W γ cls) : ExES te W γ S cls := fun A0 H0 A H σ a Q q => h H0 A H σ a.k Q q
theorem res_seq0 (h : RunES tu W γ S cls) : RunES (tSeq tu tw) W γ S cls := fun A0 H0 A H σ a D d => h A0 H0 A H σ a { D with nx := tw D } d
theorem res_seqL {R' : Dat → Gam → Prop} (h : Run tu γ (fun ε => ε = δ) (fun _ _ => False)) (hk : RunES tw W δ S cls) : RunES (tSeq tu tw) W γ S cls := fun A0 H0 A H σ a D d =>
  h A H0 A H σ a.g.rebase a.k { D with nx := tw D } (fun ε B H' σ' e g' v k' => by
    subst e
    exact hk A0 H0 B H' σ' ⟨a.g.unbase g', k', a.s.mono v⟩ D fun C H2 σ2 g2 => d C H2 σ2 ⟨g2.up, v.trans g2.view, g2.sub, fun z o e nt n => g2.hid z o e nt (g'.hid z o e nt n)⟩) fun _ _ _ _ _ _ z _ _ => z.elim
theorem res_ifT {b : Bool} (h : EvT t γ b) (h1 : b = true → RunES tu W γ S cls) (h2 : b = false → RunES tw W γ S cls) : RunES (tIfS t tu tw) W γ S cls := fun A0 H0 A H σ a D d => h H0 A H σ a.k _ fun B H1 g1 => by
  have d' : ∀ C H2 σ2, Gr B H0 C H2 → W cls none σ2 H2 := fun C H2 σ2 g2 => d C H2 σ2 ⟨g2.up, g1.view.trans g2.view, g2.sub, fun z o e nt n => g2.hid z o e nt (g1.hid z o (a.g.up z o e) nt n)⟩
  cases b with
  | true => exact h1 rfl A0 H0 B H1 σ (a.grow g1) D d'
  | false => exact h2 rfl A0 H0 B H1 σ (a.grow g1) D d'
/-- a test over what is shown -/
theorem res_ifV {b : Bool} {D0 : Addr → Prop} {γ' : Gam} (hD : ∀ a, D0 a → S a ≠ none) (hs : Sees D0 S γ γ') (h : EvT t γ' b) (h1 : b = true → RunES tu W γ S cls) (h2 : b = false → RunES tw W γ S cls) : RunES (tIfS t tu tw) W γ S cls := fun A0 H0 A H σ a D d =>
  h noHp (shown D0 H A) H σ (hs A0 H0 A H σ a (a.shownOk hD)) _ fun B H1 g => by
    obtain ⟨g1, _⟩ := a.unshow hD g
    have d' : ∀ C H2 σ2, Gr (unshown D0 B) H0 C H2 → W cls none σ2 H2 := fun C H2 σ2 g2 => d C H2 σ2 ⟨g2.up, g1.view.trans g2.view, g2.sub, fun z o e nt n => g2.hid z o e nt (g1.hid z o (a.g.up z o e) nt n)⟩
    cases b with
    | true => exact h1 rfl A0 H0 _ H1 σ (a.grow g1) D d'
    | false => exact h2 rfl A0 H0 _ H1 σ (a.grow g1) D d'
theorem res_drop (h : ExES te W γ S cls) : RunES (tDrop te) W γ S cls := fun A0 H0 A H σ a D d => h A0 H0 A H σ a _ fun B H' g => d B H' σ ⟨a.g.up.trans g.up, g.view, g.sub, fun z o e nt n => g.hid z o (a.g.up z o e) nt n⟩
theorem res_asg {g : TG} (h : ExES te W γ S cls) : RunES (tAsg te g) W γ S cls := fun A0 H0 A H σ a D d => h A0 H0 A H σ a _ fun B H' g => d B H' σ ⟨a.g.up.trans g.up, g.view, g.sub, fun z o e nt n => g.hid z o (a.g.up z o e) nt n⟩
theorem res_ret (h : ExES te W γ S cls) : RunES (tRet te) W γ S cls := fun A0 H0 A H σ a D d => h A0 H0 A H σ a _ fun B H' g => d B H' σ ⟨a.g.up.trans g.up, g.view, g.sub, fun z o e nt n => g.hid z o (a.g.up z o e) nt n⟩
theorem ees_call (h : EvA tr γ xs) (hR : PreE S xs cls) : ExES (tCallS (PrMB Pre PreE) (WE W) tr) W γ S cls := fun A0 H0 A H σ a Q q =>
  h H0 A H σ a.k _ fun vs B H1 g1 r1 => .inr ⟨B, S, xs, cls, (a.grow g1).g.sub, r1, (a.grow g1).s.enter (a.grow g1).g, hR, fun C H2 g2 => q C H2 (g1.trans g2)⟩
/-- o.m(e, ..) answers -/
theorem es_methB {E : L2.St → XK} (h : ExS ta γ S fun x T => ∃ p dx fs, x = .hnd p ∧ T p = some (.ins C dx fs) ∧ fs.lookup m = none ∧ ExSA tr γ T fun xs U => Pre U (.hnd p :: xs) P) : ExS (tMethE C m (PrMB Pre PreE) E ta tr) γ S P := fun A0 H0 A H σ a Q q =>
  h A0 H0 A H σ a _ fun v x T H1 B H' ⟨p, dx, fs, e, ep, l, hx⟩ w a1 r => by
    subst e
    cases r
    obtain ⟨kvs, h1, hn, rf⟩ := a1.cell ep
    refine ⟨p, dx, kvs, rfl, h1, RepsF.no rf l, hx A0 H1 B H' σ a1 _ fun vs xs U H2 C' H'' hp w2 a2 r2 => .inl ?_⟩
    refine ⟨C', U, .hnd p :: xs, P, a2.g.sub, .cons (.hnd p) r2, a2.s.enter a2.g, hp, fun y V' D' H3 H4 v py ev g st rv => ?_⟩
    obtain ⟨a3, w3⟩ := a2.leave ev g st
    exact q v y V' _ D' H4 py ((w.trans w2).trans w3) a3 rv
/-- o.m(e, ..) raises -/
theorem ees_meth {i : Nat} {p dx : Addr} {fs : List (Str × Dat)} (hi : γ[i]? = some (Slot.d (.hnd p))) (ep : S p = some (.ins C dx fs)) (l : fs.lookup m = none) (h : EvA tr γ xs) (hR : PreE S (.hnd p :: xs) cls) : ExES (tMethE C m (PrMB Pre PreE) (WE W) (tVar i) tr) W γ S cls := fun A0 H0 A H σ a Q q => by
  obtain ⟨v, e, r⟩ := a.k.get i _ hi
  cases r
  obtain ⟨kvs, h1, hn, rf⟩ := a.cell ep
  exact ⟨.ref p, e, p, dx, kvs, rfl, h1, RepsF.no rf l, h H0 A H σ a.k _ fun vs B H1 g1 r1 => .inr ⟨B, S, .hnd p :: xs, cls, (a.grow g1).g.sub, .cons (.hnd p) r1, (a.grow g1).s.enter (a.grow g1).g, hR, fun C' H2 g2 => q C' H2 (g1.trans g2)⟩⟩
end
section
variable {K : PySem.W.Frag} {γ : Gam} {S : Sto} {N : Gam → Sto → Prop} {R : Dat → Sto → Prop} {c : Value} {i : Nat} {Wout : WX} {cls : Value}
/-- try: o.m(..) / except X as e: .., when it answers -/
theorem runS_tryG {te : WX → TE} {ts : Addr → Value → Option Addr → TS} (hG : ∀ W, ExS (te W) γ S fun _ T => N γ T) : RunS (fun D σ H => tDrop (te (wAs K c i ts Wout D)) D σ H) γ S N R := fun A0 H0 A H σ a D dn dr =>
  hG _ A0 H0 A H σ a _ fun v x T H1 B H' n w a1 r => dn γ T H1 B H' σ n w a1
/-- .. and when it raises -/
theorem runS_tryE {te : WX → TE} {ts : Addr → Value → Option Addr → TS} (hE : ∀ W, ExES (te W) W γ S cls) (hx : PySem.W.exmOne K cls c = some true) (hs : ∀ a, RunS (ts a cls none) (γ.set i (.d (.hnd a))) S (fun δ T => N (δ.set i .no) T) R) :
    RunS (fun D σ H => tDrop (te (wAs K c i ts Wout D)) D σ H) γ S N R := fun A0 H0 A H σ a D dn dr =>
  hE _ A0 H0 A H σ a _ fun B H1 g1 => ⟨true, hx, fun _ e _ => by
    have a1 := a.grow g1
    have w1 : Way A0 S H0 A S H0 B := ⟨Evo.refl, g1.view⟩
    exact hs e A0 H0 B H1 _ ⟨a1.g, a1.k.setD (.hnd e) i, a1.s⟩ _ (fun δ T H2 C H3 σ' n w2 a2 => dn _ T H2 C H3 _ n (w1.trans w2) ⟨a2.g, a2.k.forget i none, a2.s⟩) fun v x T H2 C H3 r w2 g2 s2 rx => dr v x T H2 C H3 r (w1.trans w2) g2 s2 rx, fun z => nomatch z⟩
end
section
variable {P : Program} {w0 : World} {K : PySem.W.Frag} {mg : Str → Option Value} {base : Heap}
/-- a def with a store that may raise -/
theorem fn_prMB {x qual : Str} {st : Stmt} {f : Addr} {fd : FuncData} {N ps : List Str} {k : Nat} {Pre : Sto → List Dat → (Dat → Sto → Prop) → Prop} {PreE : Sto → List Dat → Value → Prop} (F : Fun K x qual st f fd) (S : FnScope N ps (defScope st)) (hlen : ∀ S xs P, Pre S xs P → xs.length = ps.length) (hlenE : ∀ S xs c, PreE S xs c → xs.length = ps.length)
    (hbody : ∀ (cdv : Value) (A : Around) (outer : List PySem.Env) (s : Shared) (H : Hp) (E : XK), Room k (A.deeper (envOfC qual (defScope st) s.heap.objs.size f cdv)) →
      ∃ t, PSs (cxOf (L2.CX P w0) P w0 K mg base N qual (defScope st) f cdv A outer s H E) (defBody st) t ∧ (∀ S xs P, Pre S xs P → RunS t (entry N xs) S (fun _ T => P .non T) P) ∧ (∀ S xs c, PreE S xs c → RunES t (fun c d _ H => E c d H) (entry N xs) S c)) :
    FnOk P w0 K mg base (L2.CX P w0) (k + 1) f fd ps (PrMB Pre PreE) := by
  refine F.okX S (fun vs H Q E h => ?_) fun cdv A outer s H vs Q E hr h => ?_
  · rcases h with ⟨A, S, xs, P, _, r, _, hp, _⟩ | ⟨A, S, xs, c, _, r, _, hp, _⟩
    · rw [r.len]
      exact hlen S xs P hp
    · rw [r.len]
      exact hlenE S xs c hp
  · obtain ⟨t, h1, h2, h3⟩ := hbody cdv A outer s H E hr
    refine ⟨t, h1, ?_⟩
    rcases h with ⟨B, S, xs, P, sub, r, st, hp, q⟩ | ⟨B, S, xs, c, sub, r, st, hp, q⟩
    · refine h2 S xs P hp B H B H _ ⟨Gr.refl sub, ok_entry sub N r, st⟩ _ (fun δ T H1 C H' σ' hn w a => ?_) fun v x T H1 C H' hx w g s2 rx => ?_
      · exact q .non T C H1 H' .non hn w.e a.g a.s .non
      · exact q x T C H1 H' v hx w.e g s2 rx
    · exact h3 S xs c hp B H B H _ ⟨Gr.refl sub, ok_entry sub N r, st⟩ _ fun C H' σ' g => q C H' g
end
end Fr

set_option Elab.async false
set_option linter.all false
set_option maxRecDepth 100000
set_option maxHeartbeats 4000000
namespace Fr
open PySem PySem.Spec PyProof.Rows L2
open Evl (Ex)
/-! # lists that change by their items; loops; objects within data, shown -/
section
variable {K : PySem.W.Frag} {S : Sto} {γ γ' δ : Gam} {ta tb te : TE} {tr : TA} {t u : TT} {ts tu tw : TS} {x y : Dat} {P : Dat → Sto → Prop} {PT : Bool → Sto → Prop} {PA : List Dat → Sto → Prop} {N M : Gam → Sto → Prop} {R : Dat → Sto → Prop} {E : XK} {i : Nat}
/-- l[k] -/
theorem es_ixC (h : ExS ta γ S fun x T => ∃ l, x = .hnd l ∧ ExS tb γ T fun y U => ∃ (k : Int) (xs : List Dat) (z : Dat), y = .int k ∧ U l = some (.lst xs) ∧ atI xs k = some z ∧ P z U) : ExS (tOp (rIxL K) ta tb) γ S P := fun A0 H0 A H σ a Q q =>
  h A0 H0 A H σ a _ fun v x T H1 B H' ⟨l, e, hy⟩ w1 a1 r1 => by
    subst e
    cases r1
    exact hy A0 H1 B H' σ a1 _ fun v2 y U H2 C H'' ⟨k, xs, z, e2, el, hz, hp⟩ w2 a2 r2 => by
      subst e2
      cases r2
      obtain ⟨vs, h1, _, rs⟩ := a2.cell el
      obtain ⟨v3, e3, rv⟩ := atI_rep rs hz
      exact ⟨l, vs, k, v3, rfl, rfl, SqL.of h1, e3, q v3 z U H2 C H'' hp (w1.trans w2) a2 rv⟩
theorem ixN_len {n : Nat} {i : Int} {j : Nat} (h : ixN n i = some j) : j < n := (ixN_seq h).2.1
/-- l[k] = e -/
theorem runS_setC (h : ExS te γ S fun x T => ExS ta γ T fun y U => ∃ l, y = .hnd l ∧ ExS tb γ U fun z W => ∃ (j : Int) (n : Nat) (xs : List Dat), z = .int j ∧ W l = some (.lst xs) ∧ ixN xs.length j = some n ∧ N γ (W.put l (.lst (xs.set n x)))) : RunS (tAsg te (gSub ta tb rSetL)) γ S N R := fun A0 H0 A H σ a D dn dr =>
  h A0 H0 A H σ a _ fun v x T H1 B H' hx w1 a1 r1 => hx A0 H1 B H' σ a1 _ fun v2 y U H2 C H'' ⟨l, e2, hz⟩ w2 a2 r2 => by
    subst e2
    cases r2
    exact hz A0 H2 C H'' σ a2 _ fun v3 z W H3 G H4 ⟨j, n, xs, e3, el, hn, hN⟩ w3 a3 r3 => by
      subst e3
      cases r3
      obtain ⟨vs, h3, hG, rs⟩ := a3.cell el
      refine ⟨l, vs, j, n, rfl, rfl, h3, by rw [rs.len]; exact hn, ?_⟩
      obtain ⟨H5, a5, w5⟩ := a3.put (o := .lst (vs.set n v)) (c' := .lst (xs.set n x)) el fun Hn e => ⟨_, e, hG, rs.set (((r1.mono w2.v)).mono w3.v) n⟩
      exact dn γ _ H5 G _ σ hN (((w1.trans w2).trans w3).trans w5) a5
/-- for j in range(e), e with a store -/
theorem runS_forX {j : Nat} (h : ExSA tr γ S fun xs T => ∃ (n : Int) (I : Nat → Gam → Sto → Prop), xs = [.int n] ∧ (-(2 ^ 62) ≤ n ∧ n < 2 ^ 62) ∧ I 0 γ T ∧
    (∀ (i : Nat) δ T, (i : Int) < n → I i δ T → RunS tu (δ.set j (.d (.int (i : Int)))) T (I (i + 1)) R) ∧ ∀ δ T, I n.toNat δ T → N δ T) : RunS (tFor (iRng1 tr) (gName j) tu) γ S N R := fun A0 H0 A H σ a D dn dr =>
  h A0 H0 A H σ a _ fun vs xs T1 HT B H1 ⟨n, I, ex, hn, h0, hs, hd⟩ w1 a1 r1 => by
    subst ex
    cases r1 with
    | cons r1 r2 =>
      cases r1
      cases r2
      refine ⟨n, rfl, hn.1, hn.2, for_range (lo := 0) (n := n.toNat) (fun i σ' H' => ∃ δ T H2 C, I i δ T ∧ Way A0 S H0 A T H2 C ∧ At A0 H2 C H' σ' δ T) ⟨γ, T1, HT, B, h0, w1, a1⟩ ?_ ?_⟩
      · rintro i σ' H' hi ⟨δ, T, H2, C, hI, w2, a2⟩
        have e0 : (0 : Int) + (i : Int) = (i : Int) := Int.zero_add _
        rw [e0]
        have k3 := a2.k.setD (v := .int (i : Int)) (.int _) j
        exact hs i δ T (by omega) hI A0 H2 C H' _ ⟨a2.g, k3, a2.s⟩ { D with nx := _, ct := _, bk := D.nx } (fun δ' T' H3 C' H4 σ4 hN w3 a4 => ⟨δ', T', H3, C', hN, w2.trans w3, a4⟩) fun v x U H3 C' H4 r w3 g3 s3 rx => dr v x U H3 C' H4 r (w2.trans w3) g3 s3 rx
      · rintro σ' H' ⟨δ, T, H2, C, hI, w2, a2⟩
        exact dn δ T H2 C H' σ' (hd δ T hI) w2 a2
/-- while t: .. -/
theorem runS_while (I : Nat → Gam → Sto → Prop) (m0 : Nat) (h0 : I m0 γ S) (hs : ∀ m δ T, I m δ T → ExST t δ T fun b U => (b = true → RunS tu δ U (fun ε V => ∃ m', m' < m ∧ I m' ε V) R) ∧ (b = false → N δ U)) : RunS (tWhile t tu) γ S N R := fun A0 H0 A H σ a D dn dr => by
  refine ⟨fun m σ' H' => ∃ δ T H2 C, I m δ T ∧ Way A0 S H0 A T H2 C ∧ At A0 H2 C H' σ' δ T, ⟨m0, γ, S, H0, A, h0, Way.refl, a⟩, ?_⟩
  rintro m σ' H' ⟨δ, T, H2, C, hI, w2, a2⟩
  refine hs m δ T hI A0 H2 C H' σ' a2 _ fun b U H3 F H4 hb w3 a3 => ?_
  cases b with
  | true =>
    refine ⟨fun σ5 H5 => ∃ ε V H6 G, (∃ m', m' < m ∧ I m' ε V) ∧ Way A0 S H0 A V H6 G ∧ At A0 H6 G H5 σ5 ε V, fun σ5 H5 ⟨ε, V, H6, G, ⟨m', hm, hI'⟩, wa, at'⟩ => ⟨m', hm, ε, V, H6, G, hI', wa, at'⟩, ?_⟩
    exact hb.1 rfl A0 H3 F H4 σ' a3 { D with nx := _, ct := _, bk := D.nx } (fun ε V H6 G H5 σ5 hN w4 a4 => ⟨ε, V, H6, G, hN, (w2.trans w3).trans w4, a4⟩) fun v x V H6 G H5 r w4 g4 s4 rx => dr v x V H6 G H5 r ((w2.trans w3).trans w4) g4 s4 rx
  | false => exact dn δ U H3 F H4 σ' (hb.2 rfl) (w2.trans w3) a3
end
/-! ## data with cells and objects in it, shown -/
mutual
inductive Seen (S : Sto) (D : Addr → Prop) : Dat → Dat → Prop where
  | same {x : Dat} : Seen S D x x
  | cell {l : Addr} {xs ys : List Dat} : D l → S l = some (.lst xs) → Seens S D xs ys → Seen S D (.hnd l) (.lst ys)
  | obj {p C dx : Addr} {fs gs : List (Str × Dat)} : D p → S p = some (.ins C dx fs) → Frz S D fs gs → Seen S D (.hnd p) (.obj C gs)
  | lst {xs ys : List Dat} : Seens S D xs ys → Seen S D (.lst xs) (.lst ys)
  | tup {xs ys : List Dat} : Seens S D xs ys → Seen S D (.tup xs) (.tup ys)
inductive Seens (S : Sto) (D : Addr → Prop) : List Dat → List Dat → Prop where
  | nil : Seens S D [] []
  | cons {x y : Dat} {xs ys : List Dat} : Seen S D x y → Seens S D xs ys → Seens S D (x :: xs) (y :: ys)
end
theorem Seens.refl {S : Sto} {D : Addr → Prop} : ∀ {xs : List Dat}, Seens S D xs xs
  | [] => .nil
  | _ :: _ => .cons .same Seens.refl
theorem Seens.map {S : Sto} {D : Addr → Prop} {α : Type} {f g : α → Dat} : ∀ {l : List α}, (∀ a ∈ l, Seen S D (f a) (g a)) → Seens S D (l.map f) (l.map g)
  | [], _ => .nil
  | a :: l, h => .cons (h a List.mem_cons_self) (Seens.map fun b hb => h b (List.mem_cons_of_mem _ hb))
section
variable {D : Addr → Prop} {S : Sto} {γ γ' : Gam} {A0 H0 A H : Hp} {σ : L2.St}
mutual
theorem Seen.rep (t : At A0 H0 A H σ γ S) (hD : ∀ a, D a → S a ≠ none) : ∀ {v : V} {x y : Dat}, Seen S D x y → Rep (shown D H A) v x → Rep (shown D H A) v y
  | _, _, _, .same, r => r
  | _, _, _, .cell d e z, .hnd _ => by
    obtain ⟨vs, h1, _, r1⟩ := t.cell e
    exact .lst (by rw [shown_y d]; exact h1) (Seens.rep t hD z (r1.mono (shown_ex t hD)))
  | _, _, _, .obj d e z, .hnd _ => by
    obtain ⟨kvs, h1, _, rf⟩ := t.cell e
    exact .obj (by rw [shown_y d]; exact h1) (Frz.rep t hD z rf)
  | _, _, _, .lst z, .lst h r => .lst h (Seens.rep t hD z r)
  | _, _, _, .tup z, .tup h r => .tup h (Seens.rep t hD z r)
theorem Seens.rep (t : At A0 H0 A H σ γ S) (hD : ∀ a, D a → S a ≠ none) : ∀ {vs : List V} {xs ys : List Dat}, Seens S D xs ys → Reps (shown D H A) vs xs → Reps (shown D H A) vs ys
  | _, _, _, .nil, .nil => .nil
  | _, _, _, .cons z zs, .cons r rs => .cons (Seen.rep t hD z r) (Seens.rep t hD zs rs)
end
/-- what stands in a slot, its cells and objects shown -/
theorem sees_seen {i : Nat} {x y : Dat} (hD : ∀ a, D a → S a ≠ none) (h : Sees D S γ γ') (h2 : γ'[i]? = some (Slot.d x)) (z : Seen S D x y) : Sees D S γ (γ'.set i (.d y)) := fun A0 H0 A H σ t k => by
  have k1 := h A0 H0 A H σ t k
  obtain ⟨v, e, r⟩ := k1.get i _ h2
  have k2 := k1.setD (Seen.rep t hD z r) i
  have e2 : σ.set i (some v) = σ := by
    refine List.ext_getElem? fun j => ?_
    by_cases q : i = j
    · subst q
      rw [e, List.getElem?_set_self]
      rw [k1.len]
      exact (List.getElem?_eq_some_iff.mp h2).1
    · rw [List.getElem?_set_ne q]
  rw [e2] at k2
  exact k2
end
section
variable {K : PySem.W.Frag} {S : Sto} {γ : Gam} {ta tb te : TE} {tr tk : TA} {P : Dat → Sto → Prop} {E : XK} {C : Addr}
/-- a op b, over what is shown -/
theorem es_opV {r : R2} (h : ExS ta γ S fun x T => ExS tb γ T fun y U => ∃ (D : Addr → Prop) (x' y' z : Dat), (∀ a, D a → U a ≠ none) ∧ Seen U D x x' ∧ Seen U D y y' ∧ R2D r x' y' z ∧ Flat z ∧ P z U) : ExS (tOp r ta tb) γ S P := fun A0 H0 A H σ a Q q =>
  h A0 H0 A H σ a _ fun v x T H1 B H' hx w1 a1 r1 => hx A0 H1 B H' σ a1 _ fun v2 y U H2 C H'' ⟨D, x', y', z, hD, sx, sy, hr, fl, hp⟩ w2 a2 r2 => by
    have v1 := shown_ex a2 hD
    refine hr (shown D H'' C) H'' v v2 (shown_sub a2) (Seen.rep a2 hD sx ((r1.mono w2.v).mono v1)) (Seen.rep a2 hD sy (r2.mono v1)) _ fun p F H3 g r3 => ?_
    obtain ⟨g2, kp⟩ := a2.unshow hD g
    exact q p z U H2 _ H3 hp ⟨(w1.trans w2).e, (w1.trans w2).v.trans g2.view⟩ (a2.grow g2) (r3.flat kp fl)
/-- C(k = e, ..), its instance a cell -/
theorem es_makeK {Pre : Sto → List Dat → (Dat → Sto → Prop) → Prop} {m : Nat} {js : List Nat} (h : ExSA tk γ S fun xs T => xs.length = m ∧ ∀ x dx, T x = none → Pre (T.put x (.ins C dx [])) (.hnd x :: pick js xs) (fun y U => y = .non ∧ P (.hnd x) U)) :
    ExS (tMakeK C 0 m (PrM Pre) (fun vs zs => vs ++ pick js zs) E tNil tk) γ S P := fun A0 H0 A H σ a Q q =>
  h A0 H0 A H σ a _ fun vs xs T H1 B H' ⟨hl, hp⟩ w a1 r => ⟨rfl, by rw [r.len]; exact hl, fun x dx hx hdx ne => by
    have s1 : Ex B H' := a1.g.sub
    have bx : B x = none := Evl.fresh_back s1 hx
    have hx1 : upd H' dx (.own x) x = none := by rw [upd_ne (Ne.symm ne)]; exact hx
    have g1 : Gr B H' B (upd H' dx (.own x)) := Gr.newU s1 hdx
    have g2 : Gr B H' B (upd (upd H' dx (.own x)) x (.ins C dx [])) := g1.trans (Gr.newU g1.sub hx1)
    have a2 := a1.grow g2
    have h0 : H1 x = none := Evl.fresh_back a1.g.up hx
    obtain ⟨H3, a3, w3⟩ := a2.new (c := .ins C dx []) upd_same h0 bx (a1.far hx) fun Hn e An n => ⟨[], e, n, .nil⟩
    have tx : T x = none := (a1.none_of hx).2
    refine ⟨B, T.put x (.ins C dx []), .hnd x :: pick js xs, _, a3.g.sub, .cons (.hnd x) (reps_pick r js), a3.s.enter a3.g, hp x dx tx, fun y U D' H4 H5 v py ev g st rv => ?_⟩
    obtain ⟨e1, py⟩ := py
    subst e1
    cases rv
    obtain ⟨a4, w4⟩ := a3.leave ev g st
    exact ⟨rfl, q (.ref x) (.hnd x) U _ D' H5 py ((w.trans w3).trans w4) a4 (.hnd x)⟩⟩
end
/-! ## == of an own object with a tuple, with None -/
section
variable {X : Cx} {K : PySem.W.Frag} {C : Addr} {E : XK} {R : List Dat → Dat → Prop} {fs : List (Str × Dat)}
theorem ty_tup {b : Addr} {xs : List V} {H : Hp} (h : H b = some (.tup xs)) : TyOf X (.ref b) H (.type "tuple") := fun pins σ s u I r => by
  cases (show u = Value.ref b from r)
  obtain ⟨_, _, _, o, h1, h2, _⟩ := (show ObjOk X.prog X.w H s.heap b (.tup xs) from I.hok b _ h)
  exact fun A Q E s k q => wpAny_typeOf_ref (k _ _ h1) (by rw [h2]; exact q)
theorem ty_non {H : Hp} : TyOf X .non H (.type "NoneType") := fun pins σ s u I r => by
  cases (show u = Value.none from r)
  exact PySem.W.Looks.of_pure rfl
theorem r2_eqOT {ds : List Dat} {b : Bool} (eK : X.K = K) (hn : PySem.W.notFirst K C (.type "tuple") = true) (hR : R [.obj C fs, .tup ds] (.bl b)) : R2D (rEqOwn X C (Pr R) E) (.obj C fs) (.tup ds) (.bl b) := fun A H vx vy s r1 r2 Q q => by
  subst eK
  cases r1 with
  | @obj a _ dx kvs _ h1 rf =>
    cases r2 with
    | @tup a2 us _ h2 ru =>
      refine ⟨a, dx, kvs, .type "tuple", rfl, s _ _ h1, ty_tup (s _ _ h2), hn, A, [.obj C fs, .tup ds], .bl b, s, .cons (.obj h1 rf) (.cons (.tup h2 ru) .nil), hR, fun v B H2 g2 r2 => ?_⟩
      cases r2
      exact ⟨b, rfl, q _ B H2 g2 (.bl b)⟩
theorem r2_eqON {b : Bool} (eK : X.K = K) (hn : PySem.W.notFirst K C (.type "NoneType") = true) (hR : R [.obj C fs, .non] (.bl b)) : R2D (rEqOwn X C (Pr R) E) (.obj C fs) .non (.bl b) := fun A H vx vy s r1 r2 Q q => by
  subst eK
  cases r1 with
  | @obj a _ dx kvs _ h1 rf =>
    cases r2
    refine ⟨a, dx, kvs, .type "NoneType", rfl, s _ _ h1, ty_non, hn, A, [.obj C fs, .non], .bl b, s, .cons (.obj h1 rf) (.cons .non .nil), hR, fun v B H2 g2 r2 => ?_⟩
    cases r2
    exact ⟨b, rfl, q _ B H2 g2 (.bl b)⟩
end
end Fr

set_option Elab.async false
set_option linter.all false
set_option maxRecDepth 100000
set_option maxHeartbeats 4000000
namespace Fr
open PySem PySem.Spec PyProof.Rows L2
open Evl (Ex)
/-! # for x in (e, ..), e with a store -/
section
variable {K : PySem.W.Frag} {γ : Gam} {S : Sto} {N : Gam → Sto → Prop} {R : Dat → Sto → Prop} {tu : TS}
theorem runS_forT {tl : TE} {g : TG} (h : ExS tl γ S fun x T => ∃ (xs : List Dat) (I : Nat → Gam → Sto → Prop), x = .tup xs ∧ I 0 γ T ∧
    (∀ i x δ U, xs[i]? = some x → I i δ U → ∃ js ε, Tg g js δ x ε ∧ RunS tu ε U (I (i + 1)) R) ∧ ∀ δ U, I xs.length δ U → N δ U) : RunS (tFor (iTup K tl) g tu) γ S N R := fun A0 H0 A H σ a D dn dr =>
  h A0 H0 A H σ a _ fun v x T1 HT B H1 ⟨xs, I, ex, h0, hs, hd⟩ w1 a1 r1 => by
    subst ex
    cases r1 with
    | @tup b us _ ha ru =>
      refine ⟨b, rfl, ⟨us, SqT.of (a1.g.sub _ _ ha)⟩, for_tup (K := K) (xs := us) (fun i σ' H' => ∃ δ T H2 C, I i δ T ∧ Way A0 S H0 A T H2 C ∧ Ex B C ∧ At A0 H2 C H' σ' δ T) ⟨γ, T1, HT, B, h0, w1, Ex.refl B, a1⟩ ?_ ?_ ?_⟩
      · rintro i σ' H' _ ⟨δ, T, H2, C, _, _, v2, a2⟩
        exact SqT.of (a2.g.sub _ _ (v2 _ _ ha))
      · rintro i u σ' H' hi ⟨δ, T, H2, C, hI, w2, v2, a2⟩
        obtain ⟨x, hx, rx⟩ := ru.getV hi
        obtain ⟨js, ε, ht, hr⟩ := hs i x δ T hx hI
        refine ht H2 C H' σ' u a2.k (rx.mono v2) _ fun σ3 k3 _ _ => ?_
        exact hr A0 H2 C H' σ3 ⟨a2.g, k3, a2.s⟩ { D with nx := _, ct := _, bk := D.nx } (fun δ' T' H3 C' H4 σ4 hN w3 a4 => ⟨δ', T', H3, C', hN, w2.trans w3, v2.trans w3.v, a4⟩) fun v x U H3 C' H4 r w3 g3 s3 rx => dr v x U H3 C' H4 r (w2.trans w3) g3 s3 rx
      · rintro σ' H' ⟨δ, T, H2, C, hI, w2, v2, a2⟩
        rw [ru.len] at hI
        exact dn δ T H2 C H' σ' (hd δ T hI) w2 a2
end
end Fr

set_option Elab.async false
set_option linter.all false
set_option maxRecDepth 100000
set_option maxHeartbeats 4000000
namespace Fr
open PySem PySem.Spec PyProof.Rows L2
open Evl (Ex)
/-! # what raises by constructors, methods, indexes; a list that is made step by step and stands still from then on -/
def Sto.del (S : Sto) (p : Addr) : Sto := fun a => if a = p then none else S a
theorem Sto.del_ne {S : Sto} {p a : Addr} (h : a ≠ p) : S.del p a = S a := if_neg h
def delH (H : Hp) (p : Addr) : Hp := fun a => if a = p then none else H a
theorem delH_ne {H : Hp} {p a : Addr} (h : a ≠ p) : delH H p a = H a := if_neg h
theorem delH_same {H : Hp} {p : Addr} : delH H p p = none := if_pos rfl
def Calmly (γ : Gam) : Prop := ∀ (i : Nat) (s : Slot), γ[i]? = some s → s.mine = false
section
variable {S T U : Sto} {A0 H0 A H H1 B H' : Hp} {σ : L2.St} {γ : Gam} {D : Addr} {o : HO}
/-- the slots do not mind what happens at an address that is none of theirs -/
theorem Ok.ground (k : Ok H0 A H σ γ) (m : Calmly γ) (s : Ex A H') : Ok H1 A H' σ γ := by
  refine ⟨s, k.len, k.get, fun i xs h => ?_, fun i es h => ?_, fun i c xs h => ?_, fun i K ns h => ?_, k.sep⟩
  · exact nomatch m i _ h
  · exact nomatch m i _ h
  · exact nomatch m i _ h
  · exact k.scr i K ns h
theorem At.park (a : At A0 H0 A H σ γ S) (m : Calmly γ) (hH : H D = some o) (h0 : H0 D = none) (hA : A D = none) : At A0 (upd H0 D o) A H σ γ S := by
  refine ⟨⟨fun x u e => ?_, a.g.view, a.g.sub, fun x u e nt n => ?_⟩, a.k.ground m a.g.sub, fun p c e => ?_⟩
  · by_cases z : x = D
    · subst z
      rw [upd_same] at e
      rw [hH]
      exact e
    · rw [upd_ne z] at e
      exact a.g.up x u e
  · by_cases z : x = D
    · rw [z]
      exact hA
    · rw [upd_ne z] at e
      exact a.g.hid x u e nt n
  · obtain ⟨o', h1, _, h3⟩ := (a.s p c e).some
    have z : p ≠ D := fun z => by rw [z, h0] at h1; cases h1
    exact (a.s p c e).at (upd_ne z) h3 (Ex.refl A)
theorem At.unpark (a : At A0 H1 B H' σ γ T) (m : Calmly γ) (tD : T D = none) : At A0 (delH H1 D) B H' σ γ T := by
  have s : ∀ x u, delH H1 D x = some u → H1 x = some u := fun x u e => by
    by_cases z : x = D
    · rw [z, delH_same] at e
      cases e
    · rw [delH_ne z] at e
      exact e
  refine ⟨⟨fun x u e => a.g.up x u (s x u e), a.g.view, a.g.sub, fun x u e nt n => a.g.hid x u (s x u e) nt n⟩, a.k.ground m a.g.sub, fun p c e => ?_⟩
  have z : p ≠ D := fun z => by rw [z, tD] at e; cases e
  exact (a.s p c e).at (delH_ne z) (a.s p c e).some.choose_spec.2.2 (Ex.refl B)
theorem At.touch (a : At A0 H1 B H' σ γ T) (m : Calmly γ) (h1 : H1 D = none) (hB : B D = none) : At A0 H1 B (upd H' D o) σ γ T := by
  have s : Ex B (upd H' D o) := fun x u e => by
    have z : x ≠ D := fun z => by rw [z, hB] at e; cases e
    rw [upd_ne z]
    exact a.g.sub x u e
  refine ⟨⟨fun x u e => ?_, a.g.view, s, a.g.hid⟩, a.k.ground m s, a.s⟩
  have z : x ≠ D := fun z => by rw [z, h1] at e; cases e
  rw [upd_ne z]
  exact a.g.up x u e
theorem At.expose (a : At A0 H1 B H' σ γ T) (m : Calmly γ) (hH : H' D = some o) (h1 : H1 D = none) (hB : B D = none) : At A0 H1 (upd B D o) H' σ γ T ∧ Ex B (upd B D o) := by
  have v : Ex B (upd B D o) := fun x u e => by
    have z : x ≠ D := fun z => by rw [z, hB] at e; cases e
    rw [upd_ne z]
    exact e
  have s : Ex (upd B D o) H' := fun x u e => by
    by_cases z : x = D
    · rw [z, upd_same] at e
      rw [z, hH]
      exact e
    · rw [upd_ne z] at e
      exact a.g.sub x u e
  refine ⟨⟨⟨a.g.up, fun x u e => v x u (a.g.view x u e), s, fun x u e nt n => ?_⟩, ?_, a.s.mono v⟩, v⟩
  · have z : x ≠ D := fun z => by rw [z, h1] at e; cases e
    rw [upd_ne z]
    exact a.g.hid x u e nt n
  · refine ⟨s, a.k.len, fun i x h => ?_, (fun i xs h => nomatch m i _ h), (fun i es h => nomatch m i _ h), (fun i c xs h => nomatch m i _ h), fun i K ns h => ?_, a.k.sep⟩
    · obtain ⟨w, e, r⟩ := a.k.get i x h
      exact ⟨w, e, r.mono v⟩
    · obtain ⟨b, e, q⟩ := a.k.scr i K ns h
      exact ⟨b, e, Evl.ex_l v q⟩
theorem Evo.unpark (e : Evo T (upd H0 D o) U H1) (tD : T D = none) (h0 : H0 D = none) : Evo T H0 U (delH H1 D) ∧ U D = none ∧ H1 D = some o := by
  have uD : U D = none := by
    cases q : U D with
    | none => rfl
    | some c =>
      have := e.new D tD (by rw [q]; exact fun z => nomatch z)
      rw [upd_same] at this
      cases this
  refine ⟨⟨fun x t u => ?_, e.keep, fun x t u => ?_⟩, uD, (e.same D tD uD).trans upd_same⟩
  · by_cases z : x = D
    · rw [z, delH_same, h0]
    · rw [delH_ne z, e.same x t u, upd_ne z]
  · have z : x ≠ D := fun z => by rw [z, uD] at u; exact u rfl
    have := e.new x t u
    rw [upd_ne z] at this
    exact this
end
section
variable {K : PySem.W.Frag} {γ : Gam} {S : Sto} {te ta tb : TE} {tr : TA} {tu : TS} {P : Dat → Sto → Prop} {N : Gam → Sto → Prop} {R : Dat → Sto → Prop} {g : TG} {js vs : List Nat}
/-- a new cell stands still from here on -/
theorem es_frz (m : Calmly γ) (h : ExS te γ S fun x T => ∃ l ys, x = .hnd l ∧ T l = some (.lst ys) ∧ S l = none ∧ P (.lst ys) (T.del l)) : ExS te γ S P := fun A0 H0 A H σ a Q q =>
  h A0 H0 A H σ a _ fun v x T H1 B H' ⟨l, ys, e, el, sl, hp⟩ w a1 r => by
    subst e
    cases r
    obtain ⟨us, h1, n1, rs⟩ := a1.s l _ el
    have bl : B l = none := a1.g.hid l _ h1 True.intro n1
    have hH : H' l = some (.lst us) := a1.g.up _ _ h1
    have tl : T.del l l = none := if_pos rfl
    have a2 : At A0 H1 B H' σ γ (T.del l) := ⟨a1.g, a1.k, fun p c e => by
      have z : p ≠ l := fun z => by rw [z, tl] at e; cases e
      rw [Sto.del_ne z] at e
      exact a1.s p c e⟩
    have a3 := a2.unpark (D := l) m tl
    obtain ⟨a4, v4⟩ := a3.expose m hH delH_same bl
    refine q (.ref l) (.lst ys) _ _ _ H' hp ⟨⟨fun b s t => ?_, fun b t => ?_, fun b s t => ?_⟩, fun b u e => v4 b u (w.v b u e)⟩ a4 (.lst upd_same (rs.mono v4))
    · by_cases z : b = l
      · subst z
        rw [delH_same]
        exact (w.e.new b s (by rw [el]; exact fun z => nomatch z)).symm
      · rw [Sto.del_ne z] at t
        rw [delH_ne z]
        exact w.e.same b s t
    · by_cases z : b = l
      · rw [z]
        exact sl
      · rw [Sto.del_ne z] at t
        exact w.e.keep b t
    · by_cases z : b = l
      · rw [z, tl] at t
        exact absurd rfl t
      · rw [Sto.del_ne z] at t
        exact w.e.new b s t
/-- [e for j in range(n)], e with a store -/
theorem es_lcRS {n : Nat} (h : EvA tr γ [.int (n : Nat)]) (m : Calmly γ) (hj : ∀ j ∈ js, j ∈ vs) (hn : n < 1000000) (I : Nat → List Dat → Sto → Prop) (h0 : I 0 [] S)
    (hs : ∀ (i : Nat) ys T, i < n → I i ys T → ∃ δ, Tg g js (wipeG γ vs) (.int (i : Nat)) δ ∧ Calmly δ ∧ ExS te δ T fun y U => I (i + 1) (ys ++ [y]) U) (hd : ∀ ys T, I n ys T → P (.lst ys) T) : ExS (tLc (iRng1 tr) g tYes te vs) γ S P := fun A0 H0 A H σ a Q q =>
  h H0 A H σ a.k _ fun us B H1 g1 r1 => by
    cases r1 with
    | cons r1 r2 =>
      cases r1
      cases r2
      have a1 := a.grow g1
      have bz : n < sizeLine := by rw [sizeLine_eq]; omega
      refine ⟨(n : Nat), rfl, by omega, by omega, fun D hD => ?_⟩
      have en : ((n : Nat) : Int).toNat = n := by omega
      rw [en]
      have hB : B D = none := Evl.fresh_back a1.g.sub hD
      obtain ⟨d0, sD⟩ := a1.none_of hD
      let PV : Nat → Hp → Prop := fun i H' => ∃ ys T H2 C acc, I i ys T ∧ ys.length = i ∧ Way A0 S H0 A T H2 C ∧ At A0 H2 C H' σ γ T ∧ H2 D = none ∧ C D = none ∧ T D = none ∧ H' D = some (.lst acc) ∧ Reps C acc ys
      refine lc_range (lo := 0) (n := n) PV ⟨[], S, H0, B, [], h0, rfl, ⟨Evo.refl, g1.view⟩, a1.touch m d0 hB, d0, hB, sD, upd_same, .nil⟩ (fun i H' hi p => ?_) (fun H' p => ?_)
      · obtain ⟨ys, T, H2, C, acc, hI, hl, w2, a2, e1, e2, e3, e4, ra⟩ := p
        obtain ⟨δ, t1, md, t2⟩ := hs i ys T hi hI
        have z0 : (0 : Int) + (i : Int) = ((i : Nat) : Int) := Int.zero_add _
        rw [z0]
        refine t1 H2 C H' _ (.int (i : Nat)) (a2.k.wipe vs) (.int _) _ fun σ2 k2 hl2 hoff => ⟨wipe_back hl2 hoff hj, ?_⟩
        have a3 : At A0 H2 C H' σ2 δ T := ⟨a2.g, k2, a2.s⟩
        have a4 := a3.park md e4 e1 e2
        refine t2 A0 (upd H2 D (.lst acc)) C H' σ2 a4 _ fun y yd U H3 C3 H4 hI2 w3 a5 ry => ?_
        obtain ⟨ev, uD, h3D⟩ := w3.e.unpark e3 e1
        have h4D : H4 D = some (.lst acc) := a5.g.up _ _ h3D
        have a0D : A0 D = none := Evl.fresh_back a2.g.view e2
        have c3D : C3 D = none := a5.g.hid D _ h3D True.intro a0D
        have la : acc.length = i := by rw [ra.len, hl]
        refine ⟨acc, h4D, by omega, ys ++ [yd], U, delH H3 D, C3, acc ++ [y], hI2, by rw [List.length_append, hl]; rfl, w2.trans ⟨ev, w3.v⟩, ?_, delH_same, c3D, uD, upd_same, (ra.mono w3.v).app (Reps.one ry)⟩
        have b1 : At A0 (delH H3 D) C3 H4 σ2 δ U := a5.unpark md uD
        have b2 : At A0 (delH H3 D) C3 (upd H4 D (.lst (acc ++ [y]))) σ2 δ U := b1.touch md delH_same c3D
        refine ⟨b2.g, ⟨b2.g.sub, a2.k.len, fun i x h => ?_, (fun i xs h => nomatch m i _ h), (fun i es h => nomatch m i _ h), (fun i c xs h => nomatch m i _ h), fun i K ns h => ?_, a2.k.sep⟩, b2.s⟩
        · obtain ⟨z, ez, rz⟩ := a2.k.get i x h
          exact ⟨z, ez, rz.mono w3.v⟩
        · obtain ⟨b, e, q⟩ := a2.k.scr i K ns h
          exact ⟨b, e, Evl.ex_l w3.v q⟩
      · obtain ⟨ys, T, H2, C, acc, hI, hl, w2, a2, e1, e2, e3, e4, ra⟩ := p
        obtain ⟨a3, v3⟩ := a2.expose m e4 e1 e2
        exact q (.ref D) (.lst ys) T H2 _ H' (hd ys T hI) ⟨w2.e, fun x u e => v3 x u (w2.v x u e)⟩ a3 (.lst upd_same (ra.mono v3))
/-- cell + [..], a new cell -/
theorem es_catC (h : ExS ta γ S fun x T => ∃ l, x = .hnd l ∧ ExS tb γ T fun y U => ∃ xs zs, y = .lst zs ∧ U l = some (.lst xs) ∧ T l ≠ none ∧ xs.length + zs.length ≤ sizeLine ∧ ∀ l', U l' = none → P (.hnd l') (U.put l' (.lst (xs ++ zs)))) : ExS (tOp rCat ta tb) γ S P := fun A0 H0 A H σ a Q q =>
  h A0 H0 A H σ a _ fun v x T H1 B H' ⟨l, e, hy⟩ w a1 r => by
    subst e
    cases r
    refine hy A0 H1 B H' σ a1 _ fun v2 y U H2 C H'' ⟨xs, zs, e, el, tl, hz, hp⟩ w2 a2 r2 => ?_
    subst e
    cases r2 with
    | @lst b us _ h2 ru =>
      obtain ⟨ws, h3, n3, rw_⟩ := a2.s l _ el
      refine ⟨l, b, ws, us, rfl, rfl, a2.g.up _ _ h3, a2.g.sub _ _ h2, by rw [rw_.len, ru.len]; exact hz, fun p hp' => ?_⟩
      have hC : C p = none := Evl.fresh_back a2.g.sub hp'
      obtain ⟨p0, up⟩ := a2.none_of hp'
      have g3 : Gr C H'' C (upd H'' p (.lst (ws ++ us))) := Gr.newU a2.g.sub hp'
      obtain ⟨H3, a3, w3⟩ := (a2.grow g3).new (c := .lst (xs ++ zs)) upd_same p0 hC (a2.far hp') fun Hn e An n => ⟨_, e, n, rw_.app ru⟩
      exact q (.ref p) (.hnd p) _ H3 C _ (hp p up) ((w.trans w2).trans w3) a3 (.hnd p)
/-- for x in l, l data -/
theorem runS_forL {tl : TE} (h : ExS tl γ S fun x T => ∃ (xs : List Dat) (I : Nat → Gam → Sto → Prop), x = .lst xs ∧ I 0 γ T ∧
    (∀ i x δ U, xs[i]? = some x → I i δ U → ∃ js ε, Tg g js δ x ε ∧ RunS tu ε U (I (i + 1)) R) ∧ ∀ δ U, I xs.length δ U → N δ U) : RunS (tFor (iList K tl) g tu) γ S N R := fun A0 H0 A H σ a D dn dr =>
  h A0 H0 A H σ a _ fun v x T1 HT B H1 ⟨xs, I, ex, h0, hs, hd⟩ w1 a1 r1 => by
    subst ex
    cases r1 with
    | @lst b us _ ha ru =>
      refine ⟨b, rfl, ⟨us, SqL.of (a1.g.sub _ _ ha)⟩, for_list (K := K) (xs := us) (fun i σ' H' => ∃ δ T H2 C, I i δ T ∧ Way A0 S H0 A T H2 C ∧ Ex B C ∧ At A0 H2 C H' σ' δ T) ⟨γ, T1, HT, B, h0, w1, Ex.refl B, a1⟩ ?_ ?_ ?_⟩
      · rintro i σ' H' _ ⟨δ, T, H2, C, _, _, v2, a2⟩
        exact SqL.of (a2.g.sub _ _ (v2 _ _ ha))
      · rintro i u σ' H' hi ⟨δ, T, H2, C, hI, w2, v2, a2⟩
        obtain ⟨x, hx, rx⟩ := ru.getV hi
        obtain ⟨js, ε, ht, hr⟩ := hs i x δ T hx hI
        refine ht H2 C H' σ' u a2.k (rx.mono v2) _ fun σ3 k3 _ _ => ?_
        exact hr A0 H2 C H' σ3 ⟨a2.g, k3, a2.s⟩ { D with nx := _, ct := _, bk := D.nx } (fun δ' T' H3 C' H4 σ4 hN w3 a4 => ⟨δ', T', H3, C', hN, w2.trans w3, v2.trans w3.v, a4⟩) fun v x U H3 C' H4 r w3 g3 s3 rx => dr v x U H3 C' H4 r (w2.trans w3) g3 s3 rx
      · rintro σ' H' ⟨δ, T, H2, C, hI, w2, v2, a2⟩
        rw [ru.len] at hI
        exact dn δ T H2 C H' σ' (hd δ T hI) w2 a2
theorem runS_forR2 {lo hi : Int} {j : Nat} (h : EvA tr γ [.int lo, .int hi]) (hb : -(2 ^ 62) ≤ lo ∧ lo < 2 ^ 62 ∧ -(2 ^ 62) ≤ hi ∧ hi < 2 ^ 62) (I : Nat → Gam → Sto → Prop) (h0 : I 0 γ S)
    (hs : ∀ (i : Nat) δ T, i < (hi - lo).toNat → I i δ T → RunS tu (δ.set j (.d (.int (lo + (i : Int))))) T (I (i + 1)) R) (hd : ∀ δ T, I (hi - lo).toNat δ T → N δ T) : RunS (tFor (iRng2 tr) (gName j) tu) γ S N R := fun A0 H0 A H σ a D dn dr =>
  h H0 A H σ a.k _ fun vs B H1 g1 r1 => by
    cases r1 with
    | cons r1 r2 =>
      cases r1
      cases r2 with
      | cons r2 r3 =>
        cases r2
        cases r3
        have a1 := a.grow g1
        have w1 : Way A0 S H0 A S H0 B := ⟨Evo.refl, g1.view⟩
        refine ⟨lo, hi, rfl, hb, for_range (lo := lo) (n := (hi - lo).toNat) (fun i σ' H' => ∃ δ T H2 C, I i δ T ∧ Way A0 S H0 A T H2 C ∧ At A0 H2 C H' σ' δ T) ⟨γ, S, H0, B, h0, w1, a1⟩ ?_ ?_⟩
        · rintro i σ' H' hi' ⟨δ, T, H2, C, hI, w2, a2⟩
          have k3 := a2.k.setD (v := .int (lo + (i : Int))) (.int _) j
          exact hs i δ T hi' hI A0 H2 C H' _ ⟨a2.g, k3, a2.s⟩ { D with nx := _, ct := _, bk := D.nx } (fun δ' T' H3 C' H4 σ4 hN w3 a4 => ⟨δ', T', H3, C', hN, w2.trans w3, a4⟩) fun v x U H3 C' H4 r w3 g3 s3 rx => dr v x U H3 C' H4 r (w2.trans w3) g3 s3 rx
        · rintro σ' H' ⟨δ, T, H2, C, hI, w2, a2⟩
          exact dn δ T H2 C H' σ' (hd δ T hI) w2 a2
end
/-! ## who raises -/
section
variable {K : PySem.W.Frag} {γ γ' : Gam} {S : Sto} {te ta tb : TE} {tr : TA} {W : WX} {cls : Value} {xs : List Dat} {P : Dat → Sto → Prop} {C : Addr} {m : Str} {Pre : Sto → List Dat → (Dat → Sto → Prop) → Prop} {PreE : Sto → List Dat → Value → Prop} {D0 : Addr → Prop} {E : XK}
abbrev WK (E : XK) : WX := fun c d _ H => E c d H
/-- over what is shown -/
theorem ees_view (hD : ∀ a, D0 a → S a ≠ none) (hs : Sees D0 S γ γ') (h : EvE te W γ' cls) : ExES te W γ S cls := fun A0 H0 A H σ a Q q =>
  h noHp (shown D0 H A) H σ (hs A0 H0 A H σ a (a.shownOk hD)) Q fun B H' g => by
    obtain ⟨g1, _⟩ := a.unshow hD g
    exact q _ H' g1
/-- C(e, ..) raises -/
theorem ees_make (h : EvA tr γ xs) (hR : ∀ x dx, S x = none → PreE (S.put x (.ins C dx [])) (.hnd x :: xs) cls) : ExES (tMake C (PrMB Pre PreE) [] E tr) (WK E) γ S cls := fun A0 H0 A H σ a Q q =>
  h H0 A H σ a.k _ fun vs B H1 g1 r1 => fun x dx hx hdx ne => by
    have a1 := a.grow g1
    have s1 : Ex B H1 := a1.g.sub
    have bx : B x = none := Evl.fresh_back s1 hx
    have hx1 : upd H1 dx (.own x) x = none := by rw [upd_ne (Ne.symm ne)]; exact hx
    have g2 : Gr B H1 B (upd H1 dx (.own x)) := Gr.newU s1 hdx
    have g3 : Gr B H1 B (upd (upd H1 dx (.own x)) x (.ins C dx [])) := g2.trans (Gr.newU g2.sub hx1)
    have a2 := a1.grow g3
    have h0 : H0 x = none := Evl.fresh_back a1.g.up hx
    obtain ⟨H3, a3, w3⟩ := a2.new (c := .ins C dx []) upd_same h0 bx (a1.far hx) fun Hn e An n => ⟨[], e, n, .nil⟩
    exact .inr ⟨B, S.put x (.ins C dx []), .hnd x :: xs, cls, a3.g.sub, by rw [List.append_nil]; exact .cons (.hnd x) r1, a3.s.enter a3.g, hR x dx (a1.none_of hx).2, fun F H4 g4 => q F H4 ((g1.trans g3).trans g4)⟩
/-- C(k = e) raises -/
theorem ees_makeK {k : Nat} {js : List Nat} (h : EvA tr γ xs) (hl : xs.length = k) (hR : ∀ x dx, S x = none → PreE (S.put x (.ins C dx [])) (.hnd x :: pick js xs) cls) : ExES (tMakeK C 0 k (PrMB Pre PreE) (fun vs zs => vs ++ pick js zs) E tNil tr) (WK E) γ S cls := fun A0 H0 A H σ a Q q =>
  h H0 A H σ a.k _ fun vs B H1 g1 r1 => ⟨rfl, by rw [r1.len]; exact hl, fun x dx hx hdx ne => by
    have a1 := a.grow g1
    have s1 : Ex B H1 := a1.g.sub
    have bx : B x = none := Evl.fresh_back s1 hx
    have hx1 : upd H1 dx (.own x) x = none := by rw [upd_ne (Ne.symm ne)]; exact hx
    have g2 : Gr B H1 B (upd H1 dx (.own x)) := Gr.newU s1 hdx
    have g3 : Gr B H1 B (upd (upd H1 dx (.own x)) x (.ins C dx [])) := g2.trans (Gr.newU g2.sub hx1)
    have a2 := a1.grow g3
    have h0 : H0 x = none := Evl.fresh_back a1.g.up hx
    obtain ⟨H3, a3, w3⟩ := a2.new (c := .ins C dx []) upd_same h0 bx (a1.far hx) fun Hn e An n => ⟨[], e, n, .nil⟩
    exact .inr ⟨B, S.put x (.ins C dx []), .hnd x :: pick js xs, cls, a3.g.sub, .cons (.hnd x) (reps_pick r1 js), a3.s.enter a3.g, hR x dx (a1.none_of hx).2, fun F H4 g4 => q F H4 ((g1.trans g3).trans g4)⟩⟩
/-- o.m(k = e) raises -/
theorem ees_methK {i n : Nat} {js : List Nat} {p dx : Addr} {fs : List (Str × Dat)} (hi : γ[i]? = some (Slot.d (.hnd p))) (ep : S p = some (.ins C dx fs)) (l : fs.lookup m = none) (h : EvA tr γ xs) (hl : xs.length = n) (hR : PreE S (.hnd p :: pick js xs) cls) : ExES (tMethW C m js n (PrMB Pre PreE) E (tVar i) tr) (WK E) γ S cls := fun A0 H0 A H σ a Q q => by
  obtain ⟨v, e, r⟩ := a.k.get i _ hi
  cases r
  obtain ⟨kvs, h1, hn, rf⟩ := a.cell ep
  exact ⟨.ref p, e, p, dx, kvs, rfl, h1, RepsF.no rf l, h H0 A H σ a.k _ fun vs B H1 g1 r1 => ⟨by rw [r1.len]; exact hl, .inr ⟨B, S, .hnd p :: pick js xs, cls, (a.grow g1).g.sub, .cons (.hnd p) (reps_pick r1 js), (a.grow g1).s.enter (a.grow g1).g, hR, fun C' H2 g2 => q C' H2 (g1.trans g2)⟩⟩⟩
/-- o[e] raises -/
theorem ees_ix {i : Nat} {p dx : Addr} {fs : List (Str × Dat)} {y : Dat} (hi : γ[i]? = some (Slot.d (.hnd p))) (ep : S p = some (.ins C dx fs)) (h : EvD te γ y) (hR : PreE S [.hnd p, y] cls) : ExES (tOp (rIxOwn C (PrMB Pre PreE) E) (tVar i) te) (WK E) γ S cls := fun A0 H0 A H σ a Q q => by
  obtain ⟨v, e, r⟩ := a.k.get i _ hi
  cases r
  refine ⟨.ref p, e, h H0 A H σ a.k _ fun u B H1 g1 r1 => ?_⟩
  have a1 := a.grow g1
  obtain ⟨kvs, h1, hn, rf⟩ := a1.cell ep
  exact ⟨p, dx, kvs, rfl, h1, .inr ⟨B, S, [.hnd p, y], cls, a1.g.sub, .cons (.hnd p) (.cons r1 .nil), a1.s.enter a1.g, hR, fun C' H2 g2 => q C' H2 (g1.trans g2)⟩⟩
/-- o[e] answers -/
theorem es_ixB {i : Nat} {p dx : Addr} {fs : List (Str × Dat)} {y : Dat} (hi : γ[i]? = some (Slot.d (.hnd p))) (ep : S p = some (.ins C dx fs)) (h : EvD te γ y) (hR : Pre S [.hnd p, y] P) : ExS (tOp (rIxOwn C (PrMB Pre PreE) E) (tVar i) te) γ S P := fun A0 H0 A H σ a Q q => by
  obtain ⟨v, e, r⟩ := a.k.get i _ hi
  cases r
  refine ⟨.ref p, e, h H0 A H σ a.k _ fun u B H1 g1 r1 => ?_⟩
  have a1 := a.grow g1
  obtain ⟨kvs, h1, hn, rf⟩ := a1.cell ep
  refine ⟨p, dx, kvs, rfl, h1, .inl ⟨B, S, [.hnd p, y], P, a1.g.sub, .cons (.hnd p) (.cons r1 .nil), a1.s.enter a1.g, hR, fun z V' D' H3 H4 v py ev g st rv => ?_⟩⟩
  obtain ⟨a3, w3⟩ := a1.leave ev g st
  exact q v z V' _ D' H4 py ⟨w3.e, g1.view.trans w3.v⟩ a3 rv
end
/-! ## lists again and again -/
section
variable {γ : Gam} {ta tb : TE} {xs : List Dat} {k : Int}
theorem en_rep (ha : EvR ta γ xs) (hb : EvD tb γ (.int k)) (hk : 0 ≤ k ∧ k < 1000) (hl : xs.length ≤ 1000) : EvN (tOp rRep ta tb) γ (List.replicate k.toNat xs).flatten := fun H0 A H σ k0 Q q =>
  ha H0 A H σ k0 _ fun l vs B H1 g1 h1 r1 => hb H0 B H1 σ (k0.mono g1) _ fun u C H2 g2 r2 => by
    cases r2
    have hz : vs.length * k.toNat ≤ sizeLine := by
      rw [r1.len]
      exact Nat.le_trans (Nat.mul_le_mul hl (show k.toNat ≤ 1000 by omega)) (by rw [sizeLine_eq]; decide)
    refine ⟨l, k, vs, rfl, rfl, g2.up _ _ h1, by omega, by omega, hz, fun p hp => ?_⟩
    have rr : ∀ n : Nat, Reps C (List.replicate n vs).flatten (List.replicate n xs).flatten := fun n => by
      induction n with
      | zero => exact .nil
      | succ n ih =>
        rw [List.replicate_succ, List.replicate_succ, List.flatten_cons, List.flatten_cons]
        exact (r1.mono g2.view).app ih
    exact q p _ C _ ((g1.trans g2).trans (Gr.newU g2.sub hp)) (Evl.fresh_back (g1.trans g2).up hp) (Evl.fresh_back g2.sub hp) upd_same (rr _)
end
/-! ## what stays shown; values that raise, shown -/
abbrev All (S : Sto) : Addr → Prop := fun a => S a ≠ none
section
variable {S T : Sto}
theorem all_in {S : Sto} : ∀ a, All S a → S a ≠ none := fun _ h => h
theorem All.up (h : ∀ a, S a ≠ none → T a = S a) {a : Addr} {c : Cell} (e : S a = some c) : All T a ∧ T a = some c := by
  have := h a (by rw [e]; exact fun z => nomatch z)
  rw [e] at this
  exact ⟨(by show T a ≠ none; rw [this]; exact fun z => (nomatch z)), this⟩
theorem Frz.up (h : ∀ a, S a ≠ none → T a = S a) : ∀ {fs gs : List (Str × Dat)}, Frz S (All S) fs gs → Frz T (All T) fs gs
  | _, _, .nil => .nil
  | _, _, .keep z => .keep (Frz.up h z)
  | _, _, .list _ e z => .list (All.up h e).1 (All.up h e).2 (Frz.up h z)
mutual
theorem Seen.up (h : ∀ a, S a ≠ none → T a = S a) : ∀ {x y : Dat}, Seen S (All S) x y → Seen T (All T) x y
  | _, _, .same => .same
  | _, _, .cell _ e z => .cell (All.up h e).1 (All.up h e).2 (Seens.up h z)
  | _, _, .obj _ e z => .obj (All.up h e).1 (All.up h e).2 (Frz.up h z)
  | _, _, .lst z => .lst (Seens.up h z)
  | _, _, .tup z => .tup (Seens.up h z)
theorem Seens.up (h : ∀ a, S a ≠ none → T a = S a) : ∀ {xs ys : List Dat}, Seens S (All S) xs ys → Seens T (All T) xs ys
  | _, _, .nil => .nil
  | _, _, .cons a b => .cons (Seen.up h a) (Seens.up h b)
end
theorem Sto.put_up {p : Addr} {c : Cell} (hp : S p = none) : ∀ a, S a ≠ none → (S.put p c) a = S a := fun a ha => Sto.put_ne fun z : a = p => ha (z ▸ hp)
end
section
variable {K : PySem.W.Frag} {γ γ' : Gam} {S : Sto} {te : TE} {tr : TA} {tw : TS} {W : WX} {cls : Value} {x : Dat} {P : Dat → Sto → Prop} {Pre : Sto → List Dat → (Dat → Sto → Prop) → Prop} {PreE : Sto → List Dat → Value → Prop} {D0 : Addr → Prop} {i : Nat}
theorem res_seqV (hD : ∀ a, D0 a → S a ≠ none) (hs : Sees D0 S γ γ') (h : EvD te γ' x) (fl : Flat x) (hk : RunES tw W (γ.set i (.d x)) S cls) : RunES (tSeq (tAsg te (gName i)) tw) W γ S cls := fun A0 H0 A H σ a D d =>
  h noHp (shown D0 H A) H σ (hs A0 H0 A H σ a (a.shownOk hD)) _ fun v B H1 g r => by
    obtain ⟨g1, kp⟩ := a.unshow hD g
    have a1 := a.grow g1
    exact hk A0 H0 (unshown D0 B) H1 _ ⟨a1.g, a1.k.setD (r.flat kp fl) i, a1.s⟩ D fun C H2 σ2 g2 => d C H2 σ2 ⟨g2.up, g1.view.trans g2.view, g2.sub, fun z o e nt n => g2.hid z o e nt (g1.hid z o (a.g.up z o e) nt n)⟩
/-- a def that may raise answers -/
theorem es_callSB {E : L2.St → XK} (h : ExSA tr γ S fun xs T => Pre T xs P) : ExS (tCallS (PrMB Pre PreE) E tr) γ S P := fun A0 H0 A H σ a Q q =>
  h A0 H0 A H σ a _ fun vs xs T H1 B H' hp w a1 r => .inl ⟨B, T, xs, P, a1.g.sub, r, a1.s.enter a1.g, hp, fun y U C' H2 H3 v py ev g st rv => by
    obtain ⟨a2, w2⟩ := a1.leave ev g st
    exact q v y U _ C' H3 py (w.trans w2) a2 rv⟩
end
end Fr

set_option Elab.async false
set_option linter.all false
set_option maxRecDepth 100000
set_option maxHeartbeats 4000000
namespace Fr
open PySem PySem.Spec PyProof.Rows L2
open Evl (Ex)
/-! # + - * of an own object with a value of another type -/
section
open PySem.W PySem.Calls Builtin
variable {prog : Program} {w : World} {A : Around} {E : Value → Shared → Prop} {s : Shared} {K : PySem.W.Frag} {x C L f : Addr} {h₀ : Heap} {m : Str → Option Value} {ox : Obj} {od : Option Obj}
/-- what a type of the language has for a number's operator -/
structure NumT (K : PySem.W.Frag) (tn nm : String) (a b : Option Value) : Prop where
  f : findIn K (.type tn) (PySem.dunder nm) = some a
  r : findIn K (.type tn) (dunderR nm) = some b
theorem fills_T {M : Model} {h : Heap} {tn nm : String} {a b : Option Value} (X : K.In h) (n : NumT K tn nm a b) : Looks M h (fillsNumberSlot (.type tn) nm) ((a.isSome && !isSeqSlot a) || (b.isSome && !isSeqSlot b)) := by
  intro A Q E s k q
  unfold fillsNumberSlot
  dsimp only
  refine wpAny_bind (m := typeLookup (.type tn) (dunder nm)) (looks_findIn X n.f A _ E s k ?_)
  exact wpAny_bind (m := typeLookup (.type tn) (dunderR nm)) (looks_findIn X n.r A _ E s k (wpAny_pure q))
/-- the operator's first round: the left one answers -/
theorem bin1_other {nm : String} {b : Value} {tn : String} {a' b' : Option Value} {Q : Option Value → Shared → Prop} (F : Fr h₀ L s.heap m) (X₀ : K.In h₀) (I : InstAt s.heap x ox C od) (hb : Looks (model prog w) s.heap (typeOf b) (.type tn)) (hc : selfFirst K C = true)
    (hn : NumT K tn nm a' b') (hz : ((a'.isSome && !isSeqSlot a') || (b'.isSome && !isSeqSlot b')) = false)
    (hs : findIn K (.ref C) (PySem.dunder nm) = some (some (.ref f))) (hf : isFn K (.ref f) = true)
    (h : wpAny (model prog w) A (call (.ref f) [.ref x, b]) (PySem.W.CmpBack fun v => Q (some v)) E s) : wpAny (model prog w) A (binaryOp1 nm (.ref x) b) Q E s := by
  have X := X₀.keeps F.keep
  obtain ⟨cd, hcd, hm⟩ := any_some hc
  obtain ⟨rest, hm⟩ : ∃ rest, cd.mro = .ref C :: rest := by
    cases q : cd.mro with
    | nil => rw [q] at hm; cases hm
    | cons a r => rw [q] at hm; exact ⟨r, by rw [List.head?_cons] at hm; cases (beq_iff_eq.mp hm); rfl⟩
  unfold binaryOp1
  refine wpAny_bind (I.type.here (wpAny_bind (hb.here (wpAny_bind ((fills_K X hcd hm hs).here ?_)))))
  have ne : ((Value.ref C) == (Value.type tn)) = false := beq_eq_false_iff_ne.mpr (fun h => nomatch h)
  rw [ne, if_neg (by decide)]
  refine wpAny_bind ((fills_T X hn).here ?_)
  rw [hz]
  simp only [Bool.and_false, Bool.false_eq_true, if_false, Bool.false_and]
  refine wpAny_bind (wpAny_pure ?_)
  simp only [Bool.false_eq_true, if_false, if_true]
  refine wpAny_bind (m := tryMethod (.ref x) _ b) ?_
  unfold tryMethod
  refine wpAny_bind (special_fn X I hs (beq_iff_eq.mp hf) (wpAny_mono h (fun v s' hv => ?_) fun _ _ e => e))
  cases v <;> first | exact hv.elim | exact wpAny_pure (wpAny_pure hv)
theorem inPy_own {M : Model} {h : Heap} {nm : String} (X : K.In h) (hs : findIn K (.ref C) (PySem.dunder nm) = some (some (.ref f))) (hr : findIn K (.ref C) (dunderR nm) = some none) : Looks M h (numberSlotInPython (.ref C) nm) true := by
  intro A Q E s k q
  unfold numberSlotInPython
  dsimp only
  refine wpAny_bind (m := typeLookup (.ref C) (PySem.dunder nm)) (looks_findIn X hs A _ E s k ?_)
  refine wpAny_bind (wpAny_pure ?_)
  refine wpAny_bind (m := typeLookup (.ref C) (dunderR nm)) (looks_findIn X hr A _ E s k ?_)
  refine wpAny_bind (wpAny_pure ?_)
  exact wpAny_pure q
/-- the same with a number behind *: int has the operator, too -/
theorem bin1_int {nm : String} {b : Value} {tn : String} {a' b' : Option Value} {Q : Option Value → Shared → Prop} (F : Fr h₀ L s.heap m) (X₀ : K.In h₀) (I : InstAt s.heap x ox C od) (hb : Looks (model prog w) s.heap (typeOf b) (.type tn)) (hc : selfFirst K C = true)
    (hn : NumT K tn nm a' b') (hz : ((a'.isSome && !isSeqSlot a') || (b'.isSome && !isSeqSlot b')) = true) (hsub : subIn K (.type tn) (.ref C) = some false) (hr : findIn K (.ref C) (dunderR nm) = some none)
    (hs : findIn K (.ref C) (PySem.dunder nm) = some (some (.ref f))) (hf : isFn K (.ref f) = true)
    (h : wpAny (model prog w) A (call (.ref f) [.ref x, b]) (PySem.W.CmpBack fun v => Q (some v)) E s) : wpAny (model prog w) A (binaryOp1 nm (.ref x) b) Q E s := by
  have X := X₀.keeps F.keep
  obtain ⟨cd, hcd, hm⟩ := any_some hc
  obtain ⟨rest, hm⟩ : ∃ rest, cd.mro = .ref C :: rest := by
    cases q : cd.mro with
    | nil => rw [q] at hm; cases hm
    | cons a r => rw [q] at hm; exact ⟨r, by rw [List.head?_cons] at hm; cases (beq_iff_eq.mp hm); rfl⟩
  unfold binaryOp1
  refine wpAny_bind (I.type.here (wpAny_bind (hb.here (wpAny_bind ((fills_K X hcd hm hs).here ?_)))))
  have ne : ((Value.ref C) == (Value.type tn)) = false := beq_eq_false_iff_ne.mpr (fun h => nomatch h)
  rw [ne, if_neg (by decide)]
  refine wpAny_bind ((fills_T X hn).here ?_)
  rw [hz]
  simp only [Bool.and_true, Bool.true_and, if_true]
  refine wpAny_bind ((looks_subIn X hsub).here ?_)
  simp only [Bool.false_eq_true, if_false, Bool.not_false, Bool.and_self, if_true]
  refine wpAny_bind ((inPy_own X hs hr).here ?_)
  rw [if_pos rfl]
  refine wpAny_bind (m := numberSlotInPython (.type tn) nm) (wpAny_pure ?_)
  rw [if_pos rfl]
  refine wpAny_bind (m := typeLookup (.type tn) (dunderR nm)) ((looks_findIn X hn.r).here ?_)
  refine wpAny_bind (m := tryMethod (.ref x) _ b) ?_
  unfold tryMethod
  refine wpAny_bind (special_fn X I hs (beq_iff_eq.mp hf) (wpAny_mono h (fun v s' hv => ?_) fun _ _ e => e))
  cases v <;> first | exact hv.elim | exact wpAny_pure (wpAny_pure hv)
/-- nothing of its own for += and the like -/
theorem fillsI_none {M : Model} {h : Heap} {nm : String} {cd : ClassData} {add : Bool} (X : K.In h) (hc : clsIn K C = some cd) (hm : cd.mro = [.ref C, .type "object"]) (hi : findIn K (.ref C) (dunderI nm) = some none) (ho : findIn K (.type "object") (dunderI nm) = some none) : Looks M h (fillsInplaceSlot (.ref C) nm add) false := by
  intro A Q E s k q
  unfold fillsInplaceSlot
  refine wpAny_bind ((looks_clsIn X hc).andThen (f := fun cd => pure cd.mro) .now A _ E s k ?_)
  rw [hm, List.anyM_cons]
  refine wpAny_bind (wpAny_bind (looks_findIn X hi A _ E s k ?_))
  refine wpAny_pure ?_
  rw [if_neg (by decide), List.anyM_cons]
  refine wpAny_bind (wpAny_bind (looks_findIn X ho A _ E s k ?_))
  refine wpAny_pure ?_
  rw [if_neg (by decide), List.anyM_nil]
  exact wpAny_pure q
theorem unop_own {Q : Value → Shared → Prop} (F : Fr h₀ L s.heap m) (X₀ : K.In h₀) (I : InstAt s.heap x ox C od) (hs : findIn K (.ref C) "__invert__" = some (some (.ref f))) (hf : isFn K (.ref f) = true)
    (h : wpAny (model prog w) A (call (.ref f) [.ref x]) Q E s) : wpAny (model prog w) A (unaryOp .Invert (.ref x)) Q E s := by
  have X := X₀.keeps F.keep
  unfold unaryOp
  refine wpAny_holding ?_
  dsimp only
  rw [if_neg (by decide)]
  exact wpAny_bind (special_fn X I hs (beq_iff_eq.mp hf) (wpAny_mono h (fun v s' hv => wpAny_pure hv) fun _ _ e => e))
/-- an operator's first round answers, so the operator does -/
theorem binop_of {op : Operator} {a b : Value} {Q : Value → Shared → Prop} (h : wpAny (model prog w) A (binaryOp1 op.info.2 a b) (fun o s' => ∃ v, o = some v ∧ Q v s') E s) : wpAny (model prog w) A (binaryOp op a b) Q E s := by
  unfold binaryOp
  refine wpAny_holding (wpAny_bind (wpAny_mono h (fun o s' hv => ?_) fun _ _ e => e))
  obtain ⟨v, rfl, hq⟩ := hv
  exact wpAny_pure hq
theorem inplace_of {op : Operator} {b : Value} {cd : ClassData} {Q : Value → Shared → Prop} (F : Fr h₀ L s.heap m) (X₀ : K.In h₀) (I : InstAt s.heap x ox C od) (hc : clsIn K C = some cd) (hm : cd.mro = [.ref C, .type "object"]) (hi : findIn K (.ref C) (dunderI op.info.2) = some none) (ho : findIn K (.type "object") (dunderI op.info.2) = some none)
    (h : wpAny (model prog w) A (binaryOp1 op.info.2 (.ref x) b) (fun o s' => ∃ v, o = some v ∧ Q v s') E s) : wpAny (model prog w) A (inplaceOp op (.ref x) b) Q E s := by
  have X := X₀.keeps F.keep
  unfold inplaceOp
  refine wpAny_holding (wpAny_bind (I.type.here (wpAny_bind ((fillsI_none X hc hm hi ho).here ?_))))
  rw [if_neg (by decide)]
  refine wpAny_bind (wpAny_mono h (fun o s' hv => ?_) fun _ _ e => e)
  obtain ⟨v, rfl, hq⟩ := hv
  exact wpAny_pure hq
end
section
variable {X : Cx} {CX : CXT} {k : Nat} {C f : Addr} {fd : FuncData} {ps : List Str} {sp : Sp} {E : XK}
theorem ty_int {i : Int} {H : Hp} : TyOf X (.int i) H (.type "int") := fun pins σ s u I r => by
  obtain ⟨t, rfl⟩ := r
  exact PySem.W.Looks.of_pure rfl
def NumOk (K : PySem.W.Frag) (C : Addr) (nm : String) (tn : String) : Prop := ∃ a' b', NumT K tn nm a' b' ∧ (((a'.isSome && !isSeqSlot a') || (b'.isSome && !isSeqSlot b')) = false ∨ ((a'.isSome && !isSeqSlot a') || (b'.isSome && !isSeqSlot b')) = true ∧ PySem.W.subIn K (.type tn) (.ref C) = some false ∧ PySem.W.findIn K (.ref C) (dunderR nm) = some none)
def rOpO (X : Cx) (C : Addr) (nm : String) (sp : Sp) (E : XK) : R2 := fun x y H Q => ∃ a dx fs tn, x = .ref a ∧ H a = some (.ins C dx fs) ∧ TyOf X y H (.type tn) ∧ NumOk X.K C nm tn ∧ sp [.ref a, y] H (fun v H' => ∃ p, v = .ref p ∧ Q (.ref p) H') E
theorem bin1_own {nm : String} (F : FnOk X.prog X.w X.K X.mg X.base CX k f fd ps sp) (hr : Room k X.A) (o : OwnSp X.K C (PySem.dunder nm) f) (hc : PySem.W.selfFirst X.K C = true) (hb : Binds X.K fd ps []) (hx : Passes CX X E) {pins : List (Addr × Obj)} {s : Shared} {σ : L2.St} {H : Hp} {x y : V} {v u : Value} {Q : VK}
    (I : Inv X pins σ H s) (rx : RelV x v) (ry : RelV y u) (h : rOpO X C nm sp E x y H Q) : wpAny (model X.prog X.w) X.A (binaryOp1 nm v u) (fun r s' => ∃ w, r = some w ∧ EP X pins σ Q w s') X.xe s := by
  obtain ⟨a, dx, fs, tn, rfl, ha, ht, ⟨a', b', hn, hz⟩, hq⟩ := h
  cases (show v = Value.ref a from rx)
  obtain ⟨mA, J, _⟩ := ins_get I.hok ha
  obtain ⟨od, J, _⟩ := J.look
  obtain ⟨m, hF⟩ := I.fr
  have go : wpAny (model X.prog X.w) X.A (call (.ref f) [.ref a, u]) (PySem.W.CmpBack fun v s' => ∃ w, some v = some w ∧ EP X pins σ Q w s') X.xe s := wpAny_mono (run_own (n := 0) I I.env0 F hr hb hx (vs := [.ref a, y]) (.cons rfl (.cons ry .nil)) hq) (fun w s' hw => by
    obtain ⟨v, H', I', rv, p, rfl, q⟩ := hw
    cases (show w = Value.ref p from rv)
    exact ⟨_, rfl, .ref p, H', I', rfl, q⟩) fun _ _ e => e
  rcases hz with hz | ⟨hz, h1, h2⟩
  · exact bin1_other hF I.ok.mod.kin J (ht pins σ s u I ry) hc hn hz o.at_ o.fn go
  · exact bin1_int hF I.ok.mod.kin J (ht pins σ s u I ry) hc hn hz h1 h2 o.at_ o.fn go
theorem op_own {op : Operator} (F : FnOk X.prog X.w X.K X.mg X.base CX k f fd ps sp) (hr : Room k X.A) (o : OwnSp X.K C (PySem.dunder op.info.2) f) (hc : PySem.W.selfFirst X.K C = true) (hb : Binds X.K fd ps []) (hx : Passes CX X E) : OpR X (binaryOp op) (rOpO X C op.info.2 sp E) :=
  fun pins s σ H x y v u Q I rx ry h => binop_of (bin1_own F hr o hc hb hx I rx ry h)
/-- + * - in place, where the class has nothing of its own for it -/
structure PlainC (K : PySem.W.Frag) (C : Addr) (nm : String) : Prop where
  mro : (PySem.W.clsIn K C).any (fun cd => cd.mro == [.ref C, .type "object"]) = true
  i : PySem.W.findIn K (.ref C) (dunderI nm) = some none
  o : PySem.W.findIn K (.type "object") (dunderI nm) = some none
theorem iop_own {op : Operator} (F : FnOk X.prog X.w X.K X.mg X.base CX k f fd ps sp) (hr : Room k X.A) (o : OwnSp X.K C (PySem.dunder op.info.2) f) (hc : PySem.W.selfFirst X.K C = true) (pl : PlainC X.K C op.info.2) (hb : Binds X.K fd ps []) (hx : Passes CX X E) : OpR X (inplaceOp op) (rOpO X C op.info.2 sp E) :=
  fun pins s σ H x y v u Q I rx ry h => by
    have go := bin1_own F hr o hc hb hx I rx ry h
    obtain ⟨a, dx, fs, tn, rfl, ha, _⟩ := h
    cases (show v = Value.ref a from rx)
    obtain ⟨mA, J, _⟩ := ins_get I.hok ha
    obtain ⟨od, J, _⟩ := J.look
    obtain ⟨m, hF⟩ := I.fr
    obtain ⟨cd, hcd, hm⟩ := PySem.W.any_some pl.mro
    exact inplace_of hF I.ok.mod.kin J hcd (beq_iff_eq.mp hm) pl.i pl.o go
def rUnO (C : Addr) (sp : Sp) (E : XK) : V → Hp → VK → Prop := fun x H Q => ∃ a dx fs, x = .ref a ∧ H a = some (.ins C dx fs) ∧ sp [.ref a] H Q E
theorem un_own (F : FnOk X.prog X.w X.K X.mg X.base CX k f fd ps sp) (hr : Room k X.A) (o : OwnSp X.K C "__invert__" f) (hb : Binds X.K fd ps []) (hx : Passes CX X E) : UnR X (unaryOp .Invert) (rUnO C sp E) := by
  intro pins s σ H x v Q I rx h
  obtain ⟨a, dx, fs, rfl, ha, hq⟩ := h
  cases (show v = Value.ref a from rx)
  obtain ⟨mA, J, _⟩ := ins_get I.hok ha
  obtain ⟨od, J, _⟩ := J.look
  obtain ⟨m, hF⟩ := I.fr
  exact unop_own hF I.ok.mod.kin J o.at_ o.fn (wpAny_mono (run_own (n := 0) I I.env0 F hr hb hx (vs := [.ref a]) (.cons rfl .nil) hq) (fun w s' hw => by
    obtain ⟨v, H', I', rv, q⟩ := hw
    exact ⟨v, H', I', rv, q⟩) fun _ _ e => e)
end
section
variable {X : Cx} {K : PySem.W.Frag} {γ : Gam} {ta tb : TE} {C : Addr} {fs : List (Str × Dat)} {E : XK} {R : List Dat → Dat → Prop} {nm tn : String} {y z : Dat}
theorem r2_opT {ds : List Dat} {D : Addr} {gs : List (Str × Dat)} (eK : X.K = K) (n : NumOk K C nm "tuple") (hR : R [.obj C fs, .tup ds] (.obj D gs)) : R2D (rOpO X C nm (Pr R) E) (.obj C fs) (.tup ds) (.obj D gs) := fun A H vx vy s r1 r2 Q q => by
  subst eK
  cases r1 with
  | @obj a _ dx kvs _ h1 rf =>
    have r2' := r2
    cases r2 with
    | @tup b us _ h2 ru =>
      refine ⟨a, dx, kvs, "tuple", rfl, s _ _ h1, ty_tup (s _ _ h2), n, A, [.obj C fs, .tup ds], .obj D gs, s, .cons (.obj h1 rf) (.cons r2' .nil), hR, fun v B H' g rv => ?_⟩
      cases rv with
      | @obj p _ dy kws _ h3 rg => exact ⟨p, rfl, q _ B H' g (.obj h3 rg)⟩
theorem r2_opI {i : Int} {D : Addr} {gs : List (Str × Dat)} (eK : X.K = K) (n : NumOk K C nm "int") (hR : R [.obj C fs, .int i] (.obj D gs)) : R2D (rOpO X C nm (Pr R) E) (.obj C fs) (.int i) (.obj D gs) := fun A H vx vy s r1 r2 Q q => by
  subst eK
  cases r1 with
  | @obj a _ dx kvs _ h1 rf =>
    cases r2
    refine ⟨a, dx, kvs, "int", rfl, s _ _ h1, ty_int, n, A, [.obj C fs, .int i], .obj D gs, s, .cons (.obj h1 rf) (.cons (.int i) .nil), hR, fun v B H' g rv => ?_⟩
    cases rv with
    | @obj p _ dy kws _ h3 rg => exact ⟨p, rfl, q _ B H' g (.obj h3 rg)⟩
theorem ev_invO (h : EvD ta γ (.obj C fs)) (hR : R [.obj C fs] z) : EvD (tUn (rUnO C (Pr R) E) ta) γ z := fun H0 A H σ k Q q =>
  h H0 A H σ k _ fun v B H1 g1 r1 => by
    cases r1 with
    | @obj a _ dx kvs _ h1 rf => exact ⟨a, dx, kvs, rfl, g1.sub _ _ h1, B, [.obj C fs], z, g1.sub, .cons (.obj h1 rf) .nil, hR, fun v D H2 g2 r2 => q v D H2 (g1.trans g2) r2⟩
end
end Fr

set_option Elab.async false
set_option linter.all false
set_option maxRecDepth 100000
set_option maxHeartbeats 4000000
namespace PySem
namespace FrKw
open PySem.W PySem.Calls PyProof.Rows PySem.HandSPX
/-! # an own exception class that is made with keywords -/
section
variable {pg : Program} {wd : World} {Ar : Around} {Ex : Value → Shared → Prop} {Rs : Result → Shared → Prop} {hp : Heap} {gs : Array GenState} {dr : Drawn} {tk : Nat} {oS : OsState}
variable {nm qn : Str} {C N : Addr} {bs bm bmB : List Value} {hdct : Bool} {sn : List Str} {sub : List Value} {ab : Bool} {col : Option Bool} {dd : Option Addr} {k0 k1 k2 k3 k5 : Option Value} {B newId initId : String}
variable {us : List Value} {kw : List (Str × Value)}
theorem kw_check (F : ExcBaseFacts B newId initId bmB) (hT : ∀ Y : String, bm.contains (.type Y) = bmB.contains (.type Y)) {M : Model} {Q : Unit → Shared → Prop}
    (hC : hp.get? C = some (excClassObj nm qn C N bs bm hdct sn sub ab col dd k0 k1 k2 k3 k5 newId))
    (hq : Q () ⟨hp, gs, dr, tk, oS⟩) : wpAny M Ar (checkBuiltinCall newId ⟨.ref C :: us, kw⟩) Q Ex ⟨hp, gs, dr, tk, oS⟩ := by
  have has : (Value.ref C :: bm).contains (.type B) = true := by
    rw [List.contains_cons, hT, F.hasB, Bool.or_true]
  have star := F.noStar
  simp only [checkBuiltinCall, F.newKind, F.newSplit, F.newRow]
  repeat (first
    | refine wpAny_loadPart_at hC ?_
    | (refine wpAny_isSubtype_exc hC ?_; rw [has])
    | refine wpAny_staticBase_exc hC ?_
    | refine wpAny_madeBy_exc hC ?_
    | simp only [bne_self_eq_false, Bool.false_eq_true, if_false]
    | wp_step)
  exact hq
theorem kw_new (F : ExcBaseFacts B newId initId bmB) (hT : ∀ Y : String, bm.contains (.type Y) = bmB.contains (.type Y))
    (hC : hp.get? C = some (excClassObj nm qn C N bs bm hdct sn sub ab col dd k0 k1 k2 k3 k5 newId)) (hl : us.length ≤ sizeLine)
    (hq : Rs (.ok (.ret (.ref (hp.objs.size + 1)))) ⟨(hp.push (W.kdv_tup us)).push (excO C hp.objs.size), gs, dr, tk, oS⟩) :
    codeAny (model pg wd) Ar (.builtin newId ⟨.ref C :: us, kw⟩) Rs ⟨hp, gs, dr, tk, oS⟩ := by
  have ends := F.ends
  have c1 : (Value.ref C :: bm).contains (.type B) = true := by
    rw [List.contains_cons, hT, F.hasB, Bool.or_true]
  have c2 : (Value.ref C :: bm).contains (.type "AttributeError") = false := by
    rw [List.contains_cons, hT, F.noAttr]
    rfl
  have c3 : (Value.ref C :: bm).contains (.type "NameError") = false := by
    rw [List.contains_cons, hT, F.noName]
    rfl
  refine codeAny_builtinAt F.entry ?_
  unfold Builtin.«BaseException.__new__»
  refine wpAt_bind ?_
  show wpAt _ _ _ (stack >>= _) _ _ _
  refine wpAt_bind (wpAt_stack fun p below => wpAt_of_wpAny ?_)
  wp_walk
  refine wpAt_of_wpAny ?_
  rw [F.owner]
  repeat (first
    | with_reducible refine wpAny_madeHere_exc F.canon hC ?_
    | with_reducible refine wpAny_loadPart_at hC ?_
    | (with_reducible refine wpAny_isSubtype_exc hC ?_; first | rw [c1] | rw [c2] | rw [c3])
    | wp_step)
  show Rs _ _
  rw [Heap.size_push]
  exact hq
theorem kw_type (F : ExcBaseFacts B newId initId bmB) (hT : ∀ Y : String, bm.contains (.type Y) = bmB.contains (.type Y)) {fI : Addr} {Q : Fin → Shared → Prop}
    (hC : hp.get? C = some (excClassObj nm qn C N bs bm hdct sn sub ab col dd k0 k1 k2 k3 k5 newId)) (hl : us.length ≤ sizeLine)
    (hi : W.Looks (model pg wd) hp (typeLookup (.ref C) "__init__") (some (.ref fI))) (hb : ∀ o, W.Looks (model pg wd) hp (bindSpecial (.ref fI) o) (.ref fI, [o]))
    (hq : codeAny (model pg wd) Ar (.call (.ref fI) ⟨.ref (hp.objs.size + 1) :: us, kw⟩) (fun r s' => match r with
        | .ok (.ret v) => v = .none ∧ Q (.done (.ret (.ref (hp.objs.size + 1)))) s'
        | .ok _ => False
        | .error e => Ex e s') ⟨(hp.push (W.kdv_tup us)).push (excO C hp.objs.size), gs, dr, tk, oS⟩) :
    wpAny (model pg wd) Ar (Builtin.«type.__call__» ⟨.ref C :: us, kw⟩) Q Ex ⟨hp, gs, dr, tk, oS⟩ := by
  repeat (first
    | with_reducible refine wpAny_loadPart_at hC ?_
    | with_reducible refine wpAny_madeBy_exc hC ?_
    | wp_step)
  refine codeAny_call_builtin_code (Code.quiet_builtin _ F.quiet) (kw_check F hT hC ?_)
  refine kw_new F hT hC hl ?_
  show wpAny _ _ _ _ _ _
  have up : ∀ b o, hp.get? b = some o → ((hp.push (W.kdv_tup us)).push (excO C hp.objs.size)).get? b = some o := fun b o e => Heap.get?_push_of_some _ (Heap.get?_push_of_some _ e)
  have hC1 := up _ _ hC
  have at1 : ((hp.push (W.kdv_tup us)).push (excO C hp.objs.size)).get? (hp.objs.size + 1) = some (excO C hp.objs.size) := by
    heap_get
  have cc : (Value.ref C :: bm).contains (.ref C) = true := by
    simp
  have i1 := hi.keeps up
  have b1 := (hb (.ref (hp.objs.size + 1))).keeps up
  unfold isInstance
  repeat (first
    | with_reducible refine wpAny_loadPart_at at1 ?_
    | (with_reducible refine wpAny_isSubtype_exc hC1 ?_; rw [cc])
    | wp_step)
  show wpAny _ _ (typeLookup (.ref C) _) _ _ _
  refine i1.at ?_
  refine wpAny_holding (wpAny_bind (b1.at ?_))
  refine wpAny_bind (wpAny_call (codeAny_mono hq fun r s' z => ?_))
  rcases r with e | (v | _ | _ | _) <;> first | exact z | exact z.elim | skip
  obtain ⟨rfl, z⟩ := z
  first
    | exact wpAny_pure (wpAny_pure z)
    | (wp_walk; exact z)
theorem kw_own (F : ExcBaseFacts B newId initId bmB) (hT : ∀ Y : String, bm.contains (.type Y) = bmB.contains (.type Y)) {fI : Addr}
    (hC : hp.get? C = some (excClassObj nm qn C N bs bm hdct sn sub ab col dd k0 k1 k2 k3 k5 newId)) (hl : us.length ≤ sizeLine)
    (hi : W.Looks (model pg wd) hp (typeLookup (.ref C) "__init__") (some (.ref fI))) (hb : ∀ o, W.Looks (model pg wd) hp (bindSpecial (.ref fI) o) (.ref fI, [o]))
    (hq : codeAny (model pg wd) (Ar.under (.builtin "type.__call__" ⟨.ref C :: us, kw⟩)) (.call (.ref fI) ⟨.ref (hp.objs.size + 1) :: us, kw⟩) (W.InitBack (hp.objs.size + 1) Rs)
      ⟨(hp.push (W.kdv_tup us)).push (excO C hp.objs.size), gs, dr, tk, oS⟩) :
    codeAny (model pg wd) Ar (.call (.ref C) ⟨us, kw⟩) Rs ⟨hp, gs, dr, tk, oS⟩ := by
  have f1 := tc_lookup
  have f2 := tc_bind (.ref C)
  have ty : (⟨hp, gs, dr, tk, oS⟩ : Shared).TypeIs (.ref C) "type" := ⟨_, hC, rfl⟩
  refine codeAny_of_tree ?_
  show wpAny _ _ (callAny (.ref C) _) _ _ _
  repeat (any_goals (first
    | assumption
    | with_reducible refine wpAny_loadPart_at hC ?_
    | wp_step))
  refine ⟨rfl, ?_⟩
  refine codeAny_call_builtin_at (Code.quiet_builtin _ (by decide +kernel)) entry_typeCall (wpAny_check_type_call_sub hC (kw_type F hT hC hl hi hb ?_))
  refine codeAny_mono hq fun r s' z => ?_
  rcases r with e | (v | _ | _ | _) <;> exact z
end
end FrKw
end PySem
namespace Fr
open PySem PySem.Spec PyProof.Rows L2 HotX
open Evl (Ex)
/-! # a def that is called within an except suite and told of the exception there -/
structure FnP (P : Program) (w : World) (K : PySem.W.Frag) (mg : Str → Option Value) (base : Heap) (CX : CXT) (k : Nat) (f : Addr) (fd : FuncData) (ps : List Str) (sp : Addr → Value → Option Addr → Sp) : Prop where
  len : ∀ a c d vs H Q E, sp a c d vs H Q E → vs.length = ps.length
  run : ∀ (A : Around) (outer : List PySem.Env) (s : Shared) (H : Hp) (args : Args) (us : List Value) (vs : List V) (Q : VK) (E : XK) (p : Addr × Obj) (c : Value) (d : Option Addr), L2H.RoomH k A → L2H.Hot1 A p → L2H.PinOk outer H s p → Zc c d p.2 →
    Env0 P w K mg base A outer s H → BindsTo s fd args (ps.zip us) → Vals vs us → sp p.1 c d vs H Q E → codeAny (model P w) A (.call (.ref f) args) (CR CX outer P w H s Q E) s
section
variable {CX : CXT} {P : Program} {w : World} {K : PySem.W.Frag} {mg : Str → Option Value} {base : Heap}
theorem fnP_of {k : Nat} {x qual : Str} {st : Stmt} {f : Addr} {fd : FuncData} {N ps : List Str} {sp : Addr → Value → Option Addr → Sp} (F : Fun K x qual st f fd) (S : FnScope N ps (defScope st)) (len : ∀ a c d vs H Q E, sp a c d vs H Q E → vs.length = ps.length)
    (hbody : ∀ (cdv : Value) (A : Around) (outer : List PySem.Env) (s : Shared) (H : Hp) (vs : List V) (Q : VK) (E : XK) (p : Addr × Obj) (c : Value) (d : Option Addr), L2H.Hot1 A p → Zc c d p.2 → L2H.RoomH k (A.deeper (envOfC qual (defScope st) s.heap.objs.size f cdv)) → sp p.1 c d vs H Q E →
      ∃ t, PSs (L2H.cxH CX P w K mg base N qual (defScope st) f cdv A outer s H E p) (defBody st) t ∧ t { nx := fun _ H' => Q .non H', rt := Q } (L2.start N vs) H) :
    FnP P w K mg base CX (k + 1) f fd ps sp := by
  obtain ⟨oc, od, kV, doc, pm, an, cdv, ct, osl, rfl, lk, hcd⟩ := F.ex
  refine ⟨len, fun A outer s H args us vs Q E p c d hr hot hp hz e0 hb r hsp => ?_⟩
  have l0 := len _ _ _ _ _ _ _ hsp
  have kin : K.In s.heap := e0.mod.kin.keeps fun b o e => (e0.bs b o e).1
  have kinds : ∀ y ∈ ps.zip us, (defScope st).names.lookup y.1 = some .local ∨
      ((defScope st).names.lookup y.1 = some .cell ∧ ((cellsFrom (s.heap.objs.size + 1) (defScope st).names []).lookup y.1).isSome = true) := by
    rintro ⟨n, v⟩ hy
    rcases S.par n (List.of_mem_zip hy).1 with q | q
    · exact .inl q
    · exact .inr ⟨q, PySem.W.cellsFrom_some _ _ _ (.inl q)⟩
  refine codeAny_call_function hr.depth (kin _ _ lk) rfl S.co S.gen rfl (PySem.W.codeRec_of kin hcd) (hb _ _ _ _ ?_)
  refine wpAny_newFunctionEnv_cells S.kind kinds fun env he s1 x => ?_
  subst he
  have nl : s.heap.NoLimit := e0.mod.nolimit.keeps fun b o e => (e0.bs b o e).1
  refine ⟨nl.keeps x.toInCall.keep, codeAny_func ?_⟩
  obtain ⟨t, ht, hq⟩ := hbody cdv A outer s H vs Q E p c d hot hz (hr.deeper _) hsp
  refine wpAny_mono (ht.run [] s1 (L2.start N vs) H _ (L2H.inv_startH S hp e0 l0 r x) hq) (fun fl s' hs => ?_) fun e s' hs => hs
  cases fl with
  | ret u =>
    obtain ⟨v, _, H', J, rv, q⟩ := hs
    exact ⟨v, H', J.os, J.bare, J.base, J.hok, rv, q⟩
  | next =>
    obtain ⟨_, H', J, q⟩ := hs
    exact ⟨.non, H', J.os, J.bare, J.base, J.hok, rfl, q⟩
  | brk =>
    obtain ⟨_, _, _, q⟩ := hs
    exact q.elim
  | cont =>
    obtain ⟨_, _, _, q⟩ := hs
    exact q.elim
end
/-- f(e, ..) there -/
def tCallP (a : Addr) (c : Value) (d : Option Addr) (sp : Addr → Value → Option Addr → Sp) (t : TA) : TE := fun σ H Q => t σ H fun vs H1 => sp a c d vs H1 Q (fun _ _ _ => False)
section
variable {X : Cx} {CX : CXT} {k : Nat} {f : Addr} {fd : FuncData} {ps : List Str} {sp : Addr → Value → Option Addr → Sp} {x : Str} {q pos : Pos} {c : Value} {d : Option Addr} {e : Expr} {es : List Expr} {t : TA}
theorem pe_callP {p : Addr × Obj} (F : FnP X.prog X.w X.K X.mg X.base CX k f fd ps sp) (hr : L2H.RoomH k X.A) (hot : L2H.Hot1 X.A p) (hz : Zc c d p.2) (hp : p ∈ X.pn) (hg : Gl X x) (hm : X.mg x = some (.ref f)) (hk : PySem.W.keepIn X.K (.ref f) = true) (hb : Binds X.K fd ps [])
    (hx : ∀ σ, PassesAt CX X σ (fun _ _ _ => False)) (ha : PA X (e :: es) t) (hdb : (x == ("__debug__" : Str)) = false := by decide) (he : starEach (e :: es) X.env = (false, eval e X.env) :: starEach es X.env := by rfl) (hpl : (backTo pos (starEach es X.env)).any (·.1) = false := by rfl) :
    PE X (.Call (.Name x q) (e :: es) [] pos) (tCallP p.1 c d sp t) := by
  refine ⟨fun pins s σ H Q I h => ?_⟩
  refine wpAny_Call_Name_kw (ld_glob I hg hm ?_ hdb)
  refine PySem.W.callWith_K (h₀ := X.base) I.ok.mod.kin hk (thn (ha.run pos pins s σ H _ I h) ?_) he hpl
  rintro us s1 ⟨vs, H1, I1, r, z⟩
  refine ⟨I1.kIn, ?_⟩
  have l1 : us.length = ps.length := r.length.symm.trans (F.len _ _ _ _ _ _ _ z)
  have b := hb s1 us I1.kIn (by rw [List.append_nil]; exact l1)
  rw [List.append_nil] at b
  obtain ⟨p1, p2, p3, p4, p5⟩ := I1.pin p (List.mem_append_left _ hp)
  have pin : L2H.PinOk X.stack H1 s1 p := ⟨p1, p2, fun hm => (List.mem_cons.mp (I1.stkSub p.1 hm)).elim p3 p4, p5⟩
  refine wpAny_call (codeAny_mono (F.run X.A X.stack s1 H1 ⟨us, []⟩ us vs Q (fun _ _ _ => False) p c d hr hot pin hz I1.env0 b r z) fun r s' hq => ?_)
  cases r with
  | error e => exact hx σ pins H1 s1 e s' I1 hq
  | ok fl =>
    cases fl with
    | ret u => exact I1.after hq
    | next => exact False.elim hq
    | brk => exact False.elim hq
    | cont => exact False.elim hq
end
/-! # isinstance of an exception that is pinned -/
/-- its dict, if it has one, is tracked -/
def XD (H : Hp) (d : Option Addr) : Prop := d = none ∨ ∃ dd fs, d = some dd ∧ H dd = some (.xd fs)
theorem XD.up {H H' : Hp} {d : Option Addr} (h : XD H d) (e : Ex H H') : XD H' d := by
  rcases h with h | ⟨dd, fs, h1, h2⟩
  · exact .inl h
  · exact .inr ⟨dd, fs, h1, e _ _ h2⟩
/-- what isinstance asks of an exception's class -/
structure ExcD (K : PySem.W.Frag) (D : Addr) : Prop where
  c : ExcC K D
  cl : (PySem.W.clsIn K D).isSome = true
def rIsP (K : PySem.W.Frag) (a : Addr) (cls : Value) (d : Option Addr) : List V → Hp → VK → Prop := fun xs H Q => ∃ D, cls = .ref D ∧ ExcD K D ∧ XD H d ∧ ∃ (c : V) (cv : Value) (b : Bool), xs = [.ref a, c] ∧ (∀ u, RelV c u → u = cv) ∧ PySem.W.kitOne K (.ref D) cv = some b ∧ Q (.bl b) H
theorem call_isP {X : Cx} {p : Addr × Obj} {cls : Value} {d : Option Addr} (hp : p ∈ X.pn) (hz : Zc cls d p.2) (hf : ∃ vs, p.2.data = .fields vs) : CallR X (.builtin "isinstance") (rIsP X.K p.1 cls d) := by
  intro pins s σ H xs us Q I r h
  obtain ⟨D, rfl, C, xd, c, cv, b, rfl, hcv, e, q⟩ := h
  obtain ⟨v0, u0, rfl, rx, rt⟩ := vals2 r
  have e1 : v0 = Value.ref p.1 := rx
  subst e1
  have ec : u0 = cv := hcv _ rt
  obtain ⟨at0, _⟩ := I.pin p (List.mem_append.mpr (.inl hp))
  obtain ⟨vs, hv⟩ := hf
  obtain ⟨a, oe⟩ := p
  rw [ec]
  have fin : ∀ od, PySem.W.InstAt s.heap a oe D od → wpAny (model X.prog X.w) X.A (call (.builtin "isinstance") [.ref a, cv]) (EP X pins σ Q) X.xe s := fun od J =>
    PySem.W.kia_one (PySem.W.kitx_exc C.cl C.c.hg C.c.hk C.c.hs C.c.ha C.c.hn C.c.ht C.c.hm) I.kIn J e (fun z => nomatch z) fun tk => ⟨.bl b, H, I.kept (t' := tk) fun _ _ z => z, rfl, q⟩
  have hno : PySem.W.notCls oe = true := by
    show PySem.W.notCls oe = true
    unfold PySem.W.notCls
    rw [hv]
  have hdd : oe.dict = d := hz.2
  rcases xd with rfl | ⟨dd, fs, rfl, hd⟩
  · refine fin none ⟨at0, hz.1, hno, ?_⟩
    rw [hdd]
    trivial
  · have ok : ObjOk X.prog X.w H s.heap dd (.xd fs) := I.hok dd _ hd
    obtain ⟨mA, hns, hr⟩ := ok
    obtain ⟨od, ho, _⟩ := lookIn_ns hns
    refine fin (some od) ⟨at0, hz.1, hno, ?_⟩
    rw [hdd]
    exact ho
theorem call_isPK {X : Cx} {K : PySem.W.Frag} (eK : X.K = K) {p : Addr × Obj} {cls : Value} {d : Option Addr} (hp : p ∈ X.pn) (hz : Zc cls d p.2) (hf : ∃ vs, p.2.data = .fields vs) : CallR X (.builtin "isinstance") (rIsP K p.1 cls d) := eK ▸ call_isP hp hz hf
theorem hot_of {A : Around} {a : Addr} {oe : Obj} {cls : Value} {d : Option Addr} (hz : L2N.Zn cls d oe) (hf : ∃ vs, oe.data = .fields vs) : L2H.Hot1 (A.mark (some (.ref a))) (a, oe) := by
  obtain ⟨vs, h⟩ := hf
  exact ⟨rfl, vs, h, hz.2.2 vs h⟩
theorem roomH_mark {k : Nat} {A : Around} {v : Option Value} (r : Room k A) : L2H.RoomH k (A.mark v) := ⟨r.dp, r.un⟩
theorem takes0N {X : Cx} : L2N.Takes X (fun _ _ _ _ => False) := fun _ _ x => by
  obtain ⟨_, _, _, _, _, _, _, _, _, _, _, _, _, _, _, _, z⟩ := x
  exact z.elim
end Fr

set_option Elab.async false
set_option linter.all false
set_option maxRecDepth 100000
set_option maxHeartbeats 4000000
namespace Fr
open PySem PySem.Spec PyProof.Rows L2 HotX
open Evl (Ex)
/-! # C(e), C(f=e) of an own exception class with an __init__; what is behind is an exception in the air that may be noted -/
section
variable {X : Cx} {CX : CXT} {x : Str} {C fI : Addr} {k : Nat} {fd : FuncData} {ps ks : List Str} {js : List Nat} {sp : Sp} {p pos : Pos} {e : Expr} {es : List Expr} {kws : List Keyword} {ta tk : TA}
/-- the class is called: us by position, then kw by name; bs what __init__ gets behind self -/
theorem made_kw {pins : List (Addr × Obj)} {σ : L2.St} {H1 : Hp} {s1 : Shared} {Q : XK} {us bs : List Value} {zs : List V} {kw : List (Str × Value)} (T : OexC X.K C) (iC : PySem.W.findIn X.K (.ref C) "__init__" = some (some (.ref fI)))
    (tI : PySem.W.typeIn X.K (.ref fI) = some (.type "function")) (F1 : FnOk X.prog X.w X.K X.mg X.base CX k fI fd ps sp) (hr : Room (k + 1) X.A) (hx : Passes CX X (fun _ _ _ => False)) (I1 : Inv X pins σ H1 s1) (r : Vals zs bs) (hus : us.length ≤ sizeLine)
    (hb : ∀ (s : Shared) (a : Addr), X.K.In s.heap → (Value.ref a :: bs).length = ps.length → BindsTo s fd ⟨.ref a :: us, kw⟩ (ps.zip (.ref a :: bs)))
    (q1 : ∀ a, H1 a = none → sp (.ref a :: zs) (upd H1 a (exo a C none)) (fun v H2 => v = .non ∧ ∃ (d : Addr) (fs : List (Str × V)), H2 a = some (exo a C (some d)) ∧ H2 d = some (exd d fs) ∧ H1 d = none ∧ Q (.ref C) (some d) (upd (del H2 a) d (.xd fs))) (fun _ _ _ => False)) :
    wpAny (model X.prog X.w) X.A (call (.ref C) us kw) (L2N.MkP X pins σ Q) X.xe s1 := by
  obtain ⟨nm, qn, N, bl, bm, sn, sub, ab, col, dd, k0, k1, k2, k3, k5, hC, hbm⟩ := T.cls
  obtain ⟨hp, g, dr, tk, os⟩ := s1
  have gone : H1 (hp.objs.size + 1) = none := I1.hok.fresh (Nat.le_succ _)
  have hq := q1 _ gone
  have up : ∀ b o, hp.get? b = some o → ((hp.push (PySem.W.kdv_tup us)).push (PySem.HandSPX.excO C hp.objs.size)).get? b = some o :=
    fun b o e => Heap.get?_push_of_some _ (Heap.get?_push_of_some _ e)
  have at1 : ((hp.push (PySem.W.kdv_tup us)).push (PySem.HandSPX.excO C hp.objs.size)).get? (hp.objs.size + 1) = some (PySem.HandSPX.excO C hp.objs.size) := by
    heap_get
  have I2 := I1.laid (t' := tk) (a := hp.objs.size + 1) (o := exo (hp.objs.size + 1) C none) up (Nat.le_succ _) (exo_ok at1)
  have r2 : Vals (V.ref (hp.objs.size + 1) :: zs) (Value.ref (hp.objs.size + 1) :: bs) := .cons rfl r
  have hl : (Value.ref (hp.objs.size + 1) :: bs).length = ps.length := r2.length.symm.trans (F1.len _ _ _ _ hq)
  have base := PySem.FrKw.kw_own (kw := kw) F.excBase_ValueError (fun Y => PySem.HandSPX.refsVE_contains Y bm hbm) (I1.kIn _ _ hC) hus (PySem.W.looks_findIn I1.kIn iC) (fun o => PySem.W.bind_fn I1.kIn o tI)
    (pg := X.prog) (wd := X.w) (Ar := X.A) (gs := g) (dr := dr) (tk := tk) (oS := os) (Rs := fun r s' => match r with
      | .ok (.ret u) => L2N.MkP X pins σ Q u s'
      | .ok _ => False
      | .error e => X.xe e s')
  refine wpAny_call (codeAny_mono (base (codeAny_mono (F1.run _ X.stack _ _ _ _ _ _ (fun _ _ _ => False) (hr.make C us kw) (I2.env0.make C us kw) (hb _ _ I2.kIn hl) r2 hq) fun r s' hq' => ?_)) fun r s' z => ?_)
  · cases r with
    | error er => exact hx pins σ _ _ er s' I2 hq'
    | ok fl =>
      cases fl with
      | ret u =>
        obtain ⟨v, H2, os2, bare2, un2, hok2, rv, ev, d, fs, ea, ed, hd1, q2⟩ := hq'
        subst ev
        obtain ⟨h2, g2, d2, t2, os'⟩ := s'
        obtain ⟨t0, G, J, kG, ge, hoe, na⟩ := mk_end0 (d2 := d2) (t2 := t2) I1 (Nat.le_succ _) up un2 hok2 os2 bare2 ea ed hd1
        exact ⟨rv, _, _, _, _, _, .ref C, some d, rfl, J, kG, ge, hoe, ⟨rfl, rfl, fun vs e => by cases e; rfl⟩, rfl, rfl, na, rfl, bare2, raises_own T.exC T.tyC, q2⟩
      | next => exact False.elim hq'
      | brk => exact False.elim hq'
      | cont => exact False.elim hq'
  · cases r with
    | error er => exact z
    | ok fl => cases fl <;> exact z
/-- C(e, ..) -/
theorem pmkN_oex (T : OexC X.K C) (iC : PySem.W.findIn X.K (.ref C) "__init__" = some (some (.ref fI))) (tI : PySem.W.typeIn X.K (.ref fI) = some (.type "function")) (F1 : FnOk X.prog X.w X.K X.mg X.base CX k fI fd ps sp) (hr : Room (k + 1) X.A)
    (hb : Binds X.K fd ps []) (hx : Passes CX X (fun _ _ _ => False)) (hg : Gl X x) (hm : X.mg x = some (.ref C)) (ha : PA X (e :: es) ta)
    (hdb : (x == ("__debug__" : Str)) = false := by decide) (he : starEach (e :: es) X.env = (false, eval e X.env) :: starEach es X.env := by rfl) (hpl : (backTo pos (starEach es X.env)).any (·.1) = false := by rfl) :
    L2N.PMk X (.Call (.Name x p) (e :: es) [] pos) (tMkO C sp [] ta) := by
  intro pins s σ H Q I h
  refine wpAny_Call_Name_kw (ld_glob I hg hm ?_ hdb)
  refine PySem.W.callWith_K (h₀ := X.base) I.ok.mod.kin T.kC (thn (ha.run pos pins s σ H _ I h) ?_) he hpl
  rintro us s1 ⟨vs, H1, I1, r1, hz, q1⟩
  refine ⟨I1.kIn, made_kw (kw := []) T iC tI F1 hr hx I1 r1 ?_ (fun s a kin l => ?_) fun a ha => ?_⟩
  · show us.length ≤ sizeLine
    rw [← r1.length, sizeLine_eq]
    omega
  · have b := hb s (.ref a :: us) kin (by rw [List.append_nil]; exact l)
    rw [List.append_nil] at b
    exact b
  · have z := q1 a ha
    rw [List.append_nil] at z
    exact z
/-- C(f=e, ..) -/
def tMkW (C : Addr) (js : List Nat) (n : Nat) (sp : Sp) (tk : TA) : L2.St → Hp → XK → Prop := fun σ H Q => tk σ H fun zs H1 => zs.length = n ∧ ∀ a, H1 a = none → sp (.ref a :: pick js zs) (upd H1 a (exo a C none))
  (fun v H2 => v = .non ∧ ∃ (d : Addr) (fs : List (Str × V)), H2 a = some (exo a C (some d)) ∧ H2 d = some (exd d fs) ∧ H1 d = none ∧ Q (.ref C) (some d) (upd (del H2 a) d (.xd fs))) (fun _ _ _ => False)
theorem pmkN_oexK (T : OexC X.K C) (iC : PySem.W.findIn X.K (.ref C) "__init__" = some (some (.ref fI))) (tI : PySem.W.typeIn X.K (.ref fI) = some (.type "function")) (F1 : FnOk X.prog X.w X.K X.mg X.base CX k fI fd ps sp) (hr : Room (k + 1) X.A)
    (hb : KwOk1 X.K fd ps ks js) (hx : Passes CX X (fun _ _ _ => False)) (hg : Gl X x) (hm : X.mg x = some (.ref C)) (hkw : PK X kws tk)
    (hall : (backToKw pos (keywordEach kws X.env)).all (·.1.isSome) = true := by rfl) (hks : (backToKw pos (keywordEach kws X.env)).filterMap (·.1) = ks := by rfl) (hdb : (x == ("__debug__" : Str)) = false := by decide)
    (hpl : ((backTo pos (starEach [] X.env)).any (·.1) || (backToKw pos (keywordEach kws X.env)).any (·.1.isNone)) = false := by rfl) :
    L2N.PMk X (.Call (.Name x p) [] kws pos) (tMkW C js ks.length sp tk) := by
  intro pins s σ H Q I h
  refine wpAny_Call_Name_kw (ld_glob I hg hm ?_ hdb)
  refine PySem.W.callWith_KW0 (h₀ := X.base) I.ok.mod.kin T.kC hall ?_ hpl
  refine thn (hkw.run pos pins s σ H _ I h) ?_
  rintro ws s2 ⟨zs, H2, I2, rz, l2, q2⟩
  refine ⟨I2.kIn, ?_⟩
  rw [hks]
  have hr2 := KBn.rel hb (vs := [V.ref 0]) (us := [Value.ref 0]) (.cons rfl .nil) rz
  have rp : Vals (pick js zs) (pick js ws) := by
    cases hr2 with
    | cons _ r => exact r
  exact made_kw (us := []) (bs := pick js ws) T iC tI F1 hr hx I2 rp (Nat.zero_le _) (fun s a kin l => KBn.to hb s [.ref a] ws kin rfl (rz.length.symm.trans l2)) q2
/-- C() of one without an __init__ -/
theorem pmkN_own0 {bmB : List Value} {B newId initId : String} (F : ExcBaseFacts B newId initId bmB) (q : PySem.W.excIn X.K C bmB newId = true) (gC : X.mg x = some (.ref C)) (kC : PySem.W.keepIn X.K (.ref C) = true) (r : Raises X (.ref C)) (hg : Gl X x)
    (hdb : (x == ("__debug__" : Str)) = false := by decide) : L2N.PMk X (.Call (.Name x p) [] [] pos) (fun _ H Q => Q (.ref C) none H) := by
  intro pins s σ H Q I h
  refine wpAny_Call_Name_kw (ld_glob I hg gC ?_ hdb)
  refine PySem.W.callWith_K0 I.kIn kC ?_
  obtain ⟨bm, N, nm, qn, bs, hdct, sn, sub, ab, col, dd, k0, k1, k2, k3, k5, mN, hC, hN, hni, T⟩ := exc_obj I.kIn q
  show wpAny _ _ (call (.ref C) []) _ _ _
  refine wpAny_call_exc_subT F T hC hN hni (fun h' e hm => ?_) (Nat.zero_le _)
  exact L2N.mk_of I hm r h (I.hok.gone hm.new)
end
/-! # defs that raise, what they raise may have a dict -/
def PrEN (RE : List Dat → Value → Prop) : Sp := fun vs H Q E => ∃ A xs cls, Ex A H ∧ Reps A vs xs ∧ RE xs cls ∧ ∀ d B H', XD H' d → Gr A H B H' → E cls d H'
def RunEN (ts : TS) (W : WX) (γ : Gam) (cls : Value) : Prop := ∀ A0 H0 A H σ, Gr A0 H0 A H → Ok H0 A H σ γ → ∀ D : Ends, (∀ d B H' σ', XD H' d → Gr A0 H0 B H' → W cls d σ' H') → ts D σ H
def EvEN (te : TE) (W : WX) (γ : Gam) (cls : Value) : Prop := ∀ H0 A H σ, Ok H0 A H σ γ → ∀ Q : VK, (∀ d B H', XD H' d → Gr A H B H' → W cls d σ H') → te σ H Q
section
variable {γ δ : Gam} {te : TE} {t : TT} {xs : List Dat} {tu tw : TS} {W : WX} {cls : Value} {RE : List Dat → Value → Prop}
theorem ren_of (h : RunE tu W γ cls) : RunEN tu W γ cls := fun A0 H0 A H σ g k D d => h A0 H0 A H σ g k D fun B H' σ' => d none B H' σ' (.inl rfl)
theorem een_call {tr : TA} (h : EvA tr γ xs) (hR : RE xs cls) : EvEN (tCallS (PrEN RE) (WE W) tr) W γ cls := fun H0 A H σ k Q q =>
  h H0 A H σ k _ fun vs B H1 g1 r1 => ⟨B, xs, cls, g1.sub, r1, hR, fun d C H2 x g2 => q d C H2 x (g1.trans g2)⟩
theorem ren_drop (h : EvEN te W γ cls) : RunEN (tDrop te) W γ cls := fun A0 H0 A H σ g0 k D d => h H0 A H σ k _ fun d' B H' x g => d d' B H' σ x (g0.trans g)
theorem ren_ifT {b : Bool} (h : EvT t γ b) (h1 : b = true → RunEN tu W γ cls) (h2 : b = false → RunEN tw W γ cls) : RunEN (tIfS t tu tw) W γ cls := fun A0 H0 A H σ g0 k D d => h H0 A H σ k _ fun B H1 g1 => by
  cases b with
  | true => exact h1 rfl A0 H0 B H1 σ (g0.trans g1) (k.mono g1) D d
  | false => exact h2 rfl A0 H0 B H1 σ (g0.trans g1) (k.mono g1) D d
theorem ren_seq0 (h : RunEN tu W γ cls) : RunEN (tSeq tu tw) W γ cls := fun A0 H0 A H σ g0 k D d => h A0 H0 A H σ g0 k { D with nx := tw D } d
theorem ren_seq {R' : Dat → Gam → Prop} (h : Run tu γ (fun ε => ε = δ) (fun _ _ => False)) (hk : RunEN tw W δ cls) : RunEN (tSeq tu tw) W γ cls := fun A0 H0 A H σ g0 k D d =>
  h A0 H0 A H σ g0 k { D with nx := tw D } (fun ε B H' σ' e g' v k' => by subst e; exact hk A0 H0 B H' σ' g' k' D d) fun _ _ _ _ _ _ z _ _ => z.elim
end
section
variable {P : Program} {w0 : World} {K : PySem.W.Frag} {mg : Str → Option Value} {base : Heap}
theorem fn_prEN {x qual : Str} {st : Stmt} {f : Addr} {fd : FuncData} {N ps : List Str} {k : Nat} {RE : List Dat → Value → Prop} (F : Fun K x qual st f fd) (S : FnScope N ps (defScope st)) (hlen : ∀ xs c, RE xs c → xs.length = ps.length)
    (hbody : ∀ (cdv : Value) (A : Around) (outer : List PySem.Env) (s : Shared) (H : Hp) (E : XK), Room k (A.deeper (envOfC qual (defScope st) s.heap.objs.size f cdv)) →
      ∃ t, PSs (cxOf (L2N.CX P w0) P w0 K mg base N qual (defScope st) f cdv A outer s H E) (defBody st) t ∧ ∀ xs c, RE xs c → RunEN t (fun c d _ H => E c d H) (entry N xs) c) : FnOk P w0 K mg base (L2N.CX P w0) (k + 1) f fd ps (PrEN RE) := by
  obtain ⟨oc, od, kV, doc, pm, an, cdv, ct, osl, rfl, lk, hcd⟩ := F.ex
  refine fn_of lk hcd S (fun vs H Q E h => ?_) fun A outer s H vs Q E hr h => ?_
  · obtain ⟨A, xs, c, s, r, hR, _⟩ := h
    rw [r.len]
    exact hlen xs c hR
  · obtain ⟨B, xs, c, sub, r, hR, q⟩ := h
    obtain ⟨t, h1, h2⟩ := hbody cdv A outer s H E hr
    exact ⟨t, h1, h2 xs c hR B H B H _ (Gr.refl sub) (ok_entry sub N r) _ fun d C H' σ' x g => q d C H' x g⟩
end
end Fr

set_option Elab.async false
set_option linter.all false
set_option maxRecDepth 100000
set_option maxHeartbeats 4000000
namespace Fr
open PySem PySem.Spec PyProof.Rows L2 HotX
open Evl (Ex)
/-! # suites that are told what is caught -/
/-- a suite from one place on -/
def RunAt (ts : TS) (A0 H0 B H1 : Hp) (σ : L2.St) (γ : Gam) (N : Gam → Prop) (R : Dat → Gam → Prop) : Prop := Gr A0 H0 B H1 → Ok H0 B H1 σ γ → ∀ D : Ends,
  (∀ δ C H' σ', N δ → Gr A0 H0 C H' → Ex B C → Ok H0 C H' σ' δ → D.nx σ' H') → (∀ v C H' x σ' δ, R x δ → Gr A0 H0 C H' → Ok H0 C H' σ' δ → Rep C v x → D.rt v H') → ts D σ H1
theorem runAt_of {ts : TS} {γ : Gam} {N : Gam → Prop} {R : Dat → Gam → Prop} {A0 H0 B H1 : Hp} {σ : L2.St} (h : Run ts γ N R) : RunAt ts A0 H0 B H1 σ γ N R := fun g k D dn dr => h A0 H0 B H1 σ g k D dn dr
section
variable {K : PySem.W.Frag} {γ : Gam} {te : TE} {ta tb tc : TE} {x y z : Dat} {xs : List Dat} {N : Gam → Prop} {R : Dat → Gam → Prop} {c cls : Value} {i j : Nat} {Wout : WX}
/-- the suite goes on: the name is unbound behind it -/
theorem wAs_in {ts : Addr → Value → Option Addr → TS} {D : Ends} {A0 H0 B H1 : Hp} {σ : L2.St} {d : Option Addr} (hx : PySem.W.exmOne K cls c = some true) (g : Gr A0 H0 B H1) (k : Ok H0 B H1 σ γ)
    (hs : ∀ a, H1 a = none → RunAt (ts a cls d) A0 H0 B H1 (σ.set i (some (.ref a))) (γ.set i (.d (.hnd a))) (fun δ => N (δ.set i .no)) R) (dn : ∀ δ C H' σ', N δ → Gr A0 H0 C H' → Ex B C → Ok H0 C H' σ' δ → D.nx σ' H')
    (dr : ∀ v C H' x σ' δ, R x δ → Gr A0 H0 C H' → Ok H0 C H' σ' δ → Rep C v x → D.rt v H') : wAs K c i ts Wout D cls d σ H1 :=
  ⟨true, hx, fun _ a ha => hs a ha g (k.setD (.hnd a) i) _ (fun δ C H2 σ' n g2 v2 k2 => dn _ C H2 _ n g2 v2 (k2.forget i none)) dr, fun z => nomatch z⟩
/-- a call that raises -/
theorem run_tryEN {te : WX → TE} {ts : Addr → Value → Option Addr → TS} (hE : ∀ W, EvEN (te W) W γ cls) (hx : PySem.W.exmOne K cls c = some true)
    (hs : ∀ a d A0 H0 B H1 (σ : L2.St), XD H1 d → H1 a = none → RunAt (ts a cls d) A0 H0 B H1 (σ.set i (some (.ref a))) (γ.set i (.d (.hnd a))) (fun δ => N (δ.set i .no)) R) :
    Run (fun D σ H => tDrop (te (wAs K c i ts Wout D)) D σ H) γ N R := fun A0 H0 A H σ g0 k D dn dr =>
  hE _ H0 A H σ k _ fun d B H1 xd g1 => wAs_in hx (g0.trans g1) (k.mono g1) (fun a ha => hs a d A0 H0 B H1 σ xd ha) (fun δ C H2 σ' n g2 v2 k2 => dn δ C H2 σ' n g2 (g1.view.trans v2) k2) dr
/-- raise X() -/
theorem run_tryR {C0 : Addr} {ts : Addr → Value → Option Addr → TS} (hx : PySem.W.exmOne K (.ref C0) c = some true) (hs : ∀ a A0 H0 B H1 (σ : L2.St), H1 a = none → RunAt (ts a (.ref C0) none) A0 H0 B H1 (σ.set i (some (.ref a))) (γ.set i (.d (.hnd a))) (fun δ => N (δ.set i .no)) R) :
    Run (fun D σ H => (fun cls d H' => wAs K c i ts Wout D cls d σ H') (.ref C0) none H) γ N R := fun A0 H0 A H σ g0 k D dn dr =>
  wAs_in hx g0 k (fun a ha => hs a A0 H0 A H σ ha) dn dr
/-- raise X(e), X keeps e in the field f; the suite: kept.append(err.f) -/
theorem run_tryK {C0 : Addr} {f : Str} {tm : L2.St → Hp → XK → Prop} (hx : PySem.W.exmOne K (.ref C0) c = some true)
    (hm : ∀ H0 A H σ, Ok H0 A H σ γ → ∀ Q : XK, (∀ dx v B H', Gr A H B H' → H' dx = some (.xd [(f, v)]) → Rep B v y → Q (.ref C0) (some dx) H') → tm σ H Q)
    (hj : γ[j]? = some (Slot.o xs)) (hij : i ≠ j) (hi : i < γ.length) (hl : xs.length < sizeLine) (hn : N ((γ.set j (.o (xs ++ [y]))).set i .no)) :
    Run (fun D σ H => tm σ H fun cls d H' => wAs K c i (fun a cls d => tDrop (tBM K "list" rAppend (tVar j) (tCons (tXf a cls d C0 f (tVar i)) tNil))) Wout D cls d σ H') γ N R := fun A0 H0 A H σ g0 k D dn dr =>
  hm H0 A H σ k _ fun dx v B H1 g1 hd rv => wAs_in hx (g0.trans g1) (k.mono g1) (fun a ha => fun g2 k2 D2 dn2 _ => by
    have hj2 : (γ.set i (.d (.hnd a)))[j]? = some (Slot.o xs) := by
      rw [List.getElem?_set_ne hij]
      exact hj
    obtain ⟨l, vs, e, h0, hA, hH, r⟩ := k2.own j xs hj2
    have hi2 : (σ.set i (some (V.ref a)))[i]? = some (some (V.ref a)) := List.getElem?_set_self (by rw [k.len]; exact hi)
    refine ⟨.ref l, e, .inl ⟨rfl, vs, SqL.of hH⟩, .ref a, hi2, rfl, rfl, dx, [(f, v)], v, rfl, hd, by rw [List.lookup_cons_self], l, vs, v, rfl, rfl, hH, by rw [r.len]; exact hl, ?_⟩
    exact dn2 _ B _ _ (by
      show N (((γ.set i (.d (.hnd a))).set j (.o (xs ++ [y]))).set i .no)
      rw [List.set_comm _ _ hij, List.set_set]
      exact hn) (g2.mut h0 hA) (Ex.refl B) (k2.change hj2 e (r.app (Reps.one rv)))) (fun δ C H2 σ' n g2 v2 k2 => dn δ C H2 σ' n g2 (g1.view.trans v2) k2) dr
/-- kept, x, y = [], .. -/
theorem run_par3O {l : Nat} (h1 : EvN ta γ xs) (h2 : EvD tb γ y) (h3 : EvD tc γ z) (hn : N (((γ.set i (.o xs)).set j (.d y)).set l (.d z))) : Run (tPar3 i j l (tCons ta (tCons tb (tCons tc tNil)))) γ N R := fun A0 H0 A H σ g0 k D dn dr =>
  h1 H0 A H σ k _ fun p vs B H1 g1 hl hB e1 r1 => h2 H0 B H1 σ (k.mono g1) _ fun v2 C H2 g2 r2 => h3 H0 C H2 σ ((k.mono g1).mono g2) _ fun v3 E H3 g3 r3 => by
    have g4 := g2.trans g3
    have k4 := (k.mono g1).mono g4
    have k5 := k4.setM (l := p) (s := .o xs) i (fun q t hq mt e => by
      obtain ⟨a, o, e2, _, _, e3⟩ := k.addr hq mt
      rw [e2] at e
      cases e
      rw [hl] at e3
      cases e3) (fun _ z => nomatch z) (fun _ _ z => nomatch z) (fun _ _ z => nomatch z) (fun _ z => by cases z; exact ⟨vs, Evl.fresh_back g0.up hl, g4.hid p _ e1 True.intro hB, g4.up _ _ e1, r1.mono g4.view⟩) fun _ z => nomatch z
    exact ⟨_, _, _, rfl, dn _ E H3 _ hn (g0.trans (g1.trans g4)) ((g1.view.trans g4.view)) ((k5.setD (r2.mono g3.view) j).setD r3 l)⟩
theorem reps_bl {H : Hp} : ∀ bs : List Bool, Reps H (bs.map V.bl) (bs.map Dat.bl)
  | [] => .nil
  | b :: bs => .cons (.bl b) (reps_bl bs)
/-- a new list of booleans that a call hands back is stored -/
theorem at_bools {A0 H0 B H1 H' : Hp} {σ : L2.St} {l : Addr} {bs : List Bool} (g : Gr A0 H0 B H1) (k : Ok H0 B H1 σ γ) (e : Ex H1 H') (n : H1 l = none) (h : H' l = some (.lst (bs.map V.bl))) :
    ∃ C, Gr B H1 C H' ∧ Ok H0 C H' (σ.set j (some (.ref l))) (γ.set j (.d (.lst (bs.map .bl)))) := by
  have g1 : Gr B H1 B H' := ⟨e, Ex.refl B, k.sub.trans e, fun _ _ _ _ h => h⟩
  have bl : B l = none := Evl.fresh_back k.sub n
  have g2 := g1.show h n bl
  exact ⟨_, g2, (k.mono g2).setD (.lst upd_same (reps_bl bs)) j⟩
end
theorem passAt0 {X : Cx} : ∀ σ, PassesAt CX0 X σ (fun _ _ _ => False) := fun _ _ _ _ _ _ _ h => h.elim
theorem pe_callQ {X : Cx} {CX : CXT} {k : Nat} {f : Addr} {fd : FuncData} {ps : List Str} {sp : Addr → Value → Option Addr → Sp} {x : Str} {q pos : Pos} {cls : Value} {d : Option Addr} {e : Expr} {es : List Expr} {t : TA} {a : Addr} {oe : Obj} (F : FnP X.prog X.w X.K X.mg X.base CX k f fd ps sp) (hr : L2H.RoomH k X.A) (hot : L2H.Hot1 X.A (a, oe)) (hz : Zc cls d oe) (hp : (a, oe) ∈ X.pn)
    (hg : Gl X x) (hm : X.mg x = some (.ref f)) (hk : PySem.W.keepIn X.K (.ref f) = true) (hb : Binds X.K fd ps []) (hx : ∀ σ, PassesAt CX X σ (fun _ _ _ => False)) (ha : PA X (e :: es) t) (hdb : (x == ("__debug__" : Str)) = false := by decide)
    (he : starEach (e :: es) X.env = (false, eval e X.env) :: starEach es X.env := by rfl) (hpl : (backTo pos (starEach es X.env)).any (·.1) = false := by rfl) : PE X (.Call (.Name x q) (e :: es) [] pos) (tCallP a cls d sp t) :=
  pe_callP (p := (a, oe)) F hr hot hz hp hg hm hk hb hx ha hdb he hpl
theorem call_isQ {X : Cx} {K : PySem.W.Frag} (eK : X.K = K) {a : Addr} {oe : Obj} {cls : Value} {d : Option Addr} (hp : (a, oe) ∈ X.pn) (hz : Zc cls d oe) (hf : ∃ vs, oe.data = .fields vs) : CallR X (.builtin "isinstance") (rIsP K a cls d) := call_isPK (p := (a, oe)) eK hp hz hf
end Fr

set_option Elab.async false
set_option linter.all false
set_option maxRecDepth 100000
set_option maxHeartbeats 4000000
namespace Fr
open PySem PySem.Spec PyProof.Rows L2
open Evl (Ex)
/-! # an own object that is called: o(e), o(k = e); y in o; what raises over objects that stand still -/
def rawSp (sp : Sp) : Sp := fun vs H Q E => sp (vs ++ []) H Q E
def tCallO1 (C : Addr) (sp : Sp) (E : XK) (tf : TE) (t : TA) : TE := fun σ H Q => tf σ H fun y H1 => ∃ a, y = V.ref a ∧ t σ H1 fun vs H2 => (∃ dx fs, H2 a = some (.ins C dx fs)) ∧ sp (V.ref a :: vs) H2 Q E
def tCallOK (C : Addr) (js : List Nat) (n : Nat) (sp : Sp) (E : XK) (tf : TE) (tk : TA) : TE := fun σ H Q => tf σ H fun y H1 => ∃ a, y = V.ref a ∧ tk σ H1 fun zs H2 => (∃ dx fs, H2 a = some (.ins C dx fs)) ∧ zs.length = n ∧ sp (V.ref a :: pick js zs) H2 Q E
structure CallOk (K : PySem.W.Frag) (C f : Addr) : Prop where
  at_ : PySem.W.findIn K (.ref C) "__call__" = some (some (.ref f))
  fn : PySem.W.isFn K (.ref f) = true
  fi : PySem.W.fnIn K f = true
section
open PySem.W PySem.Calls
/-- the call's node where the callee is an instance, keywords too -/
theorem callK_of {M : Model} {A : Around} {E : Value → Shared → Prop} {s : Shared} {a : Addr} {pos : Pos} {Q : Value → Shared → Prop} {args : List (Bool × Sem Value)} {kws : List (Option Str × Sem Value)} (hplain : (args.any (·.1) || kws.any (·.1.isNone)) = false)
    (h : wpAny M A (evalArgs (.ref a) true args kws) (fun z s₁ => (∃ C ox od, PySem.W.InstAt s₁.heap a ox C od ∧ ox.data = .plain) ∧ wpAny M A (call (.ref a) ([] ++ z.pos) z.kw) Q E s₁) E s) : wpAny M A (callWith pos (.ref a) [] args kws) Q E s := by
  unfold callWith
  refine wpAny_bind (wpAny_holding (wpAny_mono h (fun z s₁ h₁ => wpAny_bind (wpAny_standAt ?_)) fun _ _ y => y))
  obtain ⟨⟨C, ox, od, J, hd⟩, h₁⟩ := h₁
  have L := PySem.W.kco_keeper (M := M) J hd
  simp only [hplain]
  refine wpAny_bind (L.here ?_)
  have tail : ∀ {t : Sem Value}, wpAny M A t Q E s₁ → wpAny M A (t >>= fun r => holding [r] point >>= fun _ => pure r) Q E s₁ :=
    fun ht => wpAny_bind (wpAny_mono ht (fun r s₂ hr => wpAny_bind (wpAny_holding (wpAny_point (wpAny_pure hr)))) fun _ _ y => y)
  exact tail (wpAny_operateT h₁)
end
section
variable {X : Cx} {CX : CXT} {k : Nat} {C f : Addr} {fd : FuncData} {ps ks : List Str} {js : List Nat} {sp : Sp} {E : XK} {fe e : Expr} {es : List Expr} {kws : List Keyword} {pos : Pos} {tf : TE} {t tk : TA}
theorem ins_plain {pins : List (Addr × Obj)} {σ : L2.St} {H : Hp} {s : Shared} {a dx : Addr} {fs : List (Str × V)} (I : Inv X pins σ H s) (h : H a = some (.ins C dx fs)) : ∃ ox od, PySem.W.InstAt s.heap a ox C od ∧ ox.data = .plain := by
  obtain ⟨mA, O, _⟩ := ins_get I.hok h
  obtain ⟨od, J, _⟩ := O.look
  exact ⟨_, _, J, rfl⟩
theorem pe_callO1 (hf : PE X fe tf) (c : CallOk X.K C f) (F : FnOk X.prog X.w X.K X.mg X.base CX k f fd ps sp) (hr : Room k X.A) (hb : Binds X.K fd ps []) (hx : Passes CX X E) (ha : PA X (e :: es) t)
    (ht : eval (.Call fe (e :: es) [] pos) X.env = (do callWith pos (← eval fe X.env) [] (backTo pos (starEach (e :: es) X.env)) (backToKw pos (keywordEach [] X.env))) := by rfl)
    (he : starEach (e :: es) X.env = (false, eval e X.env) :: starEach es X.env := by rfl) (hpl : (backTo pos (starEach es X.env)).any (·.1) = false := by rfl) : PE X (.Call fe (e :: es) [] pos) (tCallO1 C sp E tf t) := by
  refine ⟨fun pins s σ H Q I h => ?_⟩
  refine Call_ (thn (hf.run pins s σ H _ I h) fun u s1 ⟨y, H1, I1, ry, a, ey, q⟩ => ?_) ht
  subst ey
  obtain rfl : u = Value.ref a := ry
  refine StX.callO_with (thn (ha.run pos pins s1 σ H1 _ I1 q) fun us s2 ⟨vs, H2, I2, r, hi, q2⟩ => ?_) he hpl
  obtain ⟨dx, fs, hi⟩ := hi
  obtain ⟨ox, od, J, hd⟩ := ins_plain I2 hi
  have e2 : ∀ zs : List V, zs ++ [] = zs := List.append_nil
  exact ⟨⟨C, ox, od, J, hd⟩, wpAny_call (PySem.W.kco_code I2.kIn J hd c.at_ c.fn c.fi (run_fnR (us := .ref a :: us) (vs := .ref a :: vs) (F.raw hb .nil) hr hx I2 (.cons rfl r) (by rw [e2]; exact q2)))⟩
theorem pe_callOK (hf : PE X fe tf) (c : CallOk X.K C f) (F : FnOk X.prog X.w X.K X.mg X.base CX k f fd ps sp) (hr : Room k X.A) (hb : KwOk1 X.K fd ps ks js) (hx : Passes CX X E) (hkw : PK X kws tk)
    (ht : eval (.Call fe [] kws pos) X.env = (do callWith pos (← eval fe X.env) [] (backTo pos (starEach [] X.env)) (backToKw pos (keywordEach kws X.env))) := by rfl)
    (hall : (backToKw pos (keywordEach kws X.env)).all (·.1.isSome) = true := by rfl) (hks : (backToKw pos (keywordEach kws X.env)).filterMap (·.1) = ks := by rfl)
    (hpl : ((backTo pos (starEach [] X.env)).any (·.1) || (backToKw pos (keywordEach kws X.env)).any (·.1.isNone)) = false := by rfl) : PE X (.Call fe [] kws pos) (tCallOK C js ks.length sp E tf tk) := by
  refine ⟨fun pins s σ H Q I h => ?_⟩
  rw [ht]
  refine wpAny_bind (thn (hf.run pins s σ H _ I h) fun u s1 ⟨y, H1, I1, ry, a, ey, q⟩ => ?_)
  subst ey
  obtain rfl : u = Value.ref a := ry
  refine callK_of hpl (evalArgs_kw2_nil hall (thn (hkw.run pos pins s1 σ H1 _ I1 q) fun ws s2 ⟨zs, H2, I2, rz, hi, l2, q2⟩ => ?_))
  obtain ⟨dx, fs, hi⟩ := hi
  obtain ⟨ox, od, J, hd⟩ := ins_plain I2 hi
  refine ⟨⟨C, ox, od, J, hd⟩, ?_⟩
  have r1 : Vals [V.ref a] [Value.ref a] := .cons rfl .nil
  have r2 := hb.rel r1 rz
  rw [hks]
  refine wpAny_call (PySem.W.kco_code I2.kIn J hd c.at_ c.fn c.fi (codeAny_mono (F.run X.A X.stack s2 H2 ⟨[.ref a], ks.zip ws⟩ _ _ Q E hr I2.env0 (hb.to s2 [.ref a] ws I2.kIn rfl (rz.length.symm.trans l2)) r2 q2) fun r s' hq => ?_))
  cases r with
  | error e => exact hx pins σ H2 s2 e s' I2 hq
  | ok fl =>
    cases fl with
    | ret u => exact I2.after hq
    | next => exact False.elim hq
    | brk => exact False.elim hq
    | cont => exact False.elim hq
/-- y in o -/
def rInO (C : Addr) (sp : Sp) (E : XK) : R2 := fun y x H Q => ∃ a dx fs, x = .ref a ∧ H a = some (.ins C dx fs) ∧ sp [.ref a, y] H (fun v H' => ∃ b, v = .bl b ∧ Q (.bl b) H') E
theorem op_inO (F : FnOk X.prog X.w X.K X.mg X.base CX k f fd ps sp) (hr : Room k X.A) (o : OwnSp X.K C "__contains__" f) (hb : Binds X.K fd ps []) (hx : Passes CX X E) : OpR X (compareOp .In) (rInO C sp E) := by
  intro pins s σ H y x u v Q I ry rx h
  obtain ⟨a, dx, fs, rfl, ha, hq⟩ := h
  cases (show v = Value.ref a from rx)
  obtain ⟨mA, J, _⟩ := ins_get I.hok ha
  obtain ⟨od, J, _⟩ := J.look
  obtain ⟨m, hF⟩ := I.fr
  refine PySem.W.in_K hF I.ok.mod.kin J o.at_ o.fn (wpAny_mono (run_own (n := 0) I I.env0 F hr hb hx (vs := [.ref a, y]) (.cons rfl (.cons ry .nil)) hq) (fun w s' hw => ?_) fun _ _ e => e)
  obtain ⟨z, H', I', rz, b, rfl, q⟩ := hw
  obtain rfl : w = Value.bool b := rz
  exact wpAny_truthy_bool ⟨.bl b, H', I', rfl, q⟩
end
section
variable {K : PySem.W.Frag} {γ : Gam} {ta tb : TE} {tr : TA} {x y z : Dat} {xs : List Dat} {C : Addr} {fs : List (Str × Dat)} {m : Str} {R : List Dat → Dat → Prop} {RE : List Dat → Value → Prop} {E : XK} {W : WX} {cls : Value} {js : List Nat} {n : Nat}
theorem ev_callO1 (h : EvD ta γ (.obj C fs)) (ht : EvA tr γ xs) (hR : R (.obj C fs :: xs) z) : EvD (tCallO1 C (Pr R) E ta tr) γ z := fun H0 A H σ k Q q =>
  h H0 A H σ k _ fun v B H1 g1 r1 => by
    cases r1 with
    | @obj a _ dx kvs _ h1 rf =>
      refine ⟨a, rfl, ht H0 B H1 σ (k.mono g1) _ fun vs D H2 g2 r2 => ⟨⟨dx, kvs, g2.sub _ _ (g2.view _ _ h1)⟩, D, .obj C fs :: xs, z, g2.sub, .cons (.obj (g2.view _ _ h1) (rf.mono g2.view)) r2, hR, fun v D' H3 g3 r3 => q v D' H3 ((g1.trans g2).trans g3) r3⟩⟩
theorem ev_callOB (h : EvD ta γ (.obj C fs)) (ht : EvA tr γ xs) (hR : R (.obj C fs :: xs) z) : EvD (tCallO1 C (PrB R RE) E ta tr) γ z := fun H0 A H σ k Q q =>
  h H0 A H σ k _ fun v B H1 g1 r1 => by
    cases r1 with
    | @obj a _ dx kvs _ h1 rf =>
      refine ⟨a, rfl, ht H0 B H1 σ (k.mono g1) _ fun vs D H2 g2 r2 => ⟨⟨dx, kvs, g2.sub _ _ (g2.view _ _ h1)⟩, .inl ⟨D, .obj C fs :: xs, z, g2.sub, .cons (.obj (g2.view _ _ h1) (rf.mono g2.view)) r2, hR, fun v D' H3 g3 r3 => q v D' H3 ((g1.trans g2).trans g3) r3⟩⟩⟩
theorem ee_callO1 (h : EvD ta γ (.obj C fs)) (ht : EvA tr γ xs) (hR : RE (.obj C fs :: xs) cls) : EvE (tCallO1 C (PrB R RE) E ta tr) (WK E) γ cls := fun H0 A H σ k Q q =>
  h H0 A H σ k _ fun v B H1 g1 r1 => by
    cases r1 with
    | @obj a _ dx kvs _ h1 rf =>
      refine ⟨a, rfl, ht H0 B H1 σ (k.mono g1) _ fun vs D H2 g2 r2 => ⟨⟨dx, kvs, g2.sub _ _ (g2.view _ _ h1)⟩, .inr ⟨D, .obj C fs :: xs, cls, g2.sub, .cons (.obj (g2.view _ _ h1) (rf.mono g2.view)) r2, hR, fun D' H3 g3 => q D' H3 ((g1.trans g2).trans g3)⟩⟩⟩
theorem ev_callOK (h : EvD ta γ (.obj C fs)) (ht : EvA tr γ xs) (hl : xs.length = n) (hR : R (.obj C fs :: pick js xs) z) : EvD (tCallOK C js n (Pr R) E ta tr) γ z := fun H0 A H σ k Q q =>
  h H0 A H σ k _ fun v B H1 g1 r1 => by
    cases r1 with
    | @obj a _ dx kvs _ h1 rf =>
      refine ⟨a, rfl, ht H0 B H1 σ (k.mono g1) _ fun vs D H2 g2 r2 => ⟨⟨dx, kvs, g2.sub _ _ (g2.view _ _ h1)⟩, by rw [r2.len]; exact hl, D, .obj C fs :: pick js xs, z, g2.sub, .cons (.obj (g2.view _ _ h1) (rf.mono g2.view)) (reps_pick r2 js), hR, fun v D' H3 g3 r3 => q v D' H3 ((g1.trans g2).trans g3) r3⟩⟩
theorem ev_callOKB (h : EvD ta γ (.obj C fs)) (ht : EvA tr γ xs) (hl : xs.length = n) (hR : R (.obj C fs :: pick js xs) z) : EvD (tCallOK C js n (PrB R RE) E ta tr) γ z := fun H0 A H σ k Q q =>
  h H0 A H σ k _ fun v B H1 g1 r1 => by
    cases r1 with
    | @obj a _ dx kvs _ h1 rf =>
      refine ⟨a, rfl, ht H0 B H1 σ (k.mono g1) _ fun vs D H2 g2 r2 => ⟨⟨dx, kvs, g2.sub _ _ (g2.view _ _ h1)⟩, by rw [r2.len]; exact hl, .inl ⟨D, .obj C fs :: pick js xs, z, g2.sub, .cons (.obj (g2.view _ _ h1) (rf.mono g2.view)) (reps_pick r2 js), hR, fun v D' H3 g3 r3 => q v D' H3 ((g1.trans g2).trans g3) r3⟩⟩⟩
theorem ee_callOK (h : EvD ta γ (.obj C fs)) (ht : EvA tr γ xs) (hl : xs.length = n) (hR : RE (.obj C fs :: pick js xs) cls) : EvE (tCallOK C js n (PrB R RE) E ta tr) (WK E) γ cls := fun H0 A H σ k Q q =>
  h H0 A H σ k _ fun v B H1 g1 r1 => by
    cases r1 with
    | @obj a _ dx kvs _ h1 rf =>
      refine ⟨a, rfl, ht H0 B H1 σ (k.mono g1) _ fun vs D H2 g2 r2 => ⟨⟨dx, kvs, g2.sub _ _ (g2.view _ _ h1)⟩, by rw [r2.len]; exact hl, .inr ⟨D, .obj C fs :: pick js xs, cls, g2.sub, .cons (.obj (g2.view _ _ h1) (rf.mono g2.view)) (reps_pick r2 js), hR, fun D' H3 g3 => q D' H3 ((g1.trans g2).trans g3)⟩⟩⟩
/-- y in o -/
theorem r2_inO {b : Bool} (hR : R [.obj C fs, y] (.bl b)) : R2D (rInO C (Pr R) E) y (.obj C fs) (.bl b) := fun A H vx vy s r1 r2 Q q => by
  have r1' := r1
  cases r2 with
  | @obj a _ dx kvs _ h1 rf => exact ⟨a, dx, kvs, rfl, s _ _ h1, A, [.obj C fs, y], .bl b, s, .cons (.obj h1 rf) (.cons r1' .nil), hR, fun v B H' g rv => by cases rv; exact ⟨b, rfl, q _ B H' g (.bl b)⟩⟩
/-- C(e, ..) raises -/
theorem ee_make (h : EvA tr γ xs) (hR : ∀ p, RE (.hnd p :: xs) cls) : EvE (tMake C (PrE RE) [] E tr) (WK E) γ cls := fun H0 A H σ k Q q =>
  h H0 A H σ k _ fun vs B H1 g1 r1 => fun x dx hx hdx ne => by
    have bd : B dx = none := Evl.fresh_back g1.sub hdx
    have g2 : Gr B H1 B (upd H1 dx (.own x)) := Gr.newU g1.sub hdx
    have g3 : Gr B H1 B (upd (upd H1 dx (.own x)) x (.ins C dx [])) := g2.trans (Gr.newU g2.sub (by rw [upd_ne (Ne.symm ne)]; exact hx))
    exact ⟨B, .hnd x :: xs, cls, g3.sub, by rw [List.append_nil]; exact .cons (.hnd x) r1, hR x, fun D H2 g4 => q D H2 ((g1.trans g3).trans g4)⟩
theorem ee_makeK {k' : Nat} (h : EvA tr γ xs) (hl : xs.length = k') (hR : ∀ p, RE (.hnd p :: pick js xs) cls) : EvE (tMakeK C 0 k' (PrE RE) (fun vs zs => vs ++ pick js zs) E tNil tr) (WK E) γ cls := fun H0 A H σ k Q q =>
  h H0 A H σ k _ fun vs B H1 g1 r1 => ⟨rfl, by rw [r1.len]; exact hl, fun x dx hx hdx ne => by
    have g2 : Gr B H1 B (upd H1 dx (.own x)) := Gr.newU g1.sub hdx
    have g3 : Gr B H1 B (upd (upd H1 dx (.own x)) x (.ins C dx [])) := g2.trans (Gr.newU g2.sub (by rw [upd_ne (Ne.symm ne)]; exact hx))
    exact ⟨B, .hnd x :: pick js xs, cls, g3.sub, .cons (.hnd x) (reps_pick r1 js), hR x, fun D H2 g4 => q D H2 ((g1.trans g3).trans g4)⟩⟩
/-- o.m(e) that may raise, o standing still -/
theorem RepsF.none_ {A : Hp} {kvs : List (Str × V)} {fs : List (Str × Dat)} (r : RepsF A kvs fs) (l : fs.lookup m = none) : kvs.lookup m = none := RepsF.no r l
theorem ev_methB {E : L2.St → XK} (h : EvD ta γ (.obj C fs)) (l : fs.lookup m = none) (ht : EvA tr γ xs) (hR : R (.obj C fs :: xs) z) : EvD (tMethE C m (PrB R RE) E ta tr) γ z := fun H0 A H σ k Q q =>
  h H0 A H σ k _ fun v B H1 g1 r1 => by
    cases r1 with
    | @obj a _ dx kvs _ h1 rf =>
      refine ⟨a, dx, kvs, rfl, g1.sub _ _ h1, RepsF.no rf l, ht H0 B H1 σ (k.mono g1) _ fun vs D H2 g2 r2 => .inl ⟨D, .obj C fs :: xs, z, g2.sub, .cons (.obj (g2.view _ _ h1) (rf.mono g2.view)) r2, hR, fun v D' H3 g3 r3 => q v D' H3 ((g1.trans g2).trans g3) r3⟩⟩
theorem ee_meth (h : EvD ta γ (.obj C fs)) (l : fs.lookup m = none) (ht : EvA tr γ xs) (hR : RE (.obj C fs :: xs) cls) : EvE (tMethE C m (PrB R RE) (WE W) ta tr) W γ cls := fun H0 A H σ k Q q =>
  h H0 A H σ k _ fun v B H1 g1 r1 => by
    cases r1 with
    | @obj a _ dx kvs _ h1 rf =>
      refine ⟨a, dx, kvs, rfl, g1.sub _ _ h1, RepsF.no rf l, ht H0 B H1 σ (k.mono g1) _ fun vs D H2 g2 r2 => .inr ⟨D, .obj C fs :: xs, cls, g2.sub, .cons (.obj (g2.view _ _ h1) (rf.mono g2.view)) r2, hR, fun D' H3 g3 => q D' H3 ((g1.trans g2).trans g3)⟩⟩
theorem ev_methKB (h : EvD ta γ (.obj C fs)) (l : fs.lookup m = none) (ht : EvA tr γ xs) (hl : xs.length = n) (hR : R (.obj C fs :: pick js xs) z) : EvD (tMethW C m js n (PrB R RE) E ta tr) γ z := fun H0 A H σ k Q q =>
  h H0 A H σ k _ fun v B H1 g1 r1 => by
    cases r1 with
    | @obj a _ dx kvs _ h1 rf =>
      refine ⟨a, dx, kvs, rfl, g1.sub _ _ h1, RepsF.no rf l, ht H0 B H1 σ (k.mono g1) _ fun vs D H2 g2 r2 => ⟨by rw [r2.len]; exact hl, .inl ⟨D, .obj C fs :: pick js xs, z, g2.sub, .cons (.obj (g2.view _ _ h1) (rf.mono g2.view)) (reps_pick r2 js), hR, fun v D' H3 g3 r3 => q v D' H3 ((g1.trans g2).trans g3) r3⟩⟩⟩
theorem ee_methK (h : EvD ta γ (.obj C fs)) (l : fs.lookup m = none) (ht : EvA tr γ xs) (hl : xs.length = n) (hR : RE (.obj C fs :: pick js xs) cls) : EvE (tMethW C m js n (PrB R RE) E ta tr) (WK E) γ cls := fun H0 A H σ k Q q =>
  h H0 A H σ k _ fun v B H1 g1 r1 => by
    cases r1 with
    | @obj a _ dx kvs _ h1 rf =>
      refine ⟨a, dx, kvs, rfl, g1.sub _ _ h1, RepsF.no rf l, ht H0 B H1 σ (k.mono g1) _ fun vs D H2 g2 r2 => ⟨by rw [r2.len]; exact hl, .inr ⟨D, .obj C fs :: pick js xs, cls, g2.sub, .cons (.obj (g2.view _ _ h1) (rf.mono g2.view)) (reps_pick r2 js), hR, fun D' H3 g3 => q D' H3 ((g1.trans g2).trans g3)⟩⟩⟩
/-- o[e] -/
theorem ev_ixB (h : EvD ta γ (.obj C fs)) (hb : EvD tb γ x) (hR : R [.obj C fs, x] y) : EvD (tOp (rIxOwn C (PrB R RE) E) ta tb) γ y := fun H0 A H σ k Q q =>
  h H0 A H σ k _ fun v B H1 g1 r1 => by
    cases r1 with
    | @obj a _ dx kvs _ h1 rf =>
      exact hb H0 B H1 σ (k.mono g1) _ fun u D H2 g2 r2 => ⟨a, dx, kvs, rfl, g2.sub _ _ (g2.view _ _ h1), .inl ⟨D, [.obj C fs, x], y, g2.sub, .cons (.obj (g2.view _ _ h1) (rf.mono g2.view)) (.cons r2 .nil), hR, fun v D' H3 g3 r3 => q v D' H3 ((g1.trans g2).trans g3) r3⟩⟩
theorem ee_ix (h : EvD ta γ (.obj C fs)) (hb : EvD tb γ x) (hR : RE [.obj C fs, x] cls) : EvE (tOp (rIxOwn C (PrB R RE) E) ta tb) (WK E) γ cls := fun H0 A H σ k Q q =>
  h H0 A H σ k _ fun v B H1 g1 r1 => by
    cases r1 with
    | @obj a _ dx kvs _ h1 rf =>
      exact hb H0 B H1 σ (k.mono g1) _ fun u D H2 g2 r2 => ⟨a, dx, kvs, rfl, g2.sub _ _ (g2.view _ _ h1), .inr ⟨D, [.obj C fs, x], cls, g2.sub, .cons (.obj (g2.view _ _ h1) (rf.mono g2.view)) (.cons r2 .nil), hR, fun D' H3 g3 => q D' H3 ((g1.trans g2).trans g3)⟩⟩
end
end Fr

set_option Elab.async false
set_option linter.all false
set_option maxRecDepth 100000
set_option maxHeartbeats 4000000
namespace Fr
open PySem PySem.Spec PyProof.Rows L2
open Evl (Ex)
/-! # + - * of an own object with anything, answering or raising -/
def NoHnd : Dat → Bool
  | .hnd _ => false
  | _ => true
theorem tyOf_d {X : Cx} {A H : Hp} {v : V} {y : Dat} (s : Ex A H) (r : Rep A v y) (f : NoHnd y = true) : TyOf X v H (tyV y) := by
  cases r with
  | hnd p => cases f
  | non => exact ty_non
  | bl b =>
    intro pins σ s u I r
    obtain rfl : u = Value.bool b := r
    exact PySem.W.Looks.of_pure rfl
  | int i => exact ty_int
  | str x =>
    intro pins σ s u I r
    obtain ⟨t, rfl⟩ := r
    exact PySem.W.Looks.of_pure rfl
  | tup h _ => exact ty_tup (s _ _ h)
  | @lst a us _ h _ =>
    intro pins σ s' u I r
    cases (show u = Value.ref a from r)
    obtain ⟨_, _, n, _, h1⟩ := (show ObjOk X.prog X.w H s'.heap a (.lst us) from I.hok a _ (s _ _ h))
    exact fun A Q E s k q => wpAny_typeOf_ref (k _ _ h1) q
  | @dic a kvs _ h _ =>
    intro pins σ s' u I r
    cases (show u = Value.ref a from r)
    obtain ⟨_, _, xs, _, o, es, ep, h1, h2, _⟩ := (show ObjOk X.prog X.w H s'.heap a (.dT kvs) from I.hok a _ (s _ _ h))
    exact fun A Q E s k q => wpAny_typeOf_ref (k _ _ h1) (by rw [h2.1]; exact q)
  | obj h _ => exact ty_ins (s _ _ h)
def OpT (K : PySem.W.Frag) (C : Addr) (nm : String) (t : Value) : Prop := t = .ref C ∨ ∃ tn, t = .type tn ∧ NumOk K C nm tn
def rOpA (X : Cx) (C : Addr) (nm : String) (sp : Sp) (E : XK) : R2 := fun x y H Q => ∃ a dx fs t, x = .ref a ∧ H a = some (.ins C dx fs) ∧ TyOf X y H t ∧ OpT X.K C nm t ∧ sp [.ref a, y] H (fun v H' => ∃ p, v = .ref p ∧ Q (.ref p) H') E
section
variable {X : Cx} {CX : CXT} {k : Nat} {C f : Addr} {fd : FuncData} {ps : List Str} {sp : Sp} {E : XK}
theorem op_ownA {op : Operator} (F : FnOk X.prog X.w X.K X.mg X.base CX k f fd ps sp) (hr : Room k X.A) (o : OwnSp X.K C (PySem.dunder op.info.2) f) (hc : PySem.W.selfFirst X.K C = true) (hb : Binds X.K fd ps []) (hx : Passes CX X E) : OpR X (binaryOp op) (rOpA X C op.info.2 sp E) :=
  fun pins s σ H x y v u Q I rx ry h => by
    obtain ⟨a, dx, fs, t, ex, ha, ht, hn, hq⟩ := h
    rcases hn with rfl | ⟨tn, rfl, hn⟩
    · subst ex
      cases (show v = Value.ref a from rx)
      obtain ⟨mA, J, _⟩ := ins_get I.hok ha
      obtain ⟨od, J, _⟩ := J.look
      obtain ⟨m, hF⟩ := I.fr
      exact PySem.W.binop_K hF I.ok.mod.kin J (ht pins σ s u I ry) hc o.at_ o.fn (wpAny_mono (run_own (n := 0) I I.env0 F hr hb hx (vs := [.ref a, y]) (.cons rfl (.cons ry .nil)) hq) (fun w s' hw => by
        obtain ⟨v, H', I', rv, p, rfl, q⟩ := hw
        cases (show w = Value.ref p from rv)
        exact ⟨.ref p, H', I', rfl, q⟩) fun _ _ e => e)
    · exact binop_of (bin1_own F hr o hc hb hx I rx ry ⟨a, dx, fs, tn, ex, ha, ht, hn, hq⟩)
end
section
variable {X : Cx} {K : PySem.W.Frag} {γ : Gam} {ta tb : TE} {C D : Addr} {fs gs : List (Str × Dat)} {E : XK} {R : List Dat → Dat → Prop} {RE : List Dat → Value → Prop} {nm : String} {y : Dat} {cls : Value}
theorem ev_opA (eK : X.K = K) (h : EvD ta γ (.obj C fs)) (hb : EvD tb γ y) (f : NoHnd y = true) (n : OpT K C nm (tyV y)) (hR : R [.obj C fs, y] (.obj D gs)) : EvD (tOp (rOpA X C nm (PrB R RE) E) ta tb) γ (.obj D gs) := fun H0 A H σ k Q q => by
  subst eK
  refine h H0 A H σ k _ fun v B H1 g1 r1 => hb H0 B H1 σ (k.mono g1) _ fun u D' H2 g2 r2 => ?_
  cases r1 with
  | @obj a _ dx kvs _ h1 rf =>
    refine ⟨a, dx, kvs, _, rfl, g2.sub _ _ (g2.view _ _ h1), tyOf_d g2.sub r2 f, n, .inl ⟨D', [.obj C fs, y], .obj D gs, g2.sub, .cons (.obj (g2.view _ _ h1) (rf.mono g2.view)) (.cons r2 .nil), hR, fun v B2 H3 g3 r3 => ?_⟩⟩
    have r3' := r3
    cases r3 with
    | @obj p _ dy kws _ h3 rg => exact ⟨p, rfl, q _ B2 H3 ((g1.trans g2).trans g3) r3'⟩
theorem ee_opA (eK : X.K = K) (h : EvD ta γ (.obj C fs)) (hb : EvD tb γ y) (f : NoHnd y = true) (n : OpT K C nm (tyV y)) (hR : RE [.obj C fs, y] cls) : EvE (tOp (rOpA X C nm (PrB R RE) E) ta tb) (WK E) γ cls := fun H0 A H σ k Q q => by
  subst eK
  refine h H0 A H σ k _ fun v B H1 g1 r1 => hb H0 B H1 σ (k.mono g1) _ fun u D' H2 g2 r2 => ?_
  cases r1 with
  | @obj a _ dx kvs _ h1 rf =>
    exact ⟨a, dx, kvs, _, rfl, g2.sub _ _ (g2.view _ _ h1), tyOf_d g2.sub r2 f, n, .inr ⟨D', [.obj C fs, y], cls, g2.sub, .cons (.obj (g2.view _ _ h1) (rf.mono g2.view)) (.cons r2 .nil), hR, fun B2 H3 g3 => q B2 H3 ((g1.trans g2).trans g3)⟩⟩
end
/-- what int and bool must be told of a class -/
structure NumC (K : PySem.W.Frag) (C : Addr) (nm : String) : Prop where
  i : PySem.W.subIn K (.type "int") (.ref C) = some false
  b : PySem.W.subIn K (.type "bool") (.ref C) = some false
  r : PySem.W.findIn K (.ref C) (dunderR nm) = some none
section
variable {K : PySem.W.Frag} {C : Addr}
theorem num_add (h : NumC K C "add") : ∀ d : Dat, (∀ D fs, d = .obj D fs → D = C) → OpT K C "add" (tyV d)
  | .non, _ => .inr ⟨_, rfl, _, _, ⟨rfl, rfl⟩, .inl rfl⟩
  | .bl _, _ => .inr ⟨_, rfl, _, _, ⟨rfl, rfl⟩, .inr ⟨rfl, h.b, h.r⟩⟩
  | .int _, _ => .inr ⟨_, rfl, _, _, ⟨rfl, rfl⟩, .inr ⟨rfl, h.i, h.r⟩⟩
  | .str _, _ => .inr ⟨_, rfl, _, _, ⟨rfl, rfl⟩, .inl rfl⟩
  | .tup _, _ => .inr ⟨_, rfl, _, _, ⟨rfl, rfl⟩, .inl rfl⟩
  | .lst _, _ => .inr ⟨_, rfl, _, _, ⟨rfl, rfl⟩, .inl rfl⟩
  | .dic _, _ => .inr ⟨_, rfl, _, _, ⟨rfl, rfl⟩, .inl rfl⟩
  | .obj D fs, e => by rw [e D fs rfl]; exact .inl rfl
  | .hnd _, _ => .inr ⟨_, rfl, _, _, ⟨rfl, rfl⟩, .inl rfl⟩
theorem num_sub (h : NumC K C "sub") : ∀ d : Dat, (∀ D fs, d = .obj D fs → D = C) → OpT K C "sub" (tyV d)
  | .non, _ => .inr ⟨_, rfl, _, _, ⟨rfl, rfl⟩, .inl rfl⟩
  | .bl _, _ => .inr ⟨_, rfl, _, _, ⟨rfl, rfl⟩, .inr ⟨rfl, h.b, h.r⟩⟩
  | .int _, _ => .inr ⟨_, rfl, _, _, ⟨rfl, rfl⟩, .inr ⟨rfl, h.i, h.r⟩⟩
  | .str _, _ => .inr ⟨_, rfl, _, _, ⟨rfl, rfl⟩, .inl rfl⟩
  | .tup _, _ => .inr ⟨_, rfl, _, _, ⟨rfl, rfl⟩, .inl rfl⟩
  | .lst _, _ => .inr ⟨_, rfl, _, _, ⟨rfl, rfl⟩, .inl rfl⟩
  | .dic _, _ => .inr ⟨_, rfl, _, _, ⟨rfl, rfl⟩, .inl rfl⟩
  | .obj D fs, e => by rw [e D fs rfl]; exact .inl rfl
  | .hnd _, _ => .inr ⟨_, rfl, _, _, ⟨rfl, rfl⟩, .inl rfl⟩
theorem num_mul (h : NumC K C "mul") : ∀ d : Dat, (∀ D fs, d = .obj D fs → D = C) → OpT K C "mul" (tyV d)
  | .non, _ => .inr ⟨_, rfl, _, _, ⟨rfl, rfl⟩, .inl rfl⟩
  | .bl _, _ => .inr ⟨_, rfl, _, _, ⟨rfl, rfl⟩, .inr ⟨rfl, h.b, h.r⟩⟩
  | .int _, _ => .inr ⟨_, rfl, _, _, ⟨rfl, rfl⟩, .inr ⟨rfl, h.i, h.r⟩⟩
  | .str _, _ => .inr ⟨_, rfl, _, _, ⟨rfl, rfl⟩, .inl rfl⟩
  | .tup _, _ => .inr ⟨_, rfl, _, _, ⟨rfl, rfl⟩, .inl rfl⟩
  | .lst _, _ => .inr ⟨_, rfl, _, _, ⟨rfl, rfl⟩, .inl rfl⟩
  | .dic _, _ => .inr ⟨_, rfl, _, _, ⟨rfl, rfl⟩, .inl rfl⟩
  | .obj D fs, e => by rw [e D fs rfl]; exact .inl rfl
  | .hnd _, _ => .inr ⟨_, rfl, _, _, ⟨rfl, rfl⟩, .inl rfl⟩
end
end Fr

set_option Elab.async false
set_option linter.all false
set_option maxRecDepth 100000
set_option maxHeartbeats 4000000
namespace Fr
open PySem PySem.Spec PyProof.Rows L2
open Evl (Ex)
/-! # x == i, i an int, x anything of ours, a dict too -/
section
open PySem.SeqAt AutoSeq1 PySem.MeetsSeq
theorem dict_eq_declines_int (l : Addr) (dd : Option Addr) (dt : Data) (sl : Array (Option Value)) (b : Int) (u : Tok) :
    Meets (Builtin.«dict.__eq__» ⟨[.ref l, .int b u], []⟩) (fun _ R s => s.heap.get? l = some { cls := .type "dict", dict := dd, data := dt, slots := sl } ∧ R (.ok (.ret .notImplemented)) s) :=
  .of_wp fun prog w A R s h => by obtain ⟨hp, g, d, tk, os⟩ := s; obtain ⟨hl, h⟩ := h; have f1 := PySem.F.sub_int_dict; unfold Builtin.«dict.__eq__»; wp_walk using AutoSeq1.wpAny_loadPart' hl; exact ⟨_, rfl, h⟩
theorem int_eq_declines_dict (b : Int) (u : Tok) (l : Addr) (dd : Option Addr) (es : Array DictEntry) (ep : Nat) (sl : Array (Option Value)) :
    Meets (Builtin.«int.__eq__» ⟨[.int b u, .ref l], []⟩) (fun _ R s => s.heap.get? l = some { cls := .type "dict", dict := dd, data := .dict es ep, slots := sl } ∧ R (.ok (.ret .notImplemented)) s) :=
  .of_wp fun prog w A R s h => by obtain ⟨hp, g, d, tk, os⟩ := s; obtain ⟨hl, h⟩ := h; have f1 := PySem.F.sub_dict_int; wp_walk using AutoSeq1.wpAny_loadPart' hl, wpAny_load hl; exact ⟨_, rfl, h⟩
theorem dict_eq_int {A : Around} {s : Shared} {l : Addr} {dd : Option Addr} {es : Array DictEntry} {ep : Nat} {sl : Array (Option Value)} {b : Int} {u : Tok} {prog : Program} {w : World} {E : Value → Shared → Prop} {Q : Value → Shared → Prop} (hl : s.heap.get? l = some { cls := .type "dict", dict := dd, data := .dict es ep, slots := sl }) (hu : A.units < cLine)
    (h : Q (.bool false) s) : wpAny (model prog w) A (compareOp .Eq (.ref l) (.int b u)) Q E s :=
  PySem.SeqAt.rc_eq_decline_or (k := false) (Ta := "dict") (Tb := "int") ⟨_, hl, rfl⟩ (typeIs_int s b u) (by decide) PySem.F.sub_int_dict PySem.F.slot_dict_eq PySem.F.slot_int_eq_refl
    (fun _ hq => call_meets PySem.F.slot_dict_eq ⟨_, hl, rfl⟩ PySem.F.entry_dict_eq (PySem.F.args_dict_eq_2 _ _) (dict_eq_declines_int l dd _ sl b u) ⟨hl, hq⟩)
    (fun _ hq => call_meets PySem.F.slot_int_eq_refl (typeIs_int s b u) PySem.F.entry_int_eq (PySem.F.args_int_eq_2 _ _) (int_eq_declines_dict b u l dd es ep sl) ⟨hl, hq⟩)
    (fun _ hq => wpAny_of_eq (rfl : isSame (.ref l) (.int b u) = pure false) hq) (.inr hu) h
end
def rEqZ (K : PySem.W.Frag) : R2 := fun x y H Q => rEqD K x y H Q ∨ ∃ a kvs i, x = .ref a ∧ H a = some (.dT kvs) ∧ y = .int i ∧ Q (.bl false) H
theorem op_eqZ {X : Cx} (hu : X.A.units + 64 < cLine) : OpR X (compareOp .Eq) (rEqZ X.K) := by
  intro pins s σ H x y v u Q I rx ry h
  rcases h with h | ⟨a, kvs, i, rfl, ha, rfl, q⟩
  · exact op_eqD hu pins s σ H x y v u Q I rx ry h
  · cases (show v = Value.ref a from rx)
    obtain ⟨t, rfl⟩ := ry
    obtain ⟨_, _, xs, _, o, es, ep, h1, h2, hd, _⟩ := (show ObjOk X.prog X.w H s.heap a (.dT kvs) from I.hok a _ ha)
    obtain ⟨oc, od, dt, sl⟩ := o
    obtain ⟨c1, c2⟩ := h2
    simp only at c1 c2 hd
    subst c1 hd
    exact dict_eq_int h1 (by omega) ⟨.bl false, H, I, rfl, q⟩
theorem op_eqZK {X : Cx} {K : PySem.W.Frag} (e : X.K = K) (hu : X.A.units + 64 < cLine) : OpR X (compareOp .Eq) (rEqZ K) := e ▸ op_eqZ hu
theorem r2_eqZ {K : PySem.W.Frag} {x y : Dat} {b : Bool} (h : R2D (rEqD K) x y (.bl b)) : R2D (rEqZ K) x y (.bl b) := fun A H vx vy s r1 r2 Q q => .inl (h A H vx vy s r1 r2 Q q)
theorem r2_eqZd {K : PySem.W.Frag} {es : List (List L2.Key × Dat)} {i : Int} : R2D (rEqZ K) (.dic es) (.int i) (.bl false) := fun A H vx vy s r1 r2 Q q => by
  cases r2
  cases r1 with
  | @dic a kvs _ h1 _ => exact .inr ⟨a, kvs, i, rfl, s _ _ h1, rfl, q _ A H (Gr.refl s) (.bl _)⟩
section
variable {K : PySem.W.Frag} {γ δ : Gam} {ta tb te : TE} {S : Dat → Gam → Prop}
theorem ex_lcTX {tl : TE} {j : Nat} {vs : List Nat} {xs0 : List Dat} (I : Nat → Gam → List Dat → Prop) (hj : j ∈ vs) (h : EvD tl γ (.tup xs0)) (hz : xs0.length < sizeLine) (h0 : I 0 (wipeG γ vs) [])
    (hv : ∀ i δ zs, I i δ zs → ∀ v ∈ vs, ∀ s, δ[v]? = some s → s = .no)
    (hs : ∀ (i : Nat) x δ zs, xs0[i]? = some x → I i δ zs → EvX te (δ.set j (.d x)) (fun y ε => I (i + 1) (wipeG ε vs) (zs ++ [y]))) (hd : ∀ δ zs, I xs0.length δ zs → S (.lst zs) δ) : EvX (tLc (iTup K tl) (gName j) tYes te vs) γ S := fun A0 H0 A H σ g0 k Q q =>
  h H0 A H σ k _ fun tv B H1 g1a r1 => by
    cases r1 with
    | @tup a us _ ha ru =>
      have g1 := g0.trans g1a
      have v1 := g1a.view
      have k1 := k.mono g1a
      have lu : us.length = xs0.length := ru.len
      refine ⟨a, rfl, ⟨us, SqT.of (g1a.sub _ _ ha)⟩, fun D hD => ?_⟩
      have d0 : H0 D = none := Evl.fresh_back g1.up hD
      have dA : A0 D = none := Evl.fresh_back (g1.view.trans g1.sub) hD
      have dB : B D = none := Evl.fresh_back g1.sub hD
      have e0 : ∀ a o, H0 a = some o → a ≠ D := fun a o e => ne_of_none e d0
      have step : ∀ (C H4 : Hp) (σ2 : L2.St) (ε : Gam) (acc us : List V), Gr A0 (upd H0 D (.lst acc)) C H4 → Ok (upd H0 D (.lst acc)) C H4 σ2 ε → Gr A0 (upd H0 D (.lst us)) C (upd H4 D (.lst us)) ∧ Ok (upd H0 D (.lst us)) C (upd H4 D (.lst us)) σ2 ε := fun C H4 σ2 ε acc us g k => by
        have cD : C D = none := g.hid D _ upd_same True.intro dA
        refine ⟨⟨fun a o e => ?_, g.view, g.sub.mut cD, fun a o e m nn => ?_⟩, k.move (g.sub.mut cD) (Ex.refl C) fun c o x1 x2 x3 => ?_⟩
        · by_cases z : a = D
          · subst z
            rw [upd_same] at e ⊢
            exact e
          · rw [upd_ne z] at e ⊢
            exact g.up a o (by rw [upd_ne z]; exact e)
        · by_cases z : a = D
          · subst z
            exact cD
          · rw [upd_ne z] at e
            exact g.hid a o (by rw [upd_ne z]; exact e) m nn
        · have z : c ≠ D := fun z => by
            subst z
            rw [upd_same] at x1
            cases x1
          rw [upd_ne z] at x1 ⊢
          exact ⟨x1, x2, by rw [upd_ne z]; exact x3⟩
      refine lc_tup (K := K) (xs := us) (fun i H' => ∃ C δ acc zs, I i δ zs ∧ zs.length = i ∧ Gr A0 (upd H0 D (.lst acc)) C H' ∧ Ex B C ∧ Ok (upd H0 D (.lst acc)) C H' (L2.wipe σ vs) δ ∧ Reps C acc zs) ?_ ?_ ?_ ?_
      · refine ⟨B, wipeG γ vs, [], [], h0, rfl, ⟨fun a o e => ?_, g1.view, g1.sub.trans (Ex.new hD), fun a o e m nn => ?_⟩, Ex.refl B, (k1.wipe vs).move (g1.sub.trans (Ex.new hD)) (Ex.refl B) fun c o x1 x2 x3 => ?_, .nil⟩
        · by_cases z : a = D
          · subst z
            rw [upd_same] at e ⊢
            exact e
          · rw [upd_ne z] at e ⊢
            exact g1.up a o e
        · by_cases z : a = D
          · subst z
            exact dB
          · rw [upd_ne z] at e
            exact g1.hid a o e m nn
        · have z : c ≠ D := ne_of_none x3 hD
          rw [upd_ne z]
          exact ⟨x1, x2, by rw [upd_ne z]; exact x3⟩
      · rintro i H' _ ⟨C, δ, acc, zs, _, _, g2, v2, _⟩
        exact SqT.of (g2.sub _ _ (v2 _ _ ha))
      · rintro i xv H' hi ⟨C, δ, acc, zs, hI, hl, g2, v2, k2, r2⟩
        obtain ⟨d, hd', rd⟩ := ru.getV hi
        have il := (List.getElem?_eq_some_iff.mp hi).1
        have back : L2.wipe ((L2.wipe σ vs).set j (some xv)) vs = L2.wipe σ vs := wipe_back (js := [j]) (by rw [List.length_set]) (fun a ha => by rw [List.getElem?_set_ne (fun e => ha (by rw [e]; exact List.mem_singleton.mpr rfl))]) fun a ha => by rw [List.mem_singleton.mp ha]; exact hj
        refine ⟨back, ?_⟩
        refine t_yes ?_
        refine hs i d δ zs hd' hI A0 _ C H' _ g2 (k2.setD (v := xv) (rd.mono v2) j) _ fun yv C3 H4 x ε hI3 g3 v3 k3 r3 => ?_
        refine ⟨acc, g3.up _ _ upd_same, by rw [r2.len]; omega, C3, wipeG ε vs, acc ++ [yv], zs ++ [x], hI3, by rw [List.length_append, List.length_singleton, hl], ?_⟩
        have k4 := k3.wipe vs
        rw [back] at k4
        obtain ⟨s1, s2⟩ := step C3 H4 (L2.wipe σ vs) (wipeG ε vs) acc (acc ++ [yv]) g3 k4
        exact ⟨s1, v2.trans v3, s2, (r2.mono v3).app (Reps.one r3)⟩
      · rintro H' ⟨C, δ, acc, zs, hI, hl, g2, v2, k2, r2⟩
        have cD : C D = none := g2.hid D _ upd_same True.intro dA
        have hD' : H' D = some (.lst acc) := g2.up _ _ upd_same
        have g3 : Gr A0 H0 C H' := ⟨fun a o e => g2.up a o (by rw [upd_ne (e0 a o e)]; exact e), g2.view, g2.sub, fun a o e m nn => g2.hid a o (by rw [upd_ne (e0 a o e)]; exact e) m nn⟩
        have g4 := g3.show hD' d0 cD
        refine q (.ref D) _ H' _ δ (hd δ zs (lu ▸ hI)) g4 ((v1.trans v2).trans (Ex.new cD)) ?_ (.lst upd_same (r2.mono (Ex.new cD)))
        refine (k2.unwipe (hv _ δ zs hI)).move g4.sub (Ex.new cD) fun c o x1 x2 x3 => ?_
        have z : c ≠ D := fun z => by
          subst z
          rw [upd_same] at x1
          cases x1
        rw [upd_ne z] at x1 ⊢
        exact ⟨x1, x2, x3⟩
end
end Fr

set_option Elab.async false
set_option linter.all false
set_option maxRecDepth 100000
set_option maxHeartbeats 4000000
namespace Fr
open PySem PySem.Spec PyProof.Rows L2
open Evl (Ex)
/-! # a def with a lent list that hands back a new list of its own; an own list that is shown for one test -/
/-- e, with effects, is a new list -/
def EvXN (te : TE) (γ : Gam) (S : List Dat → Gam → Prop) : Prop := ∀ A0 H0 A H σ, Gr A0 H0 A H → Ok H0 A H σ γ → ∀ Q : VK, (∀ l us B H' ys δ, S ys δ → Gr A0 H0 B H' → Ex A B → Ok H0 B H' σ δ → H0 l = none → B l = none → H' l = some (.lst us) → (∀ (i : Nat) (t : Slot), δ[i]? = some t → t.mine = true → σ[i]? ≠ some (some (V.ref l))) → Reps B us ys → Q (.ref l) H') → te σ H Q
/-- ends with a new list -/
def RunCN (ts : TS) (γ : Gam) (R : List Dat → Gam → Prop) : Prop := ∀ A0 H0 A H σ, Gr A0 H0 A H → Ok H0 A H σ γ → ∀ D : Ends, (∀ l us B H' ys δ σ', R ys δ → Gr A0 H0 B H' → Ok H0 B H' σ' δ → H0 l = none → B l = none → H' l = some (.lst us) → (∀ (i : Nat) (t : Slot), δ[i]? = some t → t.mine = true → σ'[i]? ≠ some (some (V.ref l))) → Reps B us ys → D.rt (.ref l) H') → ts D σ H
/-- a def that changes the list that is its first argument and hands back a new list -/
def PrCN (Rf : List Dat → List Dat → List Dat → List Dat → Prop) (Pre : List Dat → List Dat → Prop) : Sp := fun vs H Q _ => ∃ A c cs ds us xs, vs = V.ref c :: us ∧ Ex A H ∧ A c = none ∧ H c = some (.lst cs) ∧ Reps A cs ds ∧ Reps A us xs ∧ Pre ds xs ∧
  ∀ l zs B H' ys cs' ds', Rf ds xs ys ds' → Gr A (hide c H) B H' → B c = none → H' c = some (.lst cs') → Reps B cs' ds' → l ≠ c → H l = none → B l = none → H' l = some (.lst zs) → Reps B zs ys → Q (.ref l) H'
section
variable {K : PySem.W.Frag} {γ δ : Gam} {te : TE} {t : TT} {xs ys : List Dat} {N : Gam → Prop} {R : Dat → Gam → Prop}
theorem runCN_ret {S : List Dat → Gam → Prop} (h : EvXN te γ S) : RunCN (tRet te) γ S := fun A0 H0 A H σ g k D dr =>
  h A0 H0 A H σ g k _ fun l us B H1 ys δ hs g1 v1 k1 h0 hB h1 ha r => dr l us B H1 ys δ σ hs g1 k1 h0 hB h1 ha r
theorem runx_asgCN {i : Nat} (h : EvXN te γ (fun ys δ => N (δ.set i (.o ys)))) : Run (tAsg te (gName i)) γ N R := fun A0 H0 A H σ g0 k D dn dr =>
  h A0 H0 A H σ g0 k _ fun l us B H1 ys δ hs g1 v1 k1 h0 hB h1 ha r1 =>
    dn _ B H1 _ hs g1 v1 (k1.setM i ha (fun _ z => nomatch z) (fun _ _ z => nomatch z) (fun _ _ z => nomatch z) (fun _ z => by cases z; exact ⟨us, h0, hB, h1, r1⟩) fun _ z => nomatch z)
theorem ex_lendN {Rf : List Dat → List Dat → List Dat → List Dat → Prop} {Pre : List Dat → List Dat → Prop} {E : XK} {tr : TA} {i : Nat} {ds0 : List Dat} {S : List Dat → Gam → Prop} (h0 : Lends γ i ds0) (h : EvXA tr γ (fun xs δ => ∃ ds, Lends δ i ds ∧ Pre ds xs ∧ ∀ ys ds', Rf ds xs ys ds' → S ys (relend δ i ds'))) :
    EvXN (tCall (PrCN Rf Pre) [] E (tCons (tVar i) tr)) γ S := fun A0 H0 A H σ g0 k Q q => by
  obtain ⟨c0, cs0, s0, e1, m1, e2, _⟩ := exa_cons0 (tr := tr) h0 g0 k
  refine ⟨.ref c0, e2, ?_⟩
  refine h A0 H0 A H σ g0 k _ fun us B H1 xs δ hs g1 v1 k1 r1 => ?_
  obtain ⟨ds, hl, hp, hS⟩ := hs
  obtain ⟨c, cs, s, x1, x2, x3, x4, x5, x6, x7, x8⟩ := exa_cons0 (tr := tr) hl g1 k1
  rw [e2] at x3
  cases x3
  refine ⟨B, c0, cs, ds, us, xs, by rw [List.append_nil], g1.sub, x5, x6, x7, r1, hp, fun l zs C H2 ys cs' ds' hR g2 hC h2 rc lc hl1 hCl h2l rz => ?_⟩
  have gL := g1.lent x4 g2
  have l0 : H0 l = none := Evl.fresh_back g1.up hl1
  have far : ∀ (δ' : Gam) (s' : Slot), δ' = δ.set i s' → ∀ (j : Nat) (t : Slot), δ'[j]? = some t → t.mine = true → σ[j]? ≠ some (some (V.ref l)) := fun δ' s' e j t hj mt ej => by
    subst e
    rcases set_get hj with ⟨rfl, _, _⟩ | ⟨_, hj⟩
    · rw [e2] at ej
      cases ej
      exact lc rfl
    · obtain ⟨a, o, e3, _, _, e4⟩ := k1.addr hj mt
      rw [e3] at ej
      cases ej
      rw [hl1] at e4
      cases e4
  refine q l zs C H2 ys _ (hS ys ds' hR) gL (v1.trans g2.view) ?_ l0 hCl h2l ?_ rz
  · rcases x8 ds' with z | z
    · rw [z]
      exact k1.lent x1 x2 e2 g2 hC h2 rc (.inl rfl)
    · rw [z]
      exact k1.lent x1 x2 e2 g2 hC h2 rc (.inr rfl)
  · rcases x8 ds' with z | z
    · exact far _ _ z
    · exact far _ _ z
theorem ex_lcRN {S : List Dat → Gam → Prop} {tr : TA} {j : Nat} {vs : List Nat} (I : Int → Nat → Gam → List Dat → Prop) (hj : j ∈ vs) (h : EvXA tr γ (fun xs δ => ∃ n, xs = [.int n] ∧ -(2 ^ 62) ≤ n ∧ n < sizeLine ∧ I n 0 (wipeG δ vs) []))
    (hv : ∀ n i δ zs, I n i δ zs → ∀ v ∈ vs, ∀ s, δ[v]? = some s → s = .no)
    (hs : ∀ (n : Int) (i : Nat) δ zs, (i : Int) < n → I n i δ zs → EvX te (δ.set j (.d (.int (i : Int)))) (fun x ε => I n (i + 1) (wipeG ε vs) (zs ++ [x]))) (hd : ∀ n δ zs, I n n.toNat δ zs → S zs δ) : EvXN (tLc (iRng1 tr) (gName j) tYes te vs) γ S := fun A0 H0 A H σ g0 k Q q =>
  h A0 H0 A H σ g0 k _ fun us B H1 xs δ hs' g1 v1 k1 r1 => by
    obtain ⟨n, rfl, b1, b2, hI0⟩ := hs'
    have hsz : (sizeLine : Int) < 2 ^ 62 := by rw [sizeLine_eq]; decide
    cases r1 with
    | cons r1 r2 =>
      cases r1
      cases r2
      refine ⟨n, rfl, b1, by omega, fun D hD => ?_⟩
      have d0 : H0 D = none := Evl.fresh_back g1.up hD
      have dA : A0 D = none := Evl.fresh_back (g1.view.trans g1.sub) hD
      have dB : B D = none := Evl.fresh_back g1.sub hD
      have e0 : ∀ a o, H0 a = some o → a ≠ D := fun a o e => ne_of_none e d0
      have step : ∀ (C H4 : Hp) (σ2 : L2.St) (ε : Gam) (acc us : List V), Gr A0 (upd H0 D (.lst acc)) C H4 → Ok (upd H0 D (.lst acc)) C H4 σ2 ε → Gr A0 (upd H0 D (.lst us)) C (upd H4 D (.lst us)) ∧ Ok (upd H0 D (.lst us)) C (upd H4 D (.lst us)) σ2 ε := fun C H4 σ2 ε acc us g k => by
        have cD : C D = none := g.hid D _ upd_same True.intro dA
        refine ⟨⟨fun a o e => ?_, g.view, g.sub.mut cD, fun a o e m nn => ?_⟩, k.move (g.sub.mut cD) (Ex.refl C) fun c o x1 x2 x3 => ?_⟩
        · by_cases z : a = D
          · subst z
            rw [upd_same] at e ⊢
            exact e
          · rw [upd_ne z] at e ⊢
            exact g.up a o (by rw [upd_ne z]; exact e)
        · by_cases z : a = D
          · subst z
            exact cD
          · rw [upd_ne z] at e
            exact g.hid a o (by rw [upd_ne z]; exact e) m nn
        · have z : c ≠ D := fun z => by
            subst z
            rw [upd_same] at x1
            cases x1
          rw [upd_ne z] at x1 ⊢
          exact ⟨x1, x2, by rw [upd_ne z]; exact x3⟩
      refine lc_range (lo := 0) (n := n.toNat) (fun i H' => ∃ C δ acc zs, I n i δ zs ∧ zs.length = i ∧ Gr A0 (upd H0 D (.lst acc)) C H' ∧ Ex B C ∧ Ok (upd H0 D (.lst acc)) C H' (L2.wipe σ vs) δ ∧ Reps C acc zs) ?_ ?_ ?_
      · refine ⟨B, wipeG δ vs, [], [], hI0, rfl, ⟨fun a o e => ?_, g1.view, g1.sub.trans (Ex.new hD), fun a o e m nn => ?_⟩, Ex.refl B, (k1.wipe vs).move (g1.sub.trans (Ex.new hD)) (Ex.refl B) fun c o x1 x2 x3 => ?_, .nil⟩
        · by_cases z : a = D
          · subst z
            rw [upd_same] at e ⊢
            exact e
          · rw [upd_ne z] at e ⊢
            exact g1.up a o e
        · by_cases z : a = D
          · subst z
            exact dB
          · rw [upd_ne z] at e
            exact g1.hid a o e m nn
        · have z : c ≠ D := ne_of_none x3 hD
          rw [upd_ne z]
          exact ⟨x1, x2, by rw [upd_ne z]; exact x3⟩
      · rintro i H' hi ⟨C, δ, acc, zs, hI, hl, g2, v2, k2, r2⟩
        have ez : (0 : Int) + (i : Int) = (i : Int) := Int.zero_add _
        rw [ez]
        have back : L2.wipe ((L2.wipe σ vs).set j (some (V.int (i : Int)))) vs = L2.wipe σ vs := wipe_back (js := [j]) (by rw [List.length_set]) (fun a ha => by rw [List.getElem?_set_ne (fun e => ha (by rw [e]; exact List.mem_singleton.mpr rfl))]) fun a ha => by rw [List.mem_singleton.mp ha]; exact hj
        refine ⟨back, ?_⟩
        refine t_yes ?_
        refine hs n i δ zs (by omega) hI A0 _ C H' _ g2 (k2.setD (v := .int (i : Int)) (.int _) j) _ fun yv C3 H4 x ε hI3 g3 v3 k3 r3 => ?_
        refine ⟨acc, g3.up _ _ upd_same, by rw [r2.len]; omega, C3, wipeG ε vs, acc ++ [yv], zs ++ [x], hI3, by rw [List.length_append, List.length_singleton, hl], ?_⟩
        have k4 := k3.wipe vs
        rw [back] at k4
        obtain ⟨s1, s2⟩ := step C3 H4 (L2.wipe σ vs) (wipeG ε vs) acc (acc ++ [yv]) g3 k4
        exact ⟨s1, v2.trans v3, s2, (r2.mono v3).app (Reps.one r3)⟩
      · rintro H' ⟨C, δ, acc, zs, hI, hl, g2, v2, k2, r2⟩
        have cD : C D = none := g2.hid D _ upd_same True.intro dA
        have hD' : H' D = some (.lst acc) := g2.up _ _ upd_same
        have g3 : Gr A0 H0 C H' := ⟨fun a o e => g2.up a o (by rw [upd_ne (e0 a o e)]; exact e), g2.view, g2.sub, fun a o e m nn => g2.hid a o (by rw [upd_ne (e0 a o e)]; exact e) m nn⟩
        have k3 := k2.unwipe (hv n _ δ zs hI)
        have far : ∀ (i : Nat) (t : Slot), δ[i]? = some t → t.mine = true → σ[i]? ≠ some (some (V.ref D)) := fun i t hi mt e => by
          obtain ⟨a, o, e1, e2, _, _⟩ := k3.addr hi mt
          rw [e1] at e
          cases e
          rw [upd_same] at e2
          cases e2
        refine q D acc C H' zs δ (hd n δ zs hI) g3 (v1.trans v2) (k3.move g3.sub (Ex.refl C) fun c o x1 x2 x3 => ?_) d0 cD hD' far r2
        have z : c ≠ D := fun z => by
          subst z
          rw [upd_same] at x1
          cases x1
        rw [upd_ne z] at x1
        exact ⟨x1, x2, x3⟩
/-- an own list is shown for one test -/
theorem et_show {i : Nat} {b : Bool} (h : γ[i]? = some (Slot.o xs)) (ht : EvT t (γ.set i (.d (.lst xs))) b) : EvT t γ b := fun H0 A H σ k Q q => by
  obtain ⟨l, vs, e, h0, hA, hH, r⟩ := k.own i xs h
  have gn : Gr noHp noHp A H := ⟨(fun a o z => nomatch z), (fun a o z => nomatch z), k.sub, fun a o z => nomatch z⟩
  obtain ⟨_, _, k1⟩ := k.noBase.bare (x := .lst xs) gn h rfl e hH (.lst upd_same (r.mono (Ex.new hA)))
  refine ht noHp _ H σ k1 Q fun B H' g => q (hide l B) H' ⟨g.up, fun a o z => ?_, fun a o z => ?_, fun a o z m n => ?_⟩
  · have na : a ≠ l := ne_of_none z hA
    rw [hide_ne na]
    exact g.view a o (by rw [upd_ne na]; exact z)
  · by_cases na : a = l
    · subst na
      rw [hide_self] at z
      cases z
    · rw [hide_ne na] at z
      exact g.sub a o z
  · by_cases na : a = l
    · subst na
      exact hide_self
    · rw [hide_ne na]
      exact g.hid a o z m (by rw [upd_ne na]; exact n)
theorem rc_intB {b : Bool} : RCD rInt1 [.bl b] (.int (if b = true then 1 else 0)) := fun A H vs s r Q q => by
  cases r with
  | cons r1 r2 =>
    cases r1
    cases r2
    exact .inr ⟨b, rfl, q _ A H (Gr.refl s) (.int _)⟩
end
section
variable {P : Program} {w0 : World} {K : PySem.W.Frag} {mg : Str → Option Value} {base : Heap}
theorem fn_prCN {x qual : Str} {st : Stmt} {f : Addr} {fd : FuncData} {N ps : List Str} {k : Nat} {Rf : List Dat → List Dat → List Dat → List Dat → Prop} {Pre : List Dat → List Dat → Prop} (F : Fun K x qual st f fd) (S : FnScope N ps (defScope st)) (hlen : ∀ ds xs, Pre ds xs → xs.length + 1 = ps.length)
    (hbody : ∀ (cdv : Value) (A : Around) (outer : List PySem.Env) (s : Shared) (H : Hp) (E : XK), Room k (A.deeper (envOfC qual (defScope st) s.heap.objs.size f cdv)) →
      ∃ t, PSs (cxOf CX0 P w0 K mg base N qual (defScope st) f cdv A outer s H E).nox (defBody st) t ∧ ∀ c ds xs, Pre ds xs → RunCN t (Slot.b c ds :: entry (N.drop 1) xs) (fun ys δ => ∃ ds', δ[0]? = some (Slot.b c ds') ∧ Rf ds xs ys ds')) :
    FnOk P w0 K mg base CX0 (k + 1) f fd ps (PrCN Rf Pre) := by
  refine F.ok S (fun vs H Q E h => ?_) fun cdv A outer s H vs Q E hr h => ?_
  · obtain ⟨A, c, cs, ds, us, xs, rfl, _, _, _, _, r, hp, _⟩ := h
    rw [List.length_cons, r.len]
    exact hlen ds xs hp
  · obtain ⟨B, c, cs, ds, us, xs, rfl, sub, hB, hH, rc, r, hp, q⟩ := h
    obtain ⟨t, h1, h2⟩ := hbody cdv A outer s H E hr
    have pl := hlen ds xs hp
    have nl : us.length < N.length := by
      have e := congrArg List.length S.pre
      rw [List.length_take] at e
      rw [r.len]
      omega
    refine ⟨t, h1, h2 c ds xs hp B (hide c H) B H _ (gr_lend sub) (ok_entryC sub hB hH rc N r nl) _ fun l zs C H' ys δ σ' hz g k' l0 hC h3 ha rz => ?_⟩
    obtain ⟨ds', hd, hR⟩ := hz
    obtain ⟨cs', e1, _, hC2, hc, rc'⟩ := k'.bor 0 c ds' hd
    have lc : l ≠ c := fun e => ha 0 _ hd rfl (by rw [e]; exact e1)
    exact q l zs C H' ys cs' ds' hR g hC2 hc rc' lc ((hide_ne lc).symm.trans l0) hC h3 rz
end
end Fr

set_option Elab.async false
set_option linter.all false
set_option maxRecDepth 100000
set_option maxHeartbeats 4000000
namespace Fr
open PySem PySem.Spec PyProof.Rows L2
open Sem (wp)
/-! # a list comprehension whose element may raise -/
theorem tracedZ_same {h h' base : Heap} {e C : Addr} {Z : Obj → Prop} {fl : Value} {m : Str → Option Value} (x : HandSPX.TracedZ h base e Z fl) (hn : h.Ns C m) (hs : Heap.SameBut C h h') : HandSPX.TracedZ h' base e Z fl := by
  obtain ⟨oe, vs, T, oT, ts, he, hz, hd, h1, hnT, hTe, hT, hdT, h3⟩ := x
  obtain ⟨oL, es, ep, hoL, hdL, _⟩ := hn
  have neE : e ≠ C := fun q => by
    rw [q, hoL] at he
    have z := Option.some.inj he
    rw [← z, hdL] at hd
    cases hd
  have neT : T ≠ C := fun q => by
    rw [q, hoL] at hT
    have z := Option.some.inj hT
    rw [← z, hdL] at hdT
    cases hdT
  exact ⟨oe, vs, T, oT, ts, (hs.2 e neE).trans he, hz, hd, h1, hnT, hTe, (hs.2 T neT).trans hT, hdT, h3⟩
section
variable {M : Model} {A : Around} {E : Value → Shared → Prop} {s' : Shared} {base : Heap} {env cenv : Env} {outer l : List Env} {e L : Addr} {Z : Obj → Prop} {m : Str → Option Value}
theorem compFails_heldZ (hf : cenv.frame = some L) (hbC : base.get? cenv.locals = none) (hn : s'.heap.Ns cenv.locals m) (hh : HandSPX.HeldZ base l e Z L s'.heap)
    (hQ : ∀ h', HandSPX.HeldZ base l e Z L h' → (∀ b o, s'.heap.get? b = some o → b ≠ cenv.locals → (∀ vs, o.data ≠ .fields vs) → ∃ sl, h'.get? b = some { o with slots := sl }) → E (.ref e) { s' with heap := h' }) :
    CompFails M A E cenv (.ref e) s' := by
  refine ⟨m, hn, fun h₂ m₂ hn₂ hs₂ => ?_⟩
  obtain ⟨b1, b0, f1, t1⟩ := hh
  have b2 : base.StaysIn h₂ := fun b o hb => (hs₂.2 b fun q => by rw [q, hbC] at hb; cases hb).trans (b1 b o hb)
  have f2 : h₂.FunFrames base l := Heap.FunFrames.sameBut hs₂ hn₂ f1
  have t2 := tracedZ_same t1 hn hs₂
  have t3 := t2
  obtain ⟨oe, vs, T, oT, ts, he, hz, hd, h1, r⟩ := t2
  unfold PySem.passOn
  refine wpAny_bind (wpAny_field he hd h1 ?_)
  rw [if_neg (show ¬ ((Value.ref T == Value.none) = true) from by simp)]
  rw [hf]
  refine wpAny_bind (HandSPX.setFlight_anyZ (s := { s' with heap := h₂ }) b2 f2 t3 fun h₃ b3 f3 t4 k3 => ?_)
  refine wpAny_throw ?_
  exact hQ h₃ ⟨b3, b0, f3, t4⟩ fun b o hb hbL hnf => k3 b o ((hs₂.2 b hbL).trans hb) hnf
end
section
variable {X : Cx} {pins : List (Addr × Obj)} {σ : L2.St} {H3 : Hp} {s3 : Shared} {fp : List Addr} {scope : Scope} {ce : Env} {E : XK}
/-- what a comprehension's element may let out is taken -/
theorem blk_passes (hs : X.stack = X.env :: X.outer) (hf : X.env.frame = some X.env.locals) (tk : Takes X (WK E)) (I3 : Inv X pins σ H3 s3) (hC : ce.locals = s3.heap.objs.size) (hcf : ce.frame = X.env.frame)
    (hfp : ∀ b ∈ fp, FpOk X pins H3 b) : Passes (L2.CX X.prog X.w) ((X.blk s3 H3 scope ce fp).wish (notedBy (model X.prog X.w) X.A ce (CompFails (model X.prog X.w) X.A X.xe ce))) E := fun pins5 σ5 H5 s5 e s' I5 c => by
  have I5 := I5.unwish
  obtain ⟨a, B, H', cls, d, rfl, fl, hok, ub, na, os, ag, hE⟩ := c
  have ub : L2.UB (frs X.stack) H5 H' s5.heap B s'.heap := ub
  have bs : Un (frs X.stack) fp H3 H5 s3.heap s5.heap := I5.base
  have old : ∀ b o, s3.heap.get? b = some o → b ≠ ce.locals := fun b o e z => by
    have := Heap.lt_size e
    rw [z, hC] at this
    exact Nat.lt_irrefl _ this
  have cfr : ce.locals ∉ frs X.stack := fun z => by
    obtain ⟨_, o, e, _⟩ := I3.stack.mem z
    exact old _ o e rfl
  have f5 : H5 ce.locals = none := I5.free
  obtain ⟨m, hn5, _⟩ := I5.loc
  have hn5 : s5.heap.Ns ce.locals m := hn5
  have st : B.StaysIn s'.heap := fl.1
  have hn : s'.heap.Ns ce.locals m := by
    obtain ⟨oL, es, ep, hoL, hdL, r⟩ := hn5
    exact ⟨oL, es, ep, st _ _ (ub.keep _ _ hoL f5 cfr), hdL, r⟩
  have f' : H' ce.locals = none := by
    obtain ⟨oL, es, ep, hoL, hdL, r⟩ := hn5
    exact ub.free _ _ hoL f5
  obtain ⟨G, g1, g2⟩ := restrict s'.heap fun b => ((B.get? b).isSome || decide (b ∈ frs X.stack)) && decide (b ≠ ce.locals)
  obtain ⟨B2, p1, p2⟩ := restrict B fun b => decide (b ∉ frs X.stack) && decide (b ≠ ce.locals)
  have gB : ∀ b o, B.get? b = some o → b ≠ ce.locals → G.get? b = some o := fun b o e n => by
    rw [g1 b (by simp [e, n])]
    exact st b o e
  have gF : ∀ b, b ∈ frs X.stack → G.get? b = s'.heap.get? b := fun b hb => g1 b (by
    have : b ≠ ce.locals := fun z => cfr (z ▸ hb)
    simp [hb, this])
  have og : ∀ b o, G.get? b = some o → s'.heap.get? b = some o ∧ ((B.get? b).isSome = true ∨ b ∈ frs X.stack) ∧ b ≠ ce.locals := fun b o e => by
    cases q : (((B.get? b).isSome || decide (b ∈ frs X.stack)) && decide (b ≠ ce.locals)) with
    | false => rw [g2 b q] at e; cases e
    | true =>
      rw [g1 b q] at e
      exact ⟨e, by simpa [Bool.or_eq_true] using q⟩
  have oB : ∀ b o, B2.get? b = some o → B.get? b = some o ∧ b ∉ frs X.stack ∧ b ≠ ce.locals := fun b o e => by
    cases q : (decide (b ∉ frs X.stack) && decide (b ≠ ce.locals)) with
    | false => rw [p2 b q] at e; cases e
    | true =>
      rw [p1 b q] at e
      exact ⟨e, by simpa using q⟩
  have noB2 : ∀ b, B.get? b = none → B2.get? b = none := fun b e => by
    cases q : B2.get? b with
    | none => rfl
    | some o =>
      rw [(oB b o q).1] at e
      cases e
  have fl2 : HandSPX.FlyingZ B2 (X.env :: X.outer) a (Zc cls d) s'.heap := by
    have fl : HandSPX.FlyingZ B X.stack a (Zc cls d) s'.heap := fl
    rw [← hs]
    obtain ⟨k1, k2, k3, oe, vs, T, oT, ts, he, hz, hd, h1, hnT, r⟩ := fl
    refine ⟨fun b o e => k1 b o (oB b o e).1, noB2 _ k2, funFrames_none k3 fun L hL => ?_, oe, vs, T, oT, ts, he, hz, hd, h1, noB2 _ hnT, r⟩
    cases q : B2.get? L with
    | none => rfl
    | some o => exact absurd hL (oB L o q).2.1
  have I7 : Inv X pins σ H' { s5 with heap := G, gens := s'.gens, drawn := s'.drawn, toks := s'.toks } := by
    refine I3.call' (ch := fp) I5.os ⟨fun b o e n hb hx => ?_, fun b o e n hb hx => ?_, fun b o e n hx => ?_, fun b o e hx => ?_, fun b xs e => ub.tups b xs (bs.tups b xs e), fun b o u e => ub.frzs b o u (bs.frzs b o u e), fun b ps e => ?_⟩ (fun b o q => ?_) ag fun b hb => ⟨(hfp b hb).2.2.2.1, (hfp b hb).2.1, (hfp b hb).2.2.2.2.1, (hfp b hb).2.2.2.2.2⟩
    · exact gB b o (ub.keep b o (bs.keep b o e n hb hx) (bs.free b o e n hx) hb) (old b o e)
    · obtain ⟨sl, q⟩ := bs.slot b o e n hb hx
      obtain ⟨sl2, q2⟩ := ub.slot b _ q hb
      exact ⟨sl2, by rw [gF b hb]; exact q2⟩
    · obtain ⟨o', q⟩ := bs.there b o e hx
      exact ub.free b o' q (bs.free b o e n hx)
    · obtain ⟨o', q⟩ := bs.there b o e hx
      by_cases hb : b ∈ frs X.stack
      · obtain ⟨sl, q2⟩ := ub.slot b o' q hb
        exact ⟨_, by rw [gF b hb]; exact q2⟩
      · obtain ⟨o2, q2⟩ := ub.there b o' q hb
        exact ⟨o2, gB b o2 q2 (old b o e)⟩
    · obtain ⟨m1, q1⟩ := bs.tbls b ps e
      obtain ⟨m2, q2⟩ := ub.tbls b _ q1
      exact ⟨m1 ++ m2, by rw [q2, Array.append_assoc]⟩
    · refine (hok b o q).stay (fun c u hc r => gB c u r fun z => ?_) (fun _ r => r) fun _ _ r => r
      rcases hc with hc | hc
      · rw [← hc, z, f'] at q; cases q
      · rw [z, f'] at hc; cases hc
  have hfr : X.A.frames = some (X.env :: X.outer) := by rw [I3.ok.frames, hs]
  show wpAny (model X.prog X.w) X.A (noteFrame (.ref a) ce) _ _ s'
  rw [noteFrame_env _ hcf]
  refine HandSPX.looks_onZ Zc.steady hfr hf fl2 fun h1 hH up1 => ?_
  refine compFails_heldZ (l := X.env :: X.outer) (L := X.env.locals) (hcf.trans hf) ?_ (hn.upToSlots up1) hH fun h3 hH3 up3 => tk _ _ ⟨a, B2, _, pins, σ, H', cls, d, rfl, I7, fun b o e hb => ?_, fun b o e hnf => ?_, .inr (.inr (by rw [hs]; exact hH3)), na, os, ag, hE⟩
  · cases q : B2.get? ce.locals with
    | none => rfl
    | some o => exact absurd rfl (oB _ o q).2.2
  · obtain ⟨e1, h, n⟩ := og b o e
    rcases h with h | h
    · obtain ⟨o', q⟩ := Option.isSome_iff_exists.mp h
      have z := st b o' q
      rw [e1] at z; cases z
      rw [p1 b (by simp [hb, n])]
      exact q
    · exact absurd h hb
  · obtain ⟨e1, h, n⟩ := og b o e
    obtain ⟨sl, e2⟩ := up1 b o e1 hnf
    obtain ⟨sl2, e3⟩ := up3 b _ e2 n hnf
    exact ⟨sl2, e3⟩
/-- [e for x in xs if ..], e may raise -/
theorem pe_lcE {elt tg iter : Expr} {ifs : List Expr} {own : List (Str × Nat)} {pos : Pos} {wi : TI} {g : TG} {tt : TT} {te : TE} (hst : X.stack = X.env :: X.outer) (hf : X.env.frame = some X.env.locals) (tk : Takes X (WK E)) (hc : X.calm = true) (hN : X.N.Nodup) (hi : PI X tg iter wi) (ok : BlkOk X.N X.env.scope scope own)
    (hg : ∀ (s : Shared) (H : Hp) (C : Addr) (cl : List (Str × Addr)) (fp : List Addr), PG (X.blk s H scope (compEnvC scope cl C X.env) fp) tg g) (ht : ∀ (s : Shared) (H : Hp) (C : Addr) (cl : List (Str × Addr)) (fp : List Addr), PTs (X.blk s H scope (compEnvC scope cl C X.env) fp) ifs tt)
    (he : ∀ (s : Shared) (H : Hp) (C : Addr) (cl : List (Str × Addr)) (fp : List Addr) (xe : Value → Shared → Prop), Passes (L2.CX X.prog X.w) ((X.blk s H scope (compEnvC scope cl C X.env) fp).wish xe) E → PE ((X.blk s H scope (compEnvC scope cl C X.env) fp).wish xe) elt te) (hs : ∀ x, foldedSetIterable iter X.env x = pure x := by intro _; rfl) :
    PE X (.ListComp elt [⟨tg, iter, ifs, 0⟩] scope pos) (tLc wi g tt te (own.map (·.2))) := by
  refine ⟨fun pins s σ H Q I h => ?_⟩
  rw [eval_ListComp]
  have hfree : ∀ y ∈ scope.names, y.2 = .free → ∃ c, X.env.cells.lookup y.1 = some c := fun y hy e => by
    rcases ok.free y hy e with k | k
    · exact I.ok.has _ (.inl k)
    · exact I.ok.has _ (.inr k)
  refine comprehension_at (use := none) rfl hs (closure_ok hfree) ok.kind (fun y hy e => by rw [ok.uniq y hy, e])
    (thn (hi.run pins s σ H _ I h) fun xv s1 hx => thn hx fun itv s2 h2 => ?_)
  obtain ⟨it, fp, tn, J, H2, e, I2, T, st2, f2, q⟩ := h2
  subst e
  refine wpAny_newObj_type (newEnv_comp ?_) (by show 0 ≤ sizeLine; decide)
  generalize hD : s2.heap.objs.size = D
  have hDn : H2 D = none := I2.hok.fresh (Nat.le_of_eq hD)
  obtain ⟨W, ⟨m0, w0⟩, turn⟩ := q D hDn
  -- the new list
  generalize hs3 : ({ s2 with heap := s2.heap.push { cls := .type "list", data := .seq ([] : List Value).toArray } } : Shared) = s3
  have I3 : Inv X pins σ (upd H2 D (.lst [])) s3 := by
    rw [← hs3]
    refine I2.laid (t' := s2.toks) (fun b o e => Heap.get?_push_of_some _ e) (Nat.le_of_eq hD) ⟨Nat.zero_le _, [], 0, .nil, ?_⟩
    rw [← hD]
    exact Heap.get?_push_size _ rfl
  have h3 : s3.heap = s2.heap.push { cls := .type "list", data := .seq ([] : List Value).toArray } := by rw [← hs3]
  have sz : ∀ b ∈ fp, b < s2.heap.objs.size := fun b hb => by
    obtain ⟨o, e, _⟩ := T.obj _ _ st2 b hb
    exact Heap.lt_size e
  have f3 : ∀ b ∈ fp, FpOk X pins (upd H2 D (.lst [])) b ∧ b < s3.heap.objs.size := fun b hb => by
    have hlt := sz b hb
    refine ⟨⟨?_, (f2 b hb).2⟩, by rw [h3, Heap.size_push]; exact Nat.lt_succ_of_lt hlt⟩
    rw [upd_ne (by rw [← hD]; exact Nat.ne_of_lt hlt)]
    exact (f2 b hb).1
  have st3 : tn 0 s3.heap := T.keep _ _ _ st2 fun b _ o e => by rw [h3]; exact Heap.get?_push_of_some _ e
  have I4 := block_start I3 ok hN f3
  have pg := hg s3 (upd H2 D (.lst [])) s3.heap.objs.size (cellsFrom (s3.heap.objs.size + 1) scope.names (cloFrom X.env.cells scope.names [])) fp
  have pt := ht s3 (upd H2 D (.lst [])) s3.heap.objs.size (cellsFrom (s3.heap.objs.size + 1) scope.names (cloFrom X.env.cells scope.names [])) fp
  have pe := fun xe => he s3 (upd H2 D (.lst [])) s3.heap.objs.size (cellsFrom (s3.heap.objs.size + 1) scope.names (cloFrom X.env.cells scope.names [])) fp xe
  show codeAny _ _ (.compStart (.ListComp elt [⟨tg, iter, ifs, 0⟩] scope pos) 0 (.ref it) (.ref D) (compEnvC scope (cellsFrom (s3.heap.objs.size + 1) scope.names (cloFrom X.env.cells scope.names [])) s3.heap.objs.size X.env)) (compEnds (model X.prog X.w) X.A X.xe none (EP X pins σ Q) (.ref D) (compEnvC scope (cellsFrom (s3.heap.objs.size + 1) scope.names (cloFrom X.env.cells scope.names [])) s3.heap.objs.size X.env)) { s3 with heap := pushCells (s3.heap.push { cls := .type "dict", data := .dict #[] }) scope.names }
  have nfp : ∀ b ∈ fp, (upd H2 D (.lst [])) b = none := fun b hb => (f3 b hb).1.1
  generalize hce : compEnvC scope (cellsFrom (s3.heap.objs.size + 1) scope.names (cloFrom X.env.cells scope.names [])) s3.heap.objs.size X.env = ce at I4 pg pt pe ⊢
  have cL : ce.locals = s3.heap.objs.size := by subst hce; rfl
  have hcf : ce.frame = X.env.frame := by subst hce; rfl
  generalize hH3 : upd H2 D (.lst []) = H3 at I3 I4 pg pt pe w0 nfp f3
  generalize hs4 : ({ s3 with heap := pushCells (s3.heap.push { cls := .type "dict", data := .dict #[] }) scope.names } : Shared) = s4 at I4 ⊢
  have st4 : tn 0 s4.heap := T.keep _ _ _ st3 fun b _ o e => by rw [← hs4]; exact pushCells_keeps _ _ _ _ (Heap.get?_push_of_some _ e)
  have stat : ∀ {σ' : L2.St} {H' : Hp} {s' : Shared}, Inv (X.blk s3 H3 scope ce fp) [] σ' H' s' → (∀ b ∈ fp, H' b = none) → ∀ b ∈ fp, FpOk (X.blk s3 H3 scope ce fp) [] H' b := fun {σ' H' s'} I' hn b hb =>
    ⟨hn b hb, (I'.ok.exf b hb).1, I'.ok.exfs b hb, .inl hb, fun x c e => (I'.ok.exf b hb).2 x c e, fun p hp => absurd (show p ∈ ([] : List (Addr × Obj)) ++ [] from hp) (by simp)⟩
  have hp := blk_passes (scope := scope) (fp := fp) hst hf tk I3 cL hcf fun b hb => (f3 b hb).1
  have loop : codeAny (model X.prog X.w) X.A (.compLoop (.ListComp elt [⟨tg, iter, ifs, 0⟩] scope pos) 0 (.ref it) (.ref D) ce) (compEnds (model X.prog X.w) X.A X.xe none (EP X pins σ Q) (.ref D) ce) s4 := by
    refine compLoop_any (fun n s' => ∃ i H', Inv (X.blk s3 H3 scope ce fp) [] (wipe σ (own.map (·.2))) H' s' ∧ tn i s'.heap ∧ (∀ b ∈ fp, H' b = none) ∧ W i n H') ?_ m0 ⟨0, H3, I4, st4, nfp, w0⟩
    rintro n s5 ⟨i, H5, I5, st5, n5, w5⟩
    rcases turn i n H5 w5 with ⟨stop, qq⟩ | ⟨go, Nx, hNx, step⟩
    · have td := T.done (X.blk s3 H3 scope ce fp) rfl rfl rfl hc i [] s5 _ H5 (fun _ _ => False) I5 (stat I5 n5) st5 stop
      refine thnF td fun r s6 ⟨hr, I6⟩ => ?_
      subst hr
      -- back in the def's context
      have I7 : Inv X pins σ H5 s6 := I3.call' (ch := fp) I6.os I6.base I6.hok I6.bare fun b hb => ⟨(f3 b hb).1.2.2.2.1, (f3 b hb).1.2.1, (f3 b hb).1.2.2.2.2.1, (f3 b hb).1.2.2.2.2.2⟩
      have nC : H5 s3.heap.objs.size = none := by
        have z : H5 ce.locals = none := I6.free
        rw [cL] at z
        exact z
      obtain ⟨m, hn, _⟩ := I6.loc
      have hn : s6.heap.Ns ce.locals m := hn
      rw [cL] at hn
      refine ⟨m, by rw [cL]; exact hn, fun h'' sb => ?_⟩
      rw [cL] at sb
      obtain ⟨f0, f1, f2, f3, f4, f5⟩ : FpOk X pins H5 s3.heap.objs.size := I3.fpOk (Nat.le_refl _) nC
      exact ⟨.ref D, H5, I7.turned (t' := s6.toks) (fun b o hb e => (sb.2 b hb).trans e) f0 f1 f3 f4 f5, rfl, qq⟩
    · have ti := T.item (X.blk s3 H3 scope ce fp) rfl rfl rfl hc i [] s5 _ H5 (fun _ _ => False) I5 (stat I5 n5) st5 go
      refine thnF ti fun r s6 ⟨u, hr, h6⟩ => ?_
      subst hr
      refine thnF h6 fun _ s7 ⟨x, H7, I7, r7, y7, st7, n7⟩ => ?_
      have I7' := I7.pinned (stat I7 n7) (T.obj _ _ st7)
      refine thnF (pg.run _ s7 _ H7 x u _ I7' r7 (step x H7 y7)) fun _ s8 ⟨σ8, H8, I8, hw8, q8⟩ => ?_
      refine thnF (pt.run _ s8 σ8 H8 _ I8 q8) fun b s9 ⟨H9, I9, q9⟩ => ?_
      -- the turn's end
      have fin : ∀ {s' : Shared} {H' : Hp}, Inv (X.blk s3 H3 scope ce fp) ([] ++ pinsAt fp s7.heap) σ8 H' s' → Nx H' → ∃ m, m < n ∧ ∃ i H', Inv (X.blk s3 H3 scope ce fp) [] (wipe σ (own.map (·.2))) H' s' ∧ tn i s'.heap ∧ (∀ b ∈ fp, H' b = none) ∧ W i m H' := fun {s' H'} I' nx => by
        obtain ⟨m', hm, w'⟩ := hNx H' nx
        have pin' : ∀ b ∈ fp, ∀ o, s7.heap.get? b = some o → s'.heap.get? b = some o ∧ H' b = none := fun b hb o e =>
          let z := I'.pin (b, o) (List.mem_append_right _ (List.mem_append_right _ (mem_pinsAt hb e)))
          ⟨z.1, z.2.1⟩
        have hl : (wipe σ (own.map (·.2))).length = σ8.length := by rw [← hw8, wipe_length]
        refine ⟨m', hm, i + 1, H', (I'.unpinned (pins := [])).weak hl (fun j v e => ?_), T.keep _ _ _ st7 fun b hb o e => (pin' b hb o e).1, fun b hb => ?_, w'⟩
        · rw [← hw8] at e
          exact (wipe_some e).1
        · obtain ⟨o, e, _⟩ := T.obj _ _ st7 b hb
          exact (pin' b hb o e).2
      cases b with
      | false =>
        simp only [Bool.false_eq_true, if_false] at q9 ⊢
        exact fin I9 q9
      | true =>
        simp only [if_true] at q9 ⊢
        refine thn ((pe _ hp).run _ s9 σ8 H9 _ (I9.wish _) q9) fun z s10 ⟨yv, H10, I10, r10, acc, hD10, hz10, nx⟩ => ?_
        exact app_ok (X := X.blk s3 H3 scope ce fp) I10.unwish hD10 hz10 r10 fun s11 I11 => fin I11 nx
  exact codeAny_compStart_list loop (T.self X.A 0 _ _ _ st4 loop)
end
section
variable {K : PySem.W.Frag} {γ δ : Gam} {te tl : TE} {tt : TT} {g : TG} {js vs : List Nat} {α : Type} {E : XK} {cls : Value} {xs : List Dat} {y : Dat} {R : List Dat → Dat → Prop} {RE : List Dat → Value → Prop} {tr : TA}
/-- f(e, ..), f may raise: it answers, it raises -/
theorem ev_callK (h : EvA tr γ xs) (hR : R xs y) : EvD (tCall (PrB R RE) [] E tr) γ y := fun H0 A H σ k Q q =>
  h H0 A H σ k _ fun vs B H1 g1 r1 => .inl ⟨B, xs, y, g1.sub, by rw [List.append_nil]; exact r1, hR, fun v D H2 g2 r2 => q v D H2 (g1.trans g2) r2⟩
theorem ee_callK (h : EvA tr γ xs) (hR : RE xs cls) : EvE (tCall (PrB R RE) [] E tr) (WK E) γ cls := fun H0 A H σ k Q q =>
  h H0 A H σ k _ fun vs B H1 g1 r1 => .inr ⟨B, xs, cls, g1.sub, by rw [List.append_nil]; exact r1, hR, fun D H2 g2 => q D H2 (g1.trans g2)⟩
/-- [e for x in xs] where the element at i0 raises, those ahead of it don't -/
theorem ee_lcL {l : List α} {enc : α → Dat} {v : α → Dat} {i0 : Nat} {a0 : α} (h : EvR tl γ (l.map enc)) (hj : ∀ j ∈ js, j ∈ vs) (hz : l.length < sizeLine) (h0 : l[i0]? = some a0)
    (hs : ∀ i a, i < i0 → l[i]? = some a → ∃ δ, Tg g js (wipeG γ vs) (enc a) δ ∧ EvT tt δ true ∧ EvD te δ (v a)) (hb : ∃ δ, Tg g js (wipeG γ vs) (enc a0) δ ∧ EvT tt δ true ∧ EvE te (WK E) δ cls) :
    EvE (tLc (iList K tl) g tt te vs) (WK E) γ cls := fun H0 A H σ k Q q =>
  h H0 A H σ k _ fun a us B H1 g1 ha ru => by
    have hlen : us.length = l.length := by rw [ru.len, List.length_map]
    have il0 : i0 < l.length := (List.getElem?_eq_some_iff.mp h0).1
    refine ⟨a, rfl, ⟨us, SqL.of ha⟩, fun D hD => lc_list (K := K) (xs := us) (fun i H' => i ≤ i0 ∧ CP l (fun _ => true) v B H1 D i H') ⟨Nat.zero_le _, cp_zero g1.sub hD⟩ (fun i H' _ p => ?_) (fun i xv H' hi p => ?_) (fun H' p => ?_)⟩
    · obtain ⟨_, C, acc, gC, _⟩ := p
      exact SqL.of (gC.up _ _ ha)
    · obtain ⟨pi, C, acc, gC, cD, hAcc, rAcc⟩ := p
      obtain ⟨d, hd, rd⟩ := ru.getV hi
      rw [List.getElem?_map] at hd
      cases e : l[i]? with
      | none =>
        rw [e] at hd
        cases hd
      | some b =>
        rw [e] at hd
        cases hd
        by_cases hq : i = i0
        · subst hq
          rw [h0] at e
          cases e
          obtain ⟨δ, t1, t2, t3⟩ := hb
          refine t1 H0 C H' _ xv (((k.mono g1).mono gC).wipe vs) (rd.mono gC.view) _ fun σ2 k2 hl hoff => ⟨wipe_back hl hoff hj, ?_⟩
          refine t2 H0 C H' σ2 k2 _ fun C2 H3 g2 => ?_
          exact t3 H0 C2 H3 σ2 (k2.mono g2) _ fun C3 H4 g3 => q C3 H4 ((g1.trans gC).trans (g2.trans g3))
        · obtain ⟨δ, t1, t2, t3⟩ := hs i b (by omega) e
          refine t1 H0 C H' _ xv (((k.mono g1).mono gC).wipe vs) (rd.mono gC.view) _ fun σ2 k2 hl hoff => ⟨wipe_back hl hoff hj, ?_⟩
          refine t2 H0 C H' σ2 k2 _ fun C2 H3 g2 => ?_
          have cD2 : C2 D = none := g2.hid D _ hAcc True.intro cD
          refine t3 H0 C2 H3 σ2 (k2.mono g2) _ fun yv C3 H4 g3 r3 => ?_
          have hD4 : H4 D = some (.lst acc) := g3.up _ _ (g2.up _ _ hAcc)
          have cD3 : C3 D = none := g3.hid D _ (g2.up _ _ hAcc) True.intro cD2
          have lz : acc.length ≤ i := by
            rw [rAcc.len, List.length_map]
            exact Nat.le_trans (List.length_filter_le _ _) (by rw [List.length_take]; exact Nat.min_le_left _ _)
          refine ⟨acc, hD4, by omega, by omega, C3, acc ++ [yv], ((gC.trans g2).trans g3).mut hD cD3, cD3, upd_same, ?_⟩
          rw [show l.take (i + 1) = l.take i ++ [b] by rw [List.take_add_one, e]; rfl, List.filter_append, List.map_append, List.filter_cons_of_pos rfl]
          exact ((rAcc.mono (g2.view.trans g3.view)).app (Reps.one r3))
    · obtain ⟨pi, _⟩ := p
      omega
end
end Fr

set_option Elab.async false
set_option linter.all false
set_option maxRecDepth 100000
set_option maxHeartbeats 4000000
namespace Fr
open PySem PySem.Spec PyProof.Rows L2
open Evl (Ex)
section
variable {P : Program} {w0 : World} {K : PySem.W.Frag} {mg : Str → Option Value} {base : Heap}
def RE__need_text (K : PySem.W.Frag) (cT : Addr) (xs : List Dat) (c : Value) : Prop := ∃ d, xs = [d] ∧ Fine K d ∧ isaStr d = false ∧ c = .ref cT
theorem lenE__need_text {K : PySem.W.Frag} {cT : Addr}  {xs : List Dat} {c : Value} (h : RE__need_text K cT xs c) : xs.length = 1 := by
  obtain ⟨_, rfl, _⟩ := h
  rfl
theorem okE__need_text {f : Addr} {fd : FuncData} (F : Fun K "_need_text" "_need_text" s__need_text f fd) {c_InvalidText : Addr} (X_InvalidText : ExcOk K mg "InvalidText" c_InvalidText) (T : Bs mg) : FnOk P w0 K mg base (L2.CX P w0) 1 f fd ["value"] (PrE (RE__need_text K c_InvalidText)) := by
  refine fn_prE F sc__need_text (fun xs c h => lenE__need_text h) fun cdv A outer s H E hr => ⟨_, (pss_one (ps_if (pt_not (pt_val (pe_callB (call_isiK' (K := K) rfl) (by rfl) T.isinstance (by decide +kernel) (pa_cons (pv 0) (pa_cons (pe_bltn (v := .ty "str") (by rfl) T.str (by decide +kernel) rfl) pa_nil))))) (pss_one (ps_raise rfl (takes_of rfl rfl rfl rfl) (pmk_own0 PySem.F.excBase_ValueError X_InvalidText.ex X_InvalidText.at_ X_InvalidText.kp (raises_own X_InvalidText.sub X_InvalidText.ty) (by rfl)))) pss_nil)), ?_⟩
  rintro xs c ⟨d, rfl, hf, hs, rfl⟩
  exact re_ifT (b := true) (et_not (a := false) (et_is (et_B (ev_isStr (ev_var rfl) hf)) hs)) (fun _ => fun A0 H0 A H σ g0 k D d => d A H σ g0) (fun z => by cases z)
/-- a sign of a word -/
def sgn (c : Nat) : Bool := (["0", "1"] : List Str).any fun n => n == (⟨#[c]⟩ : Str)
/-- the text of a word -/
def wordT (a : Str) : Bool := decide (a = "-") || (!decide (a = "") && (TL.tl a).all sgn)
def RE_parse_word (K : PySem.W.Frag) (cT : Addr) (xs : List Dat) (c : Value) : Prop := ∃ d, xs = [d] ∧ c = .ref cT ∧ ((Fine K d ∧ isaStr d = false) ∨ ∃ a : Str, d = .str a ∧ a.length ≤ 100000 ∧ wordT a = false)
theorem lenE_parse_word {K : PySem.W.Frag} {cT : Addr}  {xs : List Dat} {c : Value} (h : RE_parse_word K cT xs c) : xs.length = 1 := by
  obtain ⟨_, rfl, _⟩ := h
  rfl
theorem okE_parse_word {f : Addr} {fd : FuncData} (F : Fun K "parse_word" "parse_word" s_parse_word f fd) {c_InvalidText : Addr} (X_InvalidText : ExcOk K mg "InvalidText" c_InvalidText) {f__need_text : Addr} {d__need_text : FuncData} (CB__need_text : CalB P w0 K mg base "_need_text" ["value"] 1 R__need_text (RE__need_text K c_InvalidText) f__need_text d__need_text) (T : Bs mg) : FnOk P w0 K mg base (L2.CX P w0) 2 f fd ["text"] (PrE (RE_parse_word K c_InvalidText)) := by
  refine fn_prE F sc_parse_word (fun xs c h => lenE_parse_word h) fun cdv A outer s H E hr => ⟨_, (pss_cons (ps_expr (pe_callS CB__need_text.ok (hr.mono (by decide)) rfl CB__need_text.at_ CB__need_text.kp CB__need_text.bd (fun σ => passAt (takes_of rfl rfl rfl rfl) σ) (pa_cons (pv 0) pa_nil)))
      (pss_cons (ps_if (pt_cmpR op_eq (pv 0) pe_str (nomark _)) (pss_one (ps_ret (pe_tup pa_nil))) pss_nil)
      (pss_cons (ps_if (PW.pt (pw_or (pt_cmpR op_eq (pv 0) pe_str (nomark _)) (pw_or1 (pt_not (pt_val (pe_callB (cr_allK (K := K) rfl rfl) (by rfl) T.all (by decide +kernel) (pa_cons (pe_lc (own := [("sign", 1)]) rfl sc_parse_word.nd (pi_str (pv 0)) (blkOk_by (own := [("sign", 1)]) (N := N_parse_word) (sc := defScope s_parse_word) (by decide +kernel)) (fun _ _ _ _ _ => (pg_name (i := 1) sc_parse_word.nd rfl (Or.inl rfl))) (fun _ _ _ _ _ => pts_nil) (fun _ _ _ _ _ => (pe_cmpR (op_inK (K := K) rfl) (pv 1) (pe_tup (pa_cons pe_str (pa_cons pe_str pa_nil))) (by rfl)))) pa_nil))))))) (pss_one (ps_raise rfl (takes_of rfl rfl rfl rfl) (pmk_own0 PySem.F.excBase_ValueError X_InvalidText.ex X_InvalidText.at_ X_InvalidText.kp (raises_own X_InvalidText.sub X_InvalidText.ty) (by rfl)))) pss_nil)
      (pss_one (ps_ret (pe_callTy (call_tupK (K := K) rfl) (by rfl) T.tuple (by decide +kernel) (pa_cons (pe_lc (own := [("sign", 1)]) rfl sc_parse_word.nd (pi_str (pv 0)) (blkOk_by (own := [("sign", 1)]) (N := N_parse_word) (sc := defScope s_parse_word) (by decide +kernel)) (fun _ _ _ _ _ => (pg_name (i := 1) sc_parse_word.nd rfl (Or.inl rfl))) (fun _ _ _ _ _ => pts_nil) (fun _ _ _ _ _ => (pe_callTy cr_intS (by rfl) T.int (by decide +kernel) (pa_cons (pv 1) pa_nil)))) pa_nil))))))), ?_⟩
  rintro xs c ⟨d, rfl, rfl, h⟩
  rcases h with ⟨hf, hs⟩ | ⟨a, rfl, hl, hw⟩
  · exact re_seq0 (re_drop (ee_call (ea_cons (ev_var rfl) ea_nil) ⟨d, rfl, hf, hs, rfl⟩))
  · obtain ⟨w1, w2⟩ := Bool.or_eq_false_iff.mp hw
    have e1 := of_decide_eq_false w1
    have bg : (TL.tl a).length < sizeLine := by
      rw [← TL.len_tl]
      exact big (by omega)
    refine re_seq (R' := fun _ _ => False) (run_drop (ev_callB (ea_cons (ev_var rfl) ea_nil) ⟨a, rfl, rfl⟩) rfl) ?_
    refine re_seq (R' := fun _ _ => False) (run_if (b := false) (et_is (et_test (ev_op (ev_var rfl) ev_str r2_eqS)) (decide_eq_false e1)) (fun z => by cases z) fun _ => run_next rfl) ?_
    refine re_seq0 (re_ifT (b := true) ?_ (fun _ => fun A0 H0 A H σ g0 k D d => d A H σ g0) (fun z => by cases z))
    by_cases e0 : a = ""
    · exact et_is (et_or (a := true) (b := false) (et_is (et_test (ev_op (ev_var rfl) ev_str r2_eqS)) (decide_eq_true e0)) (fun z => by cases z)) rfl
    · rw [decide_eq_false e0, Bool.not_false, Bool.true_and] at w2
      refine et_is (et_or (a := false) (b := true) (et_is (et_test (ev_op (ev_var rfl) ev_str r2_eqS)) (decide_eq_false e0)) fun _ => et_not (a := false) (et_B (ev_is (ev_all (bs := (TL.tl a).map sgn) (er_is (er_ofN (en_lcS (js := [1]) (f := fun _ => true) (v := fun c => .bl (sgn c)) (ev_var rfl) (by decide) bg fun c hc => ⟨_, tg_name 1, et_yes, fun _ => ev_op (ev_var rfl) (ev_tup (ea_cons ev_str (ea_cons ev_str ea_nil)) (by show 2 ≤ sizeLine; decide)) (r2_inS (ns := ["0", "1"]))⟩)) ?_)) ?_))) rfl
      · rw [filter_yes, List.map_map]
        rfl
      · rw [List.all_map]
        exact congrArg Dat.bl w2
def RE__behind (cT : Addr) (xs : List Dat) (c : Value) : Prop := ∃ a b : Str, xs = [.str a, .str b] ∧ Txt.startswith b a = false ∧ c = .ref cT
theorem lenE__behind {cT : Addr}  {xs : List Dat} {c : Value} (h : RE__behind cT xs c) : xs.length = 2 := by
  obtain ⟨_, _, rfl, _⟩ := h
  rfl
theorem okE__behind {f : Addr} {fd : FuncData} (F : Fun K "_behind" "_behind" s__behind f fd) {c_InvalidText : Addr} (X_InvalidText : ExcOk K mg "InvalidText" c_InvalidText) (T : Bs mg) : FnOk P w0 K mg base (L2.CX P w0) 1 f fd ["name", "part"] (PrE (RE__behind c_InvalidText)) := by
  refine fn_prE F sc__behind (fun xs c h => lenE__behind h) fun cdv A outer s H E hr => ⟨_, (pss_cons (ps_if (pt_not (pt_val (pe_m1 PySem.F.slot_str_startswith PySem.F.type_str_startswith mt_startsS (pv 1) (pv 0)))) (pss_one (ps_raise rfl (takes_of rfl rfl rfl rfl) (pmk_own0 PySem.F.excBase_ValueError X_InvalidText.ex X_InvalidText.at_ X_InvalidText.kp (raises_own X_InvalidText.sub X_InvalidText.ty) (by rfl)))) pss_nil)
      (pss_one (ps_ret (pe_slice sl_str (pv 1) (po_some (pe_callB cr_lenStr (by rfl) T.len PySem.boot_len (pa_cons (pv 0) pa_nil))) po_none)))), ?_⟩
  rintro xs c ⟨a, b, rfl, h, rfl⟩
  exact re_seq0 (re_ifT (b := true) (et_not (a := false) (et_B (ev_is (ev_starts (ev_var rfl) (ev_var rfl)) (congrArg Dat.bl h)))) (fun _ => fun A0 H0 A H σ g0 k D d => d A H σ g0) (fun z => by cases z))
end
end Fr

set_option Elab.async false
set_option linter.all false
set_option maxRecDepth 100000
set_option maxHeartbeats 4000000
namespace Fr
open PySem PySem.Spec PyProof.Rows L2
open Evl (Ex)
abbrev s_parse_payloads : Stmt := topS 41
abbrev N_parse_payloads : List Str := ["text", "part"]
theorem sc_parse_payloads : FnScope N_parse_payloads ["text"] (defScope s_parse_payloads) := ⟨rfl, rfl, rfl, by decide +kernel, rfl, by decide +kernel, by decide +kernel⟩
section
variable {P : Program} {w0 : World} {K : PySem.W.Frag} {mg : Str → Option Value} {base : Heap}
/-- the word that a text tells -/
def wordV (p : Str) : List Int := if p = "-" then [] else (TL.tl p).map fun (c : Nat) => (c : Int) - 48
theorem sgn_of {c : Nat} (h : sgn c = true) : c = 48 ∨ c = 49 := by
  obtain ⟨s, hs, he⟩ := List.any_eq_true.mp h
  have e := eq_of_beq he
  rcases List.mem_cons.mp hs with rfl | hs
  · have := congrArg TL.tl e
    rw [show TL.tl ("0" : Str) = [48] from by decide +kernel] at this
    injection this with this
    exact .inl this.symm
  · rw [List.mem_singleton.mp hs] at e
    have := congrArg TL.tl e
    rw [show TL.tl ("1" : Str) = [49] from by decide +kernel] at this
    injection this with this
    exact .inr this.symm
theorem wordV_of {p : Str} (h : wordT p = true) : (wordV p).all isB = true ∧ wordS (wordV p) = p ∧ (wordV p).length ≤ p.length := by
  by_cases h0 : p = "-"
  · subst h0
    exact ⟨rfl, (congrArg wordS (if_pos rfl)).trans wordS_nil, by rw [show wordV "-" = [] from if_pos rfl]; exact Nat.zero_le _⟩
  · unfold wordT at h
    rw [decide_eq_false h0, Bool.false_or] at h
    obtain ⟨h1, h2⟩ := Bool.and_eq_true_iff.mp h
    have h2 := List.all_eq_true.mp h2
    have e : wordV p = (TL.tl p).map fun (c : Nat) => (c : Int) - 48 := if_neg h0
    have b : ∀ x ∈ wordV p, x = 0 ∨ x = 1 := fun x hx => by
      rw [e] at hx
      obtain ⟨c, hc, rfl⟩ := List.mem_map.mp hx
      rcases sgn_of (h2 c hc) with rfl | rfl
      · exact .inl rfl
      · exact .inr rfl
    have hn : wordV p ≠ [] := fun z => by
      rw [e, List.map_eq_nil_iff] at z
      have : p = "" := TL.ext_tl (by rw [z]; exact tl_empty.symm)
      rw [decide_eq_true this] at h1
      cases h1
    refine ⟨List.all_eq_true.mpr fun x hx => ?_, TL.ext_tl ?_, by rw [e, List.length_map, TL.len_tl]; exact Nat.le_refl _⟩
    · rcases b x hx with rfl | rfl <;> rfl
    · rw [tl_word b hn, e, List.map_map]
      refine (List.map_congr_left fun c hc => ?_).trans (List.map_id _)
      rcases sgn_of (h2 c hc) with rfl | rfl <;> rfl
/-- what stands between blanks is small -/
structure Few (a b : Str) : Prop where
  size : a.length ≤ 100000
  many : (Txt.split a b).length ≤ 200000
  part : ∀ p ∈ Txt.split a b, p.length ≤ 1000
def RE_parse_payloads (K : PySem.W.Frag) (cT : Addr) (xs : List Dat) (c : Value) : Prop := ∃ d, xs = [d] ∧ c = .ref cT ∧ ((Fine K d ∧ isaStr d = false) ∨ ∃ (a : Str) (i0 : Nat) (p0 : Str), d = .str a ∧ Few a " " ∧ a ≠ "none" ∧ (Txt.split a " ")[i0]? = some p0 ∧ wordT p0 = false ∧ ∀ i p, i < i0 → (Txt.split a " ")[i]? = some p → wordT p = true)
theorem lenE_parse_payloads {K : PySem.W.Frag} {cT : Addr}  {xs : List Dat} {c : Value} (h : RE_parse_payloads K cT xs c) : xs.length = 1 := by
  obtain ⟨_, rfl, _⟩ := h
  rfl
theorem okE_parse_payloads {f : Addr} {fd : FuncData} (F : Fun K "parse_payloads" "parse_payloads" s_parse_payloads f fd) {c_InvalidText : Addr} {f__need_text : Addr} {d__need_text : FuncData} (CB__need_text : CalB P w0 K mg base "_need_text" ["value"] 1 R__need_text (RE__need_text K c_InvalidText) f__need_text d__need_text) {f_parse_word : Addr} {d_parse_word : FuncData} (CB_parse_word : CalB P w0 K mg base "parse_word" ["text"] 2 R_parse_word (RE_parse_word K c_InvalidText) f_parse_word d_parse_word) : FnOk P w0 K mg base (L2.CX P w0) 3 f fd ["text"] (PrE (RE_parse_payloads K c_InvalidText)) := by
  refine fn_prE F sc_parse_payloads (fun xs c h => lenE_parse_payloads h) fun cdv A outer s H E hr => ⟨_, (pss_cons (ps_expr (pe_callS CB__need_text.ok (hr.mono (by decide)) rfl CB__need_text.at_ CB__need_text.kp CB__need_text.bd (fun σ => passAt (takes_of rfl rfl rfl rfl) σ) (pa_cons (pv 0) pa_nil)))
      (pss_cons (ps_if (pt_cmpR op_eq (pv 0) pe_str (nomark _)) (pss_one (ps_ret (pe_lst pa_nil))) pss_nil)
      (pss_one (ps_ret (pe_lcE (own := [("part", 1)]) rfl rfl (takes_of rfl rfl rfl rfl) rfl sc_parse_payloads.nd (pi_listK (K := K) rfl (pe_m1 PySem.F.slot_str_split PySem.F.type_str_split mt_splitS (pv 0) pe_str)) (blkOk_by (own := [("part", 1)]) (N := N_parse_payloads) (sc := defScope s_parse_payloads) (by decide +kernel)) (fun _ _ _ _ _ => (pg_name (i := 1) sc_parse_payloads.nd rfl (Or.inl rfl))) (fun _ _ _ _ _ => pts_nil) (fun _ _ _ _ _ _ hp => (pe_callS CB_parse_word.ok (hr.mono (by decide)) rfl CB_parse_word.at_ CB_parse_word.kp CB_parse_word.bd (fun σ pins H s e s' I c => hp pins σ H s e s' I c) (pa_cons (pv 1) pa_nil)))))))), ?_⟩
  rintro xs c ⟨d, rfl, rfl, h⟩
  rcases h with ⟨hf, hs⟩ | ⟨a, i0, p0, rfl, hF, hn, h0, hb, hg⟩
  · exact re_seq0 (re_drop (ee_call (ea_cons (ev_var rfl) ea_nil) ⟨d, rfl, hf, hs, rfl⟩))
  · have hm := hF.many
    have hz := hF.size
    have bg := big (n := 200002) (by decide)
    refine re_seq (R' := fun _ _ => False) (run_drop (ev_callB (ea_cons (ev_var rfl) ea_nil) ⟨a, rfl, rfl⟩) rfl) ?_
    refine re_seq (R' := fun _ _ => False) (run_if (b := false) (et_is (et_test (ev_op (ev_var rfl) ev_str r2_eqS)) (decide_eq_false hn)) (fun z => by cases z) fun _ => run_next rfl) ?_
    exact re_ret (ee_lcL (js := [1]) (l := Txt.split a " ") (enc := Dat.str) (v := fun p => w (wordV p)) (er_ofN (en_split (ev_var rfl) ev_str (by decide +kernel) (by omega))) (by decide) (by omega) h0
      (fun i p hi hp => ⟨_, tg_name 1, et_yes, by
        obtain ⟨v1, v2, v3⟩ := wordV_of (hg i p hi hp)
        have := hF.part p (List.mem_of_getElem? hp)
        exact ev_callB (ea_cons (ev_var rfl) ea_nil) ⟨wordV p, v1, by omega, by rw [v2], rfl⟩⟩)
      ⟨_, tg_name 1, et_yes, ee_call (ea_cons (ev_var rfl) ea_nil) ⟨_, rfl, rfl, .inr ⟨p0, rfl, by have := hF.part p0 (List.mem_of_getElem? h0); omega, hb⟩⟩⟩)
end
end Fr

set_option Elab.async false
set_option linter.all false
set_option maxRecDepth 100000
set_option maxHeartbeats 4000000
namespace Fr
open PySem PySem.Spec PyProof.Rows L2
open Evl (Ex)
abbrev s__parse_number : Stmt := topS 45
abbrev N__parse_number : List Str := ["text"]
theorem sc__parse_number : FnScope N__parse_number ["text"] (defScope s__parse_number) := ⟨rfl, rfl, rfl, by decide +kernel, rfl, by decide +kernel, by decide +kernel⟩
section
variable {P : Program} {w0 : World} {K : PySem.W.Frag} {mg : Str → Option Value} {base : Heap}
/-! ## digits -/
open NumText (AllDigits digitsVal)
theorem digitsVal_app (ds : List Nat) (c : Nat) : digitsVal (ds ++ [c]) = digitsVal ds * 10 + (c - 48) := by
  unfold digitsVal
  rw [List.foldl_append]
  rfl
theorem digits_back : ∀ (k : Nat) (ds : List Nat), ds.length = k → AllDigits ds → ds ≠ [] → ds[0]? ≠ some 48 → TL.numL (digitsVal ds) = ds ∧ 1 ≤ digitsVal ds
  | 0, ds, hk, _, hn, _ => absurd (List.length_eq_zero_iff.mp hk) hn
  | k + 1, ds, hk, ha, hn, h0 => by
    obtain ⟨init, c, rfl⟩ : ∃ init c, ds = init ++ [c] := by
      rcases List.eq_nil_or_concat ds with z | ⟨i, c, z⟩
      · exact absurd z hn
      · exact ⟨i, c, by rw [z, List.concat_eq_append]⟩
    have hc := ha c (List.mem_append_right _ List.mem_cons_self)
    rw [digitsVal_app]
    by_cases hi : init = []
    · subst hi
      have c0 : c ≠ 48 := fun z => h0 (by rw [z]; rfl)
      have e : digitsVal [] * 10 + (c - 48) = c - 48 := by
        show 0 * 10 + (c - 48) = c - 48
        omega
      rw [e]
      exact ⟨by rw [TL.numL_lt (by omega), show 48 + (c - 48) = c by omega]; rfl, by omega⟩
    · have l0 : 0 < init.length := List.length_pos_iff.mpr hi
      obtain ⟨i1, i2⟩ := digits_back k init (by rw [List.length_append] at hk; simpa using hk) (fun d hd => ha d (List.mem_append_left _ hd)) hi (fun z => h0 (by rw [List.getElem?_append_left l0]; exact z))
      refine ⟨?_, by omega⟩
      rw [TL.numL_step (by omega), show (digitsVal init * 10 + (c - 48)) / 10 = digitsVal init by omega, show (digitsVal init * 10 + (c - 48)) % 10 = c - 48 by omega, i1, show 48 + (c - 48) = c by omega]
/-- the text of a number from 1 on -/
def numT (a : Str) : Bool := Txt.isascii a && (Txt.isdigit a && !decide ((TL.tl a)[0]? = some 48))
theorem digit_ascii : ∀ c : Fin 128, Unicode.isDigit c.1 = true → 48 ≤ c.1 ∧ c.1 ≤ 57 := by decide +kernel
theorem numT_all {a : Str} (h : numT a = true) : AllDigits (TL.tl a) ∧ TL.tl a ≠ [] ∧ (TL.tl a)[0]? ≠ some 48 := by
  obtain ⟨h1, h⟩ := Bool.and_eq_true_iff.mp h
  obtain ⟨h2, h3⟩ := Bool.and_eq_true_iff.mp h
  have h1 : a.cps.all (· < 128) = true := h1
  have h2 : (decide (a.length > 0) && a.cps.all Unicode.isDigit) = true := h2
  obtain ⟨h4, h5⟩ := Bool.and_eq_true_iff.mp h2
  rw [← Array.all_toList] at h1 h5
  refine ⟨fun c hc => ?_, fun z => ?_, fun z => ?_⟩
  · have c1 := of_decide_eq_true (List.all_eq_true.mp h1 c hc)
    exact digit_ascii ⟨c, c1⟩ (List.all_eq_true.mp h5 c hc)
  · have := of_decide_eq_true h4
    rw [TL.len_tl, z] at this
    exact absurd this (Nat.lt_irrefl _)
  · rw [decide_eq_true z] at h3
    cases h3
theorem num_back {a : Str} (h : numT a = true) (hl : a.length ≤ 640) : ∃ n : Nat, 1 ≤ n ∧ a = strI (n : Int) ∧ PySem.intText? a = some (n : Int) := by
  obtain ⟨h1, h2, h3⟩ := numT_all h
  obtain ⟨e1, e2⟩ := digits_back _ _ rfl h1 h2 h3
  exact ⟨digitsVal (TL.tl a), e2, TL.ext_tl (by rw [tl_strI, e1]), intText_digits h1 h2 (by omega)⟩
theorem zero_sign {c : Nat} (h : c ≠ 48) : (⟨#[c]⟩ : Str) ≠ "0" := fun e => by
  have := congrArg TL.tl e
  rw [show TL.tl ("0" : Str) = [48] from by decide +kernel] at this
  injection this with this
  exact h this
def R__parse_number (xs : List Dat) (y : Dat) : Prop := ∃ (a : Str) (n : Nat), numT a = true ∧ a.length ≤ 640 ∧ PySem.intText? a = some (n : Int) ∧ xs = [.str a] ∧ y = .int (n : Int)
theorem len__parse_number {xs : List Dat} {y : Dat} (h : R__parse_number xs y) : xs.length = 1 := by
  obtain ⟨_, _, _, _, _, rfl, _⟩ := h
  rfl
def RE__parse_number (cT : Addr) (xs : List Dat) (c : Value) : Prop := ∃ a : Str, xs = [.str a] ∧ a.length ≤ 100000 ∧ numT a = false ∧ c = .ref cT
theorem lenE__parse_number {cT : Addr}  {xs : List Dat} {c : Value} (h : RE__parse_number cT xs c) : xs.length = 1 := by
  obtain ⟨_, rfl, _⟩ := h
  rfl
theorem okB__parse_number {f : Addr} {fd : FuncData} (F : Fun K "_parse_number" "_parse_number" s__parse_number f fd) {c_InvalidText : Addr} (X_InvalidText : ExcOk K mg "InvalidText" c_InvalidText) (T : Bs mg) : FnOk P w0 K mg base (L2.CX P w0) 1 f fd ["text"] (PrB R__parse_number (RE__parse_number c_InvalidText)) := by
  refine fn_prB F sc__parse_number (fun xs y h => len__parse_number h) (fun xs c h => lenE__parse_number h) fun cdv A outer s H E hr => ⟨_, (pss_cons (ps_if (PW.pt (pw_or (pt_not (pt_val (pe_m0 PySem.F.slot_str_isascii PySem.F.type_str_isascii mt_asciiS (pv 0)))) (pw_or (pt_not (pt_val (pe_m0 PySem.F.slot_str_isdigit PySem.F.type_str_isdigit mt_digitS (pv 0)))) (pw_or1 (pt_cmpR op_eq (pe_ix ix_str (pv 0) pe_int (fun _ _ => rfl)) pe_str (nomark _)))))) (pss_one (ps_raise rfl (takes_of rfl rfl rfl rfl) (pmk_own0 PySem.F.excBase_ValueError X_InvalidText.ex X_InvalidText.at_ X_InvalidText.kp (raises_own X_InvalidText.sub X_InvalidText.ty) (by rfl)))) pss_nil)
      (pss_one (ps_ret (pe_callTy cr_intS (by rfl) T.int (by decide +kernel) (pa_cons (pv 0) pa_nil))))), ?_, ?_⟩
  · rintro xs y ⟨a, n, h, hl, hi, rfl, rfl⟩
    obtain ⟨d1, d2, d3⟩ := numT_all h
    obtain ⟨h1, h'⟩ := Bool.and_eq_true_iff.mp h
    obtain ⟨h2, h3⟩ := Bool.and_eq_true_iff.mp h'
    obtain ⟨c, hc⟩ : ∃ c, (TL.tl a)[0]? = some c := ⟨_, List.getElem?_eq_getElem (List.length_pos_iff.mpr d2)⟩
    have nc : c ≠ 48 := fun z => d3 (by rw [hc, z])
    have hc2 : atI a.cps.toList 0 = some c := atI_nat (j := 0) hc
    have bg := big (n := 640) (by decide)
    refine run_seq1 (run_if (b := false) (et_or (a := false) (b := false) (et_not (a := true) (et_B (ev_is (ev_ascii (ev_var rfl)) (congrArg Dat.bl h1)))) fun _ => et_or (a := false) (b := false) (et_not (a := true) (et_B (ev_is (ev_digit (ev_var rfl)) (congrArg Dat.bl h2)))) fun _ => et_is (et_test (ev_op (ev_ixS (ev_var rfl) ev_int (by omega) hc2) ev_str r2_eqS)) (decide_eq_false (zero_sign nc))) (fun z => by cases z) fun _ => run_next rfl) ?_
    exact run_ret (ev_intS (ev_var rfl) hi hl) rfl
  · rintro xs c ⟨a, rfl, hl, h, rfl⟩
    have bg := big (n := 100000) (by decide)
    refine re_seq0 (re_ifT (b := true) ?_ (fun _ => fun A0 H0 A H σ g0 k D d => d A H σ g0) (fun z => by cases z))
    cases h1 : Txt.isascii a with
    | false => exact et_or (a := true) (b := false) (et_not (a := false) (et_B (ev_is (ev_ascii (ev_var rfl)) (congrArg Dat.bl h1)))) fun z => by cases z
    | true =>
      refine et_or (a := false) (b := true) (et_not (a := true) (et_B (ev_is (ev_ascii (ev_var rfl)) (congrArg Dat.bl h1)))) fun _ => ?_
      cases h2 : Txt.isdigit a with
      | false => exact et_or (a := true) (b := false) (et_not (a := false) (et_B (ev_is (ev_digit (ev_var rfl)) (congrArg Dat.bl h2)))) fun z => by cases z
      | true =>
        refine et_or (a := false) (b := true) (et_not (a := true) (et_B (ev_is (ev_digit (ev_var rfl)) (congrArg Dat.bl h2)))) fun _ => ?_
        unfold numT at h
        rw [h1, h2, Bool.true_and, Bool.true_and] at h
        have hc : (TL.tl a)[0]? = some 48 := by
          cases q : decide ((TL.tl a)[0]? = some 48) with
          | true => exact of_decide_eq_true q
          | false =>
            rw [q] at h
            cases h
        exact et_is (et_test (ev_op (ev_ixS (ev_var rfl) ev_int (by omega) (atI_nat (j := 0) hc)) ev_str r2_eqS)) (by decide +kernel)
end
end Fr

set_option Elab.async false
set_option linter.all false
set_option maxRecDepth 100000
set_option maxHeartbeats 4000000
namespace Fr
open PySem PySem.Spec PyProof.Rows L2
open Evl (Ex)
abbrev s__parse_insert : Stmt := topS 44
abbrev N__parse_insert : List Str := ["part", "words"]
theorem sc__parse_insert : FnScope N__parse_insert ["part"] (defScope s__parse_insert) := ⟨rfl, rfl, rfl, by decide +kernel, rfl, by decide +kernel, by decide +kernel⟩
section
variable {P : Program} {w0 : World} {K : PySem.W.Frag} {mg : Str → Option Value} {base : Heap}
/-! ## texts cut -/
theorem starts_cut {a b : Str} (h : Txt.startswith b a = true) : ∃ r : Str, b = a ++ r := by
  obtain ⟨h1, h2⟩ := Bool.and_eq_true_iff.mp (show (decide (0 + a.length ≤ b.length) && Builtin.Str.subAt b a 0) = true from h)
  rw [StrLaws.subAt_eq, List.drop_zero] at h2
  have e := eq_of_beq h2
  refine ⟨⟨(b.cps.toList.drop a.length).toArray⟩, TL.ext_tl ?_⟩
  rw [TL.tl_append]
  show b.cps.toList = a.cps.toList ++ b.cps.toList.drop a.length
  rw [← e, List.take_append_drop]
theorem joinL_part (S : List Nat) : ∀ {l : List (List Nat)} {p : List Nat}, p ∈ l → p.length ≤ (TL.joinL S l).length
  | [q], p, h => by
    rw [List.mem_singleton.mp h]
    exact Nat.le_refl _
  | q :: r :: l, p, h => by
    show p.length ≤ (q ++ (S ++ TL.joinL S (r :: l))).length
    rw [List.length_append, List.length_append]
    rcases List.mem_cons.mp h with rfl | h
    · omega
    · have := joinL_part S h
      omega
theorem joinL_many (S : List Nat) (hS : 0 < S.length) : ∀ l : List (List Nat), l.length ≤ (TL.joinL S l).length + 1
  | [] => Nat.zero_le _
  | [q] => by
    show 1 ≤ _
    omega
  | q :: r :: l => by
    have := joinL_many S hS (r :: l)
    show (r :: l).length + 1 ≤ (q ++ (S ++ TL.joinL S (r :: l))).length + 1
    rw [List.length_append, List.length_append]
    omega
theorem split_back (a b : Str) : TL.joinL (TL.tl b) ((Txt.split a b).map TL.tl) = TL.tl a := by
  rw [← TL.tl_join, StrLaws.join_split]
theorem split_part {a b p : Str} (h : p ∈ Txt.split a b) : p.length ≤ a.length := by
  rw [TL.len_tl, TL.len_tl a, ← split_back a b]
  exact joinL_part _ (List.mem_map.mpr ⟨p, h, rfl⟩)
theorem split_many {a b : Str} (hb : 0 < (TL.tl b).length) : (Txt.split a b).length ≤ a.length + 1 := by
  have := joinL_many (TL.tl b) hb ((Txt.split a b).map TL.tl)
  rw [split_back, List.length_map] at this
  rw [TL.len_tl a]
  exact this
theorem few_of {a b : Str} (ha : a.length ≤ 1000) (hb : 0 < (TL.tl b).length) : Few a b := ⟨by omega, by have := split_many (a := a) hb; omega, fun p hp => by have := split_part hp; omega⟩
theorem ee_tup1 {γ : Gam} {te : TE} {tr : TA} {W : WX} {cls : Value} (h : EvE te W γ cls) : EvE (tTup (tCons te tr)) W γ cls := fun H0 A H σ k Q q => h H0 A H σ k _ q
/-- the text of an insert -/
def insT (p : Str) : Bool := match Txt.split p " " with
  | [a, b, c] => decide (b = "puts") && (((["0", "1"] : List Str).any fun n => n == c) && wordT a)
  | _ => false
theorem bit_of {c : Str} (h : ((["0", "1"] : List Str).any fun n => n == c) = true) : ∃ b : Int, (b = 0 ∨ b = 1) ∧ c = strI b ∧ PySem.intText? c = some b := by
  obtain ⟨s, hs, he⟩ := List.any_eq_true.mp h
  have e := eq_of_beq he
  subst e
  rcases List.mem_cons.mp hs with rfl | hs
  · exact ⟨0, .inl rfl, by rw [strI_bit (.inl rfl)]; rfl, sign_int (.inl rfl)⟩
  · rw [List.mem_singleton.mp hs]
    exact ⟨1, .inr rfl, by rw [strI_bit (.inr rfl)]; rfl, sign_int (.inr rfl)⟩
def R__parse_insert (xs : List Dat) (y : Dat) : Prop := ∃ (p a c : Str) (b : Int), p.length ≤ 1000 ∧ Txt.split p " " = [a, "puts", c] ∧ wordT a = true ∧ ((["0", "1"] : List Str).any fun n => n == c) = true ∧ PySem.intText? c = some b ∧ c.length ≤ 640 ∧ xs = [.str p] ∧ y = rowD (wordV a, b)
theorem len__parse_insert {xs : List Dat} {y : Dat} (h : R__parse_insert xs y) : xs.length = 1 := by
  obtain ⟨_, _, _, _, _, _, _, _, _, _, rfl, _⟩ := h
  rfl
def RE__parse_insert (K : PySem.W.Frag) (cT : Addr) (xs : List Dat) (c : Value) : Prop := ∃ p : Str, xs = [.str p] ∧ p.length ≤ 1000 ∧ insT p = false ∧ c = .ref cT
theorem lenE__parse_insert {K : PySem.W.Frag} {cT : Addr}  {xs : List Dat} {c : Value} (h : RE__parse_insert K cT xs c) : xs.length = 1 := by
  obtain ⟨_, rfl, _⟩ := h
  rfl
theorem okB__parse_insert {f : Addr} {fd : FuncData} (F : Fun K "_parse_insert" "_parse_insert" s__parse_insert f fd) {c_InvalidText : Addr} (X_InvalidText : ExcOk K mg "InvalidText" c_InvalidText) {f_parse_word : Addr} {d_parse_word : FuncData} (CB_parse_word : CalB P w0 K mg base "parse_word" ["text"] 2 R_parse_word (RE_parse_word K c_InvalidText) f_parse_word d_parse_word) (T : Bs mg) : FnOk P w0 K mg base (L2.CX P w0) 3 f fd ["part"] (PrB R__parse_insert (RE__parse_insert K c_InvalidText)) := by
  refine fn_prB F sc__parse_insert (fun xs y h => len__parse_insert h) (fun xs c h => lenE__parse_insert h) fun cdv A outer s H E hr => ⟨_, (pss_cons (ps_set (i := 1) sc__parse_insert.nd rfl (Or.inl rfl) (pe_m1 PySem.F.slot_str_split PySem.F.type_str_split mt_splitS (pv 0) pe_str))
      (pss_cons (ps_if (PW.pt (pw_or (pt_cmpR op_ne (pe_callB (call_lenK (K := K) rfl) (by rfl) T.len PySem.boot_len (pa_cons (pv 1) pa_nil)) pe_int (nomark _)) (pw_or (pt_cmpR op_ne (pe_ix (ix_listK (K := K) rfl) (pv 1) pe_int (fun _ _ => rfl)) pe_str (nomark _)) (pw_or1 (pt_cmpR (op_ninK (K := K) rfl) (pe_ix (ix_listK (K := K) rfl) (pv 1) pe_int (fun _ _ => rfl)) (pe_tup (pa_cons pe_str (pa_cons pe_str pa_nil))) (by rfl)))))) (pss_one (ps_raise rfl (takes_of rfl rfl rfl rfl) (pmk_own0 PySem.F.excBase_ValueError X_InvalidText.ex X_InvalidText.at_ X_InvalidText.kp (raises_own X_InvalidText.sub X_InvalidText.ty) (by rfl)))) pss_nil)
      (pss_one (ps_ret (pe_tup (pa_cons (pe_callS CB_parse_word.ok (hr.mono (by decide)) rfl CB_parse_word.at_ CB_parse_word.kp CB_parse_word.bd (fun σ => passAt (takes_of rfl rfl rfl rfl) σ) (pa_cons (pe_ix (ix_listK (K := K) rfl) (pv 1) pe_int (fun _ _ => rfl)) pa_nil)) (pa_cons (pe_callTy cr_intS (by rfl) T.int (by decide +kernel) (pa_cons (pe_ix (ix_listK (K := K) rfl) (pv 1) pe_int (fun _ _ => rfl)) pa_nil)) pa_nil))))))), ?_, ?_⟩
  · rintro xs y ⟨p, a, c, b, hl, hs, hw, hc, hi, cl, rfl, rfl⟩
    have bg := big (n := 200000) (by decide)
    obtain ⟨v1, v2, v3⟩ := wordV_of hw
    have al : a.length ≤ p.length := split_part (b := " ") (by rw [hs]; exact List.mem_cons_self)
    refine run_seq1 (run_asgN (xs := [.str a, .str "puts", .str c]) (en_is (en_split (ev_var rfl) ev_str (by decide +kernel) (by omega)) (by rw [hs]; rfl)) rfl) ?_
    refine run_seq1 (run_if (b := false) (et_or (a := false) (b := false) (et_is (et_test (ev_op (ev_lenL (er_var rfl)) ev_int r2_neI)) rfl) fun _ => et_or (a := false) (b := false) (et_is (et_test (ev_op (ev_ixL (er_var rfl) ev_int (z := .str "puts") (atI_nat (j := 1) rfl)) ev_str r2_neS)) (by decide +kernel)) fun _ => et_is (et_test (ev_op (ev_ixL (er_var rfl) ev_int (z := .str c) (atI_nat (j := 2) rfl)) (ev_tup (ea_cons ev_str (ea_cons ev_str ea_nil)) (by show 2 ≤ sizeLine; decide)) (r2_ninS (ns := ["0", "1"])))) (by rw [hc]; rfl)) (fun z => by cases z) fun _ => run_next rfl) ?_
    exact run_ret (ev_tup (ea_cons (ev_callB (ea_cons (ev_ixL (er_var rfl) ev_int (z := .str a) (atI_nat (j := 0) rfl)) ea_nil) ⟨wordV a, v1, by omega, by rw [v2], rfl⟩) (ea_cons (ev_intS (ev_ixL (er_var rfl) ev_int (z := .str c) (atI_nat (j := 2) rfl)) hi cl) ea_nil)) (by show 2 ≤ sizeLine; decide)) rfl
  · rintro xs c ⟨p, rfl, hl, hb, rfl⟩
    have bg := big (n := 200000) (by decide)
    have sp := fun q (hq : q ∈ Txt.split p " ") => split_part hq
    have sm := split_many (a := p) (b := " ") (by decide +kernel)
    unfold insT at hb
    refine re_seq (R' := fun _ _ => False) (run_asgN (xs := (Txt.split p " ").map .str) (en_split (ev_var rfl) ev_str (by decide +kernel) (by omega)) rfl) ?_
    generalize Txt.split p " " = l at hb sp sm
    by_cases h3 : l.length = 3
    · obtain ⟨a, b, c, rfl⟩ : ∃ a b c, l = [a, b, c] := by
        rcases l with _ | ⟨a, _ | ⟨b, _ | ⟨c, _ | ⟨d, l⟩⟩⟩⟩ <;> simp at h3
        exact ⟨a, b, c, rfl⟩
      have hb : (decide (b = "puts") && (((["0", "1"] : List Str).any fun n => n == c) && wordT a)) = false := hb
      by_cases hp : b = "puts"
      · subst hp
        rw [decide_eq_true rfl, Bool.true_and] at hb
        cases hc : (["0", "1"] : List Str).any fun n => n == c with
        | false => exact re_seq0 (re_ifT (b := true) (et_or (a := false) (b := true) (et_is (et_test (ev_op (ev_lenL (er_var rfl)) ev_int r2_neI)) rfl) fun _ => et_or (a := false) (b := true) (et_is (et_test (ev_op (ev_ixL (er_var rfl) ev_int (z := .str "puts") (atI_nat (j := 1) rfl)) ev_str r2_neS)) (by decide +kernel)) fun _ => et_is (et_test (ev_op (ev_ixL (er_var rfl) ev_int (z := .str c) (atI_nat (j := 2) rfl)) (ev_tup (ea_cons ev_str (ea_cons ev_str ea_nil)) (by show 2 ≤ sizeLine; decide)) (r2_ninS (ns := ["0", "1"])))) (by rw [hc]; rfl)) (fun _ => fun A0 H0 A H σ g0 k D d => d A H σ g0) (fun z => by cases z))
        | true =>
          rw [hc, Bool.true_and] at hb
          refine re_seq (R' := fun _ _ => False) (run_if (b := false) (et_or (a := false) (b := false) (et_is (et_test (ev_op (ev_lenL (er_var rfl)) ev_int r2_neI)) rfl) fun _ => et_or (a := false) (b := false) (et_is (et_test (ev_op (ev_ixL (er_var rfl) ev_int (z := .str "puts") (atI_nat (j := 1) rfl)) ev_str r2_neS)) (by decide +kernel)) fun _ => et_is (et_test (ev_op (ev_ixL (er_var rfl) ev_int (z := .str c) (atI_nat (j := 2) rfl)) (ev_tup (ea_cons ev_str (ea_cons ev_str ea_nil)) (by show 2 ≤ sizeLine; decide)) (r2_ninS (ns := ["0", "1"])))) (by rw [hc]; rfl)) (fun z => by cases z) fun _ => run_next rfl) ?_
          exact re_ret (ee_tup1 (ee_call (ea_cons (ev_ixL (er_var rfl) ev_int (z := .str a) (atI_nat (j := 0) rfl)) ea_nil) ⟨.str a, rfl, rfl, .inr ⟨a, rfl, by have := sp a List.mem_cons_self; omega, hb⟩⟩))
      · exact re_seq0 (re_ifT (b := true) (et_or (a := false) (b := true) (et_is (et_test (ev_op (ev_lenL (er_var rfl)) ev_int r2_neI)) rfl) fun _ => et_or (a := true) (b := false) (et_is (et_test (ev_op (ev_ixL (er_var rfl) ev_int (z := .str b) (atI_nat (j := 1) rfl)) ev_str r2_neS)) (by rw [decide_eq_false hp]; rfl)) fun z => by cases z) (fun _ => fun A0 H0 A H σ g0 k D d => d A H σ g0) (fun z => by cases z))
    · exact re_seq0 (re_ifT (b := true) (et_or (a := true) (b := false) (et_is (et_test (ev_op (ev_lenL (er_var rfl)) ev_int r2_neI)) (by rw [List.length_map]; simp; omega)) fun z => by cases z) (fun _ => fun A0 H0 A H σ g0 k D d => d A H σ g0) (fun z => by cases z))
end
end Fr

set_option Elab.async false
set_option linter.all false
set_option maxRecDepth 100000
set_option maxHeartbeats 4000000
namespace Fr
open PySem PySem.Spec PyProof.Rows L2
open Evl (Ex)
section
variable {P : Program} {w0 : World} {K : PySem.W.Frag} {mg : Str → Option Value} {base : Heap}
/-! ## an argument raises -/
def EvEA (ta : TA) (W : WX) (γ : Gam) (cls : Value) : Prop := ∀ H0 A H σ, Ok H0 A H σ γ → ∀ Q : List V → Hp → Prop, (∀ B H', Gr A H B H' → W cls none σ H') → ta σ H Q
section
variable {γ : Gam} {te : TE} {tr : TA} {W : WX} {cls : Value} {x : Dat}
theorem eea_head (h : EvE te W γ cls) : EvEA (tCons te tr) W γ cls := fun H0 A H σ k Q q => h H0 A H σ k _ q
theorem eea_tail (h : EvD te γ x) (ht : EvEA tr W γ cls) : EvEA (tCons te tr) W γ cls := fun H0 A H σ k Q q =>
  h H0 A H σ k _ fun v B H1 g1 r1 => ht H0 B H1 σ (k.mono g1) _ fun D H2 g2 => q D H2 (g1.trans g2)
theorem ee_tupA (h : EvEA tr W γ cls) : EvE (tTup tr) W γ cls := fun H0 A H σ k Q q => h H0 A H σ k _ q
theorem ee_cbA {rc : List V → Hp → VK → Prop} (h : EvEA tr W γ cls) : EvE (tCB rc tr) W γ cls := fun H0 A H σ k Q q => h H0 A H σ k _ q
theorem ee_callA {sp : Sp} {Z : L2.St → XK} (h : EvEA tr W γ cls) : EvE (tCallS sp Z tr) W γ cls := fun H0 A H σ k Q q => h H0 A H σ k _ q
end
def R_parse_payloads (xs : List Dat) (y : Dat) : Prop := ∃ a : Str, a.length ≤ 1000 ∧ xs = [.str a] ∧ ((a = "none" ∧ y = .lst []) ∨ (a ≠ "none" ∧ (∀ p ∈ Txt.split a " ", wordT p = true) ∧ y = .lst ((Txt.split a " ").map fun p => w (wordV p))))
theorem len_parse_payloads {xs : List Dat} {y : Dat} (h : R_parse_payloads xs y) : xs.length = 1 := by
  obtain ⟨_, _, rfl, _⟩ := h
  rfl
theorem okB_parse_payloads {f : Addr} {fd : FuncData} (F : Fun K "parse_payloads" "parse_payloads" s_parse_payloads f fd) {c_InvalidText : Addr} {f__need_text : Addr} {d__need_text : FuncData} (CB__need_text : CalB P w0 K mg base "_need_text" ["value"] 1 R__need_text (RE__need_text K c_InvalidText) f__need_text d__need_text) {f_parse_word : Addr} {d_parse_word : FuncData} (CB_parse_word : CalB P w0 K mg base "parse_word" ["text"] 2 R_parse_word (RE_parse_word K c_InvalidText) f_parse_word d_parse_word) : FnOk P w0 K mg base (L2.CX P w0) 3 f fd ["text"] (PrB R_parse_payloads (RE_parse_payloads K c_InvalidText)) := by
  refine fn_prB F sc_parse_payloads (fun xs y h => len_parse_payloads h) (fun xs c h => lenE_parse_payloads h) fun cdv A outer s H E hr => ⟨_, (pss_cons (ps_expr (pe_callS CB__need_text.ok (hr.mono (by decide)) rfl CB__need_text.at_ CB__need_text.kp CB__need_text.bd (fun σ => passAt (takes_of rfl rfl rfl rfl) σ) (pa_cons (pv 0) pa_nil)))
      (pss_cons (ps_if (pt_cmpR op_eq (pv 0) pe_str (nomark _)) (pss_one (ps_ret (pe_lst pa_nil))) pss_nil)
      (pss_one (ps_ret (pe_lcE (own := [("part", 1)]) rfl rfl (takes_of rfl rfl rfl rfl) rfl sc_parse_payloads.nd (pi_listK (K := K) rfl (pe_m1 PySem.F.slot_str_split PySem.F.type_str_split mt_splitS (pv 0) pe_str)) (blkOk_by (own := [("part", 1)]) (N := N_parse_payloads) (sc := defScope s_parse_payloads) (by decide +kernel)) (fun _ _ _ _ _ => (pg_name (i := 1) sc_parse_payloads.nd rfl (Or.inl rfl))) (fun _ _ _ _ _ => pts_nil) (fun _ _ _ _ _ _ hp => (pe_callS CB_parse_word.ok (hr.mono (by decide)) rfl CB_parse_word.at_ CB_parse_word.kp CB_parse_word.bd (fun σ pins H s e s' I c => hp pins σ H s e s' I c) (pa_cons (pv 1) pa_nil)))))))), ?_, ?_⟩
  · rintro xs y ⟨a, ha, rfl, h⟩
    have hF : Few a " " := few_of ha (by decide +kernel)
    have hm := hF.many
    have bg := big (n := 200002) (by decide)
    refine run_seq1 (run_drop (ev_callB (ea_cons (ev_var rfl) ea_nil) ⟨a, rfl, rfl⟩) rfl) ?_
    rcases h with ⟨rfl, rfl⟩ | ⟨hn, hw, rfl⟩
    · exact run_seq (M := fun _ => False) (run_if (b := true) (et_is (et_test (ev_op (ev_var rfl) ev_str r2_eqS)) (decide_eq_true rfl)) (fun _ => run_ret (ev_ofN (en_lst ea_nil (Nat.zero_le _))) rfl) fun z => by cases z) fun _ z => z.elim
    · refine run_seq1 (run_if (b := false) (et_is (et_test (ev_op (ev_var rfl) ev_str r2_eqS)) (decide_eq_false hn)) (fun z => by cases z) fun _ => run_next rfl) ?_
      exact run_ret (ev_ofN (en_is (en_lcL (js := [1]) (l := Txt.split a " ") (enc := Dat.str) (f := fun _ => true) (v := fun p => w (wordV p)) (er_ofN (en_split (ev_var rfl) ev_str (by decide +kernel) (by omega))) (by decide) (by omega) fun p hp => ⟨_, tg_name 1, et_yes, fun _ => by
        obtain ⟨v1, v2, v3⟩ := wordV_of (hw p hp)
        have := hF.part p hp
        exact ev_callB (ea_cons (ev_var rfl) ea_nil) ⟨wordV p, v1, by omega, by rw [v2], rfl⟩⟩) (by rw [filter_yes]))) rfl
  · rintro xs c ⟨d, rfl, rfl, h⟩
    rcases h with ⟨hf, hs⟩ | ⟨a, i0, p0, rfl, hF, hn, h0, hb, hg⟩
    · exact re_seq0 (re_drop (ee_call (ea_cons (ev_var rfl) ea_nil) ⟨d, rfl, hf, hs, rfl⟩))
    · have hm := hF.many
      have hz := hF.size
      have bg := big (n := 200002) (by decide)
      refine re_seq (R' := fun _ _ => False) (run_drop (ev_callB (ea_cons (ev_var rfl) ea_nil) ⟨a, rfl, rfl⟩) rfl) ?_
      refine re_seq (R' := fun _ _ => False) (run_if (b := false) (et_is (et_test (ev_op (ev_var rfl) ev_str r2_eqS)) (decide_eq_false hn)) (fun z => by cases z) fun _ => run_next rfl) ?_
      exact re_ret (ee_lcL (js := [1]) (l := Txt.split a " ") (enc := Dat.str) (v := fun p => w (wordV p)) (er_ofN (en_split (ev_var rfl) ev_str (by decide +kernel) (by omega))) (by decide) (by omega) h0
        (fun i p hi hp => ⟨_, tg_name 1, et_yes, by
          obtain ⟨v1, v2, v3⟩ := wordV_of (hg i p hi hp)
          have := hF.part p (List.mem_of_getElem? hp)
          exact ev_callB (ea_cons (ev_var rfl) ea_nil) ⟨wordV p, v1, by omega, by rw [v2], rfl⟩⟩)
        ⟨_, tg_name 1, et_yes, ee_call (ea_cons (ev_var rfl) ea_nil) ⟨_, rfl, rfl, .inr ⟨p0, rfl, by have := hF.part p0 (List.mem_of_getElem? h0); omega, hb⟩⟩⟩)
end
end Fr

set_option Elab.async false
set_option linter.all false
set_option maxRecDepth 100000
set_option maxHeartbeats 4000000
namespace Fr
open PySem PySem.Spec PyProof.Rows L2
open Evl (Ex)
abbrev s_parse_rule : Stmt := topS 40
abbrev N_parse_rule : List Str := ["text", "parts", "inserts", "part", "rule"]
theorem sc_parse_rule : FnScope N_parse_rule ["text"] (defScope s_parse_rule) := ⟨rfl, rfl, rfl, by decide +kernel, rfl, by decide +kernel, by decide +kernel⟩
section
variable {P : Program} {w0 : World} {K : PySem.W.Frag} {mg : Str → Option Value} {base : Heap}
/-! ## the text of a rule -/
theorem split_ne (a b : Str) : Txt.split a b ≠ [] := by
  unfold Txt.split
  split
  · exact List.cons_ne_nil _ _
  · split
    · exact List.cons_ne_nil _ _
    · rw [StrLaws.partsBetween_eq]
      obtain ⟨p, r, e⟩ := StrLaws.partsFrom_ne a b.length 0 (Builtin.Str.occurrences a b 0 a.length (a.length + 1))
      rw [e]
      exact List.cons_ne_nil _ _
theorem cutA_mapF {α β : Type} (f : α → β) (l : List α) (lo hi : Option Int) : cutA (l.map f) lo hi = (cutA l lo hi).map f := by
  unfold cutA
  rw [List.length_map, List.map_take, List.map_drop]
abbrev partsT (a : Str) : List Str := Txt.split a "; "
abbrev midT (a : Str) : List Str := cutA (partsT a) (some 1) (some (-1))
def headT (a : Str) : Str := (partsT a).head (split_ne a _)
def lastT (a : Str) : Str := (partsT a).getLast (split_ne a _)
/-- the row that a text tells -/
def insV (q : Str) : List Int × Int := match Txt.split q " " with
  | [x, _, c] => (wordV x, if c = "0" then 0 else 1)
  | _ => ([], 0)
theorem insV_of {q : Str} (hl : q.length ≤ 1000) (h : insT q = true) : R__parse_insert [.str q] (rowD (insV q)) := by
  unfold insT at h
  unfold insV
  have hp : ∀ x ∈ Txt.split q " ", x.length ≤ q.length := fun x hx => split_part hx
  generalize hs : Txt.split q " " = l at h hp ⊢
  rcases l with _ | ⟨a, _ | ⟨b, _ | ⟨c, _ | ⟨d, l⟩⟩⟩⟩ <;> try (cases h; done)
  obtain ⟨h1, h2⟩ := Bool.and_eq_true_iff.mp (show (decide (b = "puts") && (((["0", "1"] : List Str).any fun n => n == c) && wordT a)) = true from h)
  obtain ⟨h3, h4⟩ := Bool.and_eq_true_iff.mp h2
  have hb := of_decide_eq_true h1
  subst hb
  obtain ⟨b, b01, e1, e2⟩ := bit_of h3
  refine ⟨q, a, c, b, hl, hs, h4, h3, e2, ?_, rfl, ?_⟩
  · have : c.length ≤ 1 := by
      rw [e1, TL.len_tl, tl_bit b01]
      exact Nat.le_refl 1
    omega
  · show rowD (wordV a, if c = "0" then 0 else 1) = rowD (wordV a, b)
    congr 2
    rcases b01 with rfl | rfl
    · rw [if_pos (e1.trans (by decide +kernel))]
    · rw [if_neg (fun z => by rw [z] at e1; exact absurd e1 (by decide +kernel))]
theorem at_head (a : Str) : atI ((partsT a).map Dat.str) 0 = some (.str (headT a)) := atI_nat (j := 0) (by
  rw [List.getElem?_map]
  have e : (partsT a)[0]? = some (headT a) := by
    rw [← List.head?_eq_getElem?]
    exact List.head?_eq_some_head _
  rw [e]
  rfl)
theorem atI_lastE {xs : List Dat} (h : xs ≠ []) : atI xs (-1) = some (xs.getLast h) := by
  have e : xs = xs.dropLast ++ [xs.getLast h] := (List.dropLast_concat_getLast h).symm
  have := atI_last xs.dropLast (xs.getLast h)
  rw [← e] at this
  exact this
theorem at_lastT (a : Str) : atI ((partsT a).map Dat.str) (-1) = some (.str (lastT a)) := by
  have hn := split_ne a "; "
  rw [atI_lastE (xs := (partsT a).map Dat.str) (fun z => hn (List.map_eq_nil_iff.mp z))]
  exact congrArg some (List.getLast_map ..)
theorem mid_in {a q : Str} (h : q ∈ midT a) : q ∈ partsT a := by
  unfold midT cutA at h
  exact List.mem_of_mem_drop (List.mem_of_mem_take h)
/-- a rule that is told -/
def ruleD (fl : Str) (mid : List Str) (n : Nat) : Dat := .tup [w (wordV fl), .tup (mid.map fun q => rowD (insV q)), .int (n : Int)]
theorem ruleD_sz {K : PySem.W.Frag} {fl : Str} {mid : List Str} {n : Nat} (h1 : (wordV fl).length ≤ 1000) (h2 : mid.length ≤ 1000) (h3 : ∀ q ∈ mid, (insV q).1.length ≤ 1000) : Sz3 K (ruleD fl mid n) := by
  have wz : ∀ {ns : List Int}, ns.length ≤ 1000 → Sz K (w ns) := fun {ns} h => sz_w (by omega)
  have up : ∀ {ns : List Int}, ns.length ≤ 1000 → Sz2 K (w ns) := fun {ns} h => ⟨by rw [List.length_map]; omega, fun d hd => by
    obtain ⟨i, _, rfl⟩ := List.mem_map.mp hd
    trivial⟩
  refine ⟨by show 3 ≤ 1000000; decide, fun d hd => ?_⟩
  rcases List.mem_cons.mp hd with rfl | hd
  · exact up h1
  rcases List.mem_cons.mp hd with rfl | hd
  · refine ⟨by rw [List.length_map]; omega, fun d hd => ?_⟩
    obtain ⟨q, hq, rfl⟩ := List.mem_map.mp hd
    refine ⟨by show 2 ≤ 1000000; decide, fun d hd => ?_⟩
    rcases List.mem_cons.mp hd with rfl | hd
    · exact wz (h3 q hq)
    · rw [List.mem_singleton.mp hd]
      trivial
  · rw [List.mem_singleton.mp hd]
    trivial
theorem insV_short {q : Str} (hl : q.length ≤ 1000) (h : insT q = true) : (insV q).1.length ≤ 1000 := by
  unfold insT at h
  unfold insV
  have hp : ∀ x ∈ Txt.split q " ", x.length ≤ q.length := fun x hx => split_part hx
  generalize Txt.split q " " = l at h hp ⊢
  rcases l with _ | ⟨a, _ | ⟨b, _ | ⟨c, _ | ⟨d, l⟩⟩⟩⟩ <;> try (cases h; done)
  obtain ⟨h1, h2⟩ := Bool.and_eq_true_iff.mp (show (decide (b = "puts") && (((["0", "1"] : List Str).any fun n => n == c) && wordT a)) = true from h)
  obtain ⟨h3, h4⟩ := Bool.and_eq_true_iff.mp h2
  have := (wordV_of h4).2.2
  have := hp a List.mem_cons_self
  show (wordV a).length ≤ 1000
  omega
def R_parse_rule (xs : List Dat) (y : Dat) : Prop := ∃ (a f k : Str) (n : Nat), a.length ≤ 999 ∧ k.length ≤ 560 ∧ (∀ q ∈ midT a, insT q = true) ∧ headT a = "flag " ++ f ∧ wordT f = true ∧ lastT a = "check " ++ k ∧ numT k = true ∧ PySem.intText? k = some (n : Int) ∧ isRuleD (ruleD f (midT a) n) = true ∧ xs = [.str a] ∧ y = ruleD f (midT a) n
theorem len_parse_rule {xs : List Dat} {y : Dat} (h : R_parse_rule xs y) : xs.length = 1 := by
  obtain ⟨_, _, _, _, _, _, _, _, _, _, _, _, _, rfl, _⟩ := h
  rfl
/-- why a text tells no rule -/
inductive BadRule (a : Str) : Prop
  | ins (i0 : Nat) (q : Str) (h : (midT a)[i0]? = some q) (hq : insT q = false) (hg : ∀ i p, i < i0 → (midT a)[i]? = some p → insT p = true)
  | flag (hm : ∀ q ∈ midT a, insT q = true) (h : Txt.startswith (headT a) "flag " = false)
  | word (hm : ∀ q ∈ midT a, insT q = true) (f : Str) (hf : headT a = "flag " ++ f) (h : wordT f = false)
  | check (hm : ∀ q ∈ midT a, insT q = true) (f : Str) (hf : headT a = "flag " ++ f) (wf : wordT f = true) (h : Txt.startswith (lastT a) "check " = false)
  | num (hm : ∀ q ∈ midT a, insT q = true) (f : Str) (hf : headT a = "flag " ++ f) (wf : wordT f = true) (k : Str) (hk : lastT a = "check " ++ k) (h : numT k = false)
  | rule (hm : ∀ q ∈ midT a, insT q = true) (f : Str) (hf : headT a = "flag " ++ f) (wf : wordT f = true) (k : Str) (hk : lastT a = "check " ++ k) (kl : k.length ≤ 560) (nk : numT k = true) (n : Nat) (ik : PySem.intText? k = some (n : Int)) (h : isRuleD (ruleD f (midT a) n) = false)
def RE_parse_rule (K : PySem.W.Frag) (cT : Addr) (xs : List Dat) (c : Value) : Prop := ∃ d, xs = [d] ∧ c = .ref cT ∧ ((Fine K d ∧ isaStr d = false) ∨ ∃ a : Str, d = .str a ∧ a.length ≤ 999 ∧ BadRule a)
theorem lenE_parse_rule {K : PySem.W.Frag} {cT : Addr}  {xs : List Dat} {c : Value} (h : RE_parse_rule K cT xs c) : xs.length = 1 := by
  obtain ⟨_, rfl, _⟩ := h
  rfl
theorem okB_parse_rule {f : Addr} {fd : FuncData} (F : Fun K "parse_rule" "parse_rule" s_parse_rule f fd) {c_InvalidText : Addr} (X_InvalidText : ExcOk K mg "InvalidText" c_InvalidText) {f__need_text : Addr} {d__need_text : FuncData} (CB__need_text : CalB P w0 K mg base "_need_text" ["value"] 1 R__need_text (RE__need_text K c_InvalidText) f__need_text d__need_text) {f_parse_word : Addr} {d_parse_word : FuncData} (CB_parse_word : CalB P w0 K mg base "parse_word" ["text"] 2 R_parse_word (RE_parse_word K c_InvalidText) f_parse_word d_parse_word) {f__parse_number : Addr} {d__parse_number : FuncData} (CB__parse_number : CalB P w0 K mg base "_parse_number" ["text"] 1 R__parse_number (RE__parse_number c_InvalidText) f__parse_number d__parse_number) {f_is_rule : Addr} {d_is_rule : FuncData} (C_is_rule : Cal P w0 K mg base "is_rule" ["value"] 7 (R_is_rule K) f_is_rule d_is_rule) {f__parse_insert : Addr} {d__parse_insert : FuncData} (CB__parse_insert : CalB P w0 K mg base "_parse_insert" ["part"] 3 R__parse_insert (RE__parse_insert K c_InvalidText) f__parse_insert d__parse_insert) {f__behind : Addr} {d__behind : FuncData} (CB__behind : CalB P w0 K mg base "_behind" ["name", "part"] 1 R__behind (RE__behind c_InvalidText) f__behind d__behind) (T : Bs mg) : FnOk P w0 K mg base (L2.CX P w0) 8 f fd ["text"] (PrB R_parse_rule (RE_parse_rule K c_InvalidText)) := by
  refine fn_prB F sc_parse_rule (fun xs y h => len_parse_rule h) (fun xs c h => lenE_parse_rule h) fun cdv A outer s H E hr => ⟨_, (pss_cons (ps_expr (pe_callS CB__need_text.ok (hr.mono (by decide)) rfl CB__need_text.at_ CB__need_text.kp CB__need_text.bd (fun σ => passAt (takes_of rfl rfl rfl rfl) σ) (pa_cons (pv 0) pa_nil)))
      (pss_cons (ps_set (i := 1) sc_parse_rule.nd rfl (Or.inl rfl) (pe_m1 PySem.F.slot_str_split PySem.F.type_str_split mt_splitS (pv 0) pe_str))
      (pss_cons (ps_set (i := 2) sc_parse_rule.nd rfl (Or.inl rfl) (pe_callTy (call_tupK (K := K) rfl) (by rfl) T.tuple (by decide +kernel) (pa_cons (pe_lcE (own := [("part", 3)]) rfl rfl (takes_of rfl rfl rfl rfl) rfl sc_parse_rule.nd (pi_listK (K := K) rfl (pe_slice (sl_listK (K := K) rfl) (pv 1) (po_some pe_int) (po_some (pe_un un_neg pe_int)))) (blkOk_by (own := [("part", 3)]) (N := N_parse_rule) (sc := defScope s_parse_rule) (by decide +kernel)) (fun _ _ _ _ _ => (pg_name (i := 3) sc_parse_rule.nd rfl (Or.inl rfl))) (fun _ _ _ _ _ => pts_nil) (fun _ _ _ _ _ _ hp => (pe_callS CB__parse_insert.ok (hr.mono (by decide)) rfl CB__parse_insert.at_ CB__parse_insert.kp CB__parse_insert.bd (fun σ pins H s e s' I c => hp pins σ H s e s' I c) (pa_cons (pv 3) pa_nil)))) pa_nil)))
      (pss_cons (ps_set (i := 4) sc_parse_rule.nd rfl (Or.inl rfl) (pe_tup (pa_cons (pe_callS CB_parse_word.ok (hr.mono (by decide)) rfl CB_parse_word.at_ CB_parse_word.kp CB_parse_word.bd (fun σ => passAt (takes_of rfl rfl rfl rfl) σ) (pa_cons (pe_callS CB__behind.ok (hr.mono (by decide)) rfl CB__behind.at_ CB__behind.kp CB__behind.bd (fun σ => passAt (takes_of rfl rfl rfl rfl) σ) (pa_cons pe_str (pa_cons (pe_ix (ix_listK (K := K) rfl) (pv 1) pe_int (fun _ _ => rfl)) pa_nil))) pa_nil)) (pa_cons (pv 2) (pa_cons (pe_callS CB__parse_number.ok (hr.mono (by decide)) rfl CB__parse_number.at_ CB__parse_number.kp CB__parse_number.bd (fun σ => passAt (takes_of rfl rfl rfl rfl) σ) (pa_cons (pe_callS CB__behind.ok (hr.mono (by decide)) rfl CB__behind.at_ CB__behind.kp CB__behind.bd (fun σ => passAt (takes_of rfl rfl rfl rfl) σ) (pa_cons pe_str (pa_cons (pe_ix (ix_listK (K := K) rfl) (pv 1) (pe_un un_neg pe_int) (fun _ _ => rfl)) pa_nil))) pa_nil)) pa_nil)))))
      (pss_cons (ps_if (pt_not (pt_val (pe_call C_is_rule.ok (hr.mono (by decide)) rfl C_is_rule.at_ C_is_rule.kp C_is_rule.bd .nil pass0 (pa_cons (pv 4) pa_nil)))) (pss_one (ps_raise rfl (takes_of rfl rfl rfl rfl) (pmk_own0 PySem.F.excBase_ValueError X_InvalidText.ex X_InvalidText.at_ X_InvalidText.kp (raises_own X_InvalidText.sub X_InvalidText.ty) (by rfl)))) pss_nil)
      (pss_one (ps_ret (pv 4)))))))), ?_, ?_⟩
  · rintro xs y ⟨a, f, k, n, ha, kl, hm, hf, wf, hk, nk, ik, hr, rfl, rfl⟩
    have bg := big (n := 200002) (by decide)
    have hp : ∀ p ∈ partsT a, p.length ≤ a.length := fun p h => split_part h
    have hm0 : ∀ q ∈ midT a, q.length ≤ a.length := fun q hq => hp q (mid_in hq)
    have ml : (midT a).length ≤ 1000 := by
      have h1 := split_many (a := a) (b := "; ") (by decide +kernel)
      have h2 : (midT a).length ≤ (partsT a).length := by
        unfold midT cutA
        rw [List.length_take, List.length_drop]
        omega
      have h3 : (partsT a).length ≤ a.length + 1 := h1
      omega
    have hh : (headT a).length ≤ a.length := hp _ (List.head_mem _)
    have hl : (lastT a).length ≤ a.length := hp _ (List.getLast_mem _)
    have l5 : ("flag " : Str).length = 5 := by decide +kernel
    have l6 : ("check " : Str).length = 6 := by decide +kernel
    have ap : ∀ x y : Str, (x ++ y).length = x.length + y.length := fun x y => by rw [TL.len_tl, TL.tl_append, List.length_append, ← TL.len_tl, ← TL.len_tl]
    have fl : f.length ≤ 1000 := by
      have := ap "flag " f
      rw [← hf] at this
      omega
    have kl2 : k.length ≤ 999 := by
      have := ap "check " k
      rw [← hk] at this
      omega
    obtain ⟨v1, v2, v3⟩ := wordV_of wf
    refine run_seq1 (run_drop (ev_callB (ea_cons (ev_var rfl) ea_nil) ⟨a, rfl, rfl⟩) rfl) ?_
    refine run_seq1 (run_asgN (xs := (partsT a).map .str) (en_split (ev_var rfl) ev_str (by decide +kernel) (by omega)) rfl) ?_
    refine run_seq1 (run_asg (x := .tup ((midT a).map fun q => rowD (insV q))) (ev_tupL (er_ofN (en_is (en_lcL (js := [3]) (l := midT a) (enc := Dat.str) (f := fun _ => true) (v := fun q => rowD (insV q)) (er_is (er_ofN (en_slL (er_var rfl) (eo_some ev_int) (eo_some (ev_neg ev_int)))) (cutA_mapF Dat.str (partsT a) (some 1) (some (-1)))) (by decide) (by omega) fun q hq => ⟨_, tg_name 3, et_yes, fun _ => ev_callB (ea_cons (ev_var rfl) ea_nil) (insV_of (by have := hm0 q hq; omega) (hm q hq))⟩) (by rw [filter_yes])))) rfl) ?_
    refine run_seq1 (run_asg (x := ruleD f (midT a) n) (ev_tup (ea_cons (ev_callB (ea_cons (ev_callB (ea_cons ev_str (ea_cons (ev_is (ev_ixL (er_var rfl) ev_int (at_head a)) (by rw [hf])) ea_nil)) ⟨"flag ", f, by rw [l5]; decide, by omega, rfl, rfl⟩) ea_nil) ⟨wordV f, v1, by omega, by rw [v2], rfl⟩) (ea_cons (ev_var rfl) (ea_cons (ev_callB (ea_cons (ev_callB (ea_cons ev_str (ea_cons (ev_is (ev_ixL (er_var rfl) (ev_neg ev_int) (at_lastT a)) (by rw [hk])) ea_nil)) ⟨"check ", k, by rw [l6]; decide, by omega, rfl, rfl⟩) ea_nil) ⟨k, n, nk, by omega, ik, rfl, rfl⟩) ea_nil))) (by show 3 ≤ sizeLine; decide)) rfl) ?_
    refine run_seq1 (run_if (b := false) (et_not (a := true) (et_B (ev_is (ev_call (ea_cons (ev_var rfl) ea_nil) ⟨_, rfl, (ruleD_sz (by omega) ml fun q hq => insV_short (by have := hm0 q hq; omega) (hm q hq)), rfl⟩) (congrArg Dat.bl hr)))) (fun z => by cases z) fun _ => run_next rfl) ?_
    exact run_ret (ev_var rfl) rfl
  · rintro xs c ⟨d, rfl, rfl, h⟩
    rcases h with ⟨hf, hs⟩ | ⟨a, rfl, ha, hB⟩
    · exact re_seq0 (re_drop (ee_call (ea_cons (ev_var rfl) ea_nil) ⟨d, rfl, hf, hs, rfl⟩))
    have bg := big (n := 200002) (by decide)
    have hp : ∀ p ∈ partsT a, p.length ≤ a.length := fun p h => split_part h
    have hm0 : ∀ q ∈ midT a, q.length ≤ a.length := fun q hq => hp q (mid_in hq)
    have ml : (midT a).length ≤ 1000 := by
      have h1 := split_many (a := a) (b := "; ") (by decide +kernel)
      have h2 : (midT a).length ≤ (partsT a).length := by
        unfold midT cutA
        rw [List.length_take, List.length_drop]
        omega
      have h3 : (partsT a).length ≤ a.length + 1 := h1
      omega
    have hh : (headT a).length ≤ a.length := hp _ (List.head_mem _)
    have hl : (lastT a).length ≤ a.length := hp _ (List.getLast_mem _)
    have l5 : ("flag " : Str).length = 5 := by decide +kernel
    have l6 : ("check " : Str).length = 6 := by decide +kernel
    have ap : ∀ x y : Str, (x ++ y).length = x.length + y.length := fun x y => by rw [TL.len_tl, TL.tl_append, List.length_append, ← TL.len_tl, ← TL.len_tl]
    refine re_seq (R' := fun _ _ => False) (run_drop (ev_callB (ea_cons (ev_var rfl) ea_nil) ⟨a, rfl, rfl⟩) rfl) ?_
    refine re_seq (R' := fun _ _ => False) (run_asgN (xs := (partsT a).map .str) (en_split (ev_var rfl) ev_str (by decide +kernel) (by omega)) rfl) ?_
    cases hB with
    | ins i0 q h hq hg =>
      exact re_seq0 (re_asg (ee_cbA (eea_head (ee_lcL (js := [3]) (l := midT a) (enc := Dat.str) (v := fun q => rowD (insV q)) (er_is (er_ofN (en_slL (er_var rfl) (eo_some ev_int) (eo_some (ev_neg ev_int)))) (cutA_mapF Dat.str (partsT a) (some 1) (some (-1)))) (by decide) (by omega) h
        (fun i p hi hp' => ⟨_, tg_name 3, et_yes, ev_callB (ea_cons (ev_var rfl) ea_nil) (insV_of (by have := hm0 p (List.mem_of_getElem? hp'); omega) (hg i p hi hp'))⟩)
        ⟨_, tg_name 3, et_yes, ee_call (ea_cons (ev_var rfl) ea_nil) ⟨q, rfl, by have := hm0 q (List.mem_of_getElem? h); omega, hq, rfl⟩⟩))))
    | flag hm h =>
      refine re_seq (R' := fun _ _ => False) (run_asg (x := .tup ((midT a).map fun q => rowD (insV q))) (ev_tupL (er_ofN (en_is (en_lcL (js := [3]) (l := midT a) (enc := Dat.str) (f := fun _ => true) (v := fun q => rowD (insV q)) (er_is (er_ofN (en_slL (er_var rfl) (eo_some ev_int) (eo_some (ev_neg ev_int)))) (cutA_mapF Dat.str (partsT a) (some 1) (some (-1)))) (by decide) (by omega) fun q hq => ⟨_, tg_name 3, et_yes, fun _ => ev_callB (ea_cons (ev_var rfl) ea_nil) (insV_of (by have := hm0 q hq; omega) (hm q hq))⟩) (by rw [filter_yes])))) rfl) ?_
      exact re_seq0 (re_asg (ee_tupA (eea_head (ee_callA (eea_head (ee_call (ea_cons ev_str (ea_cons (ev_ixL (er_var rfl) ev_int (at_head a)) ea_nil)) ⟨_, _, rfl, h, rfl⟩))))))
    | word hm f hf h =>
      refine re_seq (R' := fun _ _ => False) (run_asg (x := .tup ((midT a).map fun q => rowD (insV q))) (ev_tupL (er_ofN (en_is (en_lcL (js := [3]) (l := midT a) (enc := Dat.str) (f := fun _ => true) (v := fun q => rowD (insV q)) (er_is (er_ofN (en_slL (er_var rfl) (eo_some ev_int) (eo_some (ev_neg ev_int)))) (cutA_mapF Dat.str (partsT a) (some 1) (some (-1)))) (by decide) (by omega) fun q hq => ⟨_, tg_name 3, et_yes, fun _ => ev_callB (ea_cons (ev_var rfl) ea_nil) (insV_of (by have := hm0 q hq; omega) (hm q hq))⟩) (by rw [filter_yes])))) rfl) ?_
      have fl : f.length ≤ 1000 := by
        have := ap "flag " f
        rw [← hf] at this
        omega
      exact re_seq0 (re_asg (ee_tupA (eea_head (ee_call (ea_cons (ev_callB (ea_cons ev_str (ea_cons (ev_is (ev_ixL (er_var rfl) ev_int (at_head a)) (by rw [hf])) ea_nil)) ⟨"flag ", f, by rw [l5]; decide, by omega, rfl, rfl⟩) ea_nil) ⟨_, rfl, rfl, .inr ⟨f, rfl, by omega, h⟩⟩))))
    | check hm f hf wf h =>
      refine re_seq (R' := fun _ _ => False) (run_asg (x := .tup ((midT a).map fun q => rowD (insV q))) (ev_tupL (er_ofN (en_is (en_lcL (js := [3]) (l := midT a) (enc := Dat.str) (f := fun _ => true) (v := fun q => rowD (insV q)) (er_is (er_ofN (en_slL (er_var rfl) (eo_some ev_int) (eo_some (ev_neg ev_int)))) (cutA_mapF Dat.str (partsT a) (some 1) (some (-1)))) (by decide) (by omega) fun q hq => ⟨_, tg_name 3, et_yes, fun _ => ev_callB (ea_cons (ev_var rfl) ea_nil) (insV_of (by have := hm0 q hq; omega) (hm q hq))⟩) (by rw [filter_yes])))) rfl) ?_
      obtain ⟨v1, v2, v3⟩ := wordV_of wf
      have fl : f.length ≤ 1000 := by
        have := ap "flag " f
        rw [← hf] at this
        omega
      exact re_seq0 (re_asg (ee_tupA (eea_tail (ev_callB (ea_cons (ev_callB (ea_cons ev_str (ea_cons (ev_is (ev_ixL (er_var rfl) ev_int (at_head a)) (by rw [hf])) ea_nil)) ⟨"flag ", f, by rw [l5]; decide, by omega, rfl, rfl⟩) ea_nil) ⟨wordV f, v1, by omega, by rw [v2], rfl⟩) (eea_tail (ev_var rfl) (eea_head (ee_callA (eea_head (ee_call (ea_cons ev_str (ea_cons (ev_ixL (er_var rfl) (ev_neg ev_int) (at_lastT a)) ea_nil)) ⟨_, _, rfl, h, rfl⟩))))))))
    | num hm f hf wf k hk h =>
      refine re_seq (R' := fun _ _ => False) (run_asg (x := .tup ((midT a).map fun q => rowD (insV q))) (ev_tupL (er_ofN (en_is (en_lcL (js := [3]) (l := midT a) (enc := Dat.str) (f := fun _ => true) (v := fun q => rowD (insV q)) (er_is (er_ofN (en_slL (er_var rfl) (eo_some ev_int) (eo_some (ev_neg ev_int)))) (cutA_mapF Dat.str (partsT a) (some 1) (some (-1)))) (by decide) (by omega) fun q hq => ⟨_, tg_name 3, et_yes, fun _ => ev_callB (ea_cons (ev_var rfl) ea_nil) (insV_of (by have := hm0 q hq; omega) (hm q hq))⟩) (by rw [filter_yes])))) rfl) ?_
      obtain ⟨v1, v2, v3⟩ := wordV_of wf
      have fl : f.length ≤ 1000 := by
        have := ap "flag " f
        rw [← hf] at this
        omega
      have kl2 : k.length ≤ 999 := by
        have := ap "check " k
        rw [← hk] at this
        omega
      exact re_seq0 (re_asg (ee_tupA (eea_tail (ev_callB (ea_cons (ev_callB (ea_cons ev_str (ea_cons (ev_is (ev_ixL (er_var rfl) ev_int (at_head a)) (by rw [hf])) ea_nil)) ⟨"flag ", f, by rw [l5]; decide, by omega, rfl, rfl⟩) ea_nil) ⟨wordV f, v1, by omega, by rw [v2], rfl⟩) (eea_tail (ev_var rfl) (eea_head (ee_call (ea_cons (ev_callB (ea_cons ev_str (ea_cons (ev_is (ev_ixL (er_var rfl) (ev_neg ev_int) (at_lastT a)) (by rw [hk])) ea_nil)) ⟨"check ", k, by rw [l6]; decide, by omega, rfl, rfl⟩) ea_nil) ⟨k, rfl, by omega, h, rfl⟩))))))
    | rule hm f hf wf k hk kl nk n ik h =>
      refine re_seq (R' := fun _ _ => False) (run_asg (x := .tup ((midT a).map fun q => rowD (insV q))) (ev_tupL (er_ofN (en_is (en_lcL (js := [3]) (l := midT a) (enc := Dat.str) (f := fun _ => true) (v := fun q => rowD (insV q)) (er_is (er_ofN (en_slL (er_var rfl) (eo_some ev_int) (eo_some (ev_neg ev_int)))) (cutA_mapF Dat.str (partsT a) (some 1) (some (-1)))) (by decide) (by omega) fun q hq => ⟨_, tg_name 3, et_yes, fun _ => ev_callB (ea_cons (ev_var rfl) ea_nil) (insV_of (by have := hm0 q hq; omega) (hm q hq))⟩) (by rw [filter_yes])))) rfl) ?_
      obtain ⟨v1, v2, v3⟩ := wordV_of wf
      have fl : f.length ≤ 1000 := by
        have := ap "flag " f
        rw [← hf] at this
        omega
      have kl2 : k.length ≤ 999 := by
        have := ap "check " k
        rw [← hk] at this
        omega
      refine re_seq (R' := fun _ _ => False) (run_asg (x := ruleD f (midT a) n) (ev_tup (ea_cons (ev_callB (ea_cons (ev_callB (ea_cons ev_str (ea_cons (ev_is (ev_ixL (er_var rfl) ev_int (at_head a)) (by rw [hf])) ea_nil)) ⟨"flag ", f, by rw [l5]; decide, by omega, rfl, rfl⟩) ea_nil) ⟨wordV f, v1, by omega, by rw [v2], rfl⟩) (ea_cons (ev_var rfl) (ea_cons (ev_callB (ea_cons (ev_callB (ea_cons ev_str (ea_cons (ev_is (ev_ixL (er_var rfl) (ev_neg ev_int) (at_lastT a)) (by rw [hk])) ea_nil)) ⟨"check ", k, by rw [l6]; decide, by omega, rfl, rfl⟩) ea_nil) ⟨k, n, nk, by omega, ik, rfl, rfl⟩) ea_nil))) (by show 3 ≤ sizeLine; decide)) rfl) ?_
      exact re_seq0 (re_ifT (b := true) (et_not (a := false) (et_B (ev_is (ev_call (ea_cons (ev_var rfl) ea_nil) ⟨_, rfl, (ruleD_sz (by omega) ml fun q hq => insV_short (by have := hm0 q hq; omega) (hm q hq)), rfl⟩) (congrArg Dat.bl h)))) (fun _ => fun A0 H0 A H σ g0 k D d => d A H σ g0) (fun z => by cases z))
end
end Fr

set_option Elab.async false
set_option linter.all false
set_option maxRecDepth 100000
set_option maxHeartbeats 4000000
namespace Fr
open PySem PySem.Spec PyProof.Rows L2
open Evl (Ex)
section
variable {P : Program} {w0 : World} {K : PySem.W.Frag} {mg : Str → Option Value} {base : Heap}
/-! ## each text tells or does not -/
theorem first_bad (f : Str → Bool) : ∀ l : List Str, (∃ (i : Nat) (q : Str), l[i]? = some q ∧ f q = false ∧ ∀ j p, j < i → l[j]? = some p → f p = true) ∨ ∀ q ∈ l, f q = true
  | [] => .inr fun _ h => nomatch h
  | x :: l => by
    cases h : f x with
    | false => exact .inl ⟨0, x, rfl, h, fun j p hj => absurd hj (Nat.not_lt_zero _)⟩
    | true =>
      rcases first_bad f l with ⟨i, q, h1, h2, h3⟩ | ha
      · refine .inl ⟨i + 1, q, h1, h2, fun j p hj hp => ?_⟩
        cases j with
        | zero =>
          cases hp
          exact h
        | succ j => exact h3 j p (by omega) hp
      · refine .inr fun q hq => ?_
        rcases List.mem_cons.mp hq with rfl | hq
        · exact h
        · exact ha q hq
theorem rule_cases {a : Str} (hs : ∀ k, lastT a = "check " ++ k → numT k = true → k.length ≤ 560) : BadRule a ∨ ∃ (f k : Str) (n : Nat), k.length ≤ 560 ∧ (∀ q ∈ midT a, insT q = true) ∧ headT a = "flag " ++ f ∧ wordT f = true ∧ lastT a = "check " ++ k ∧ numT k = true ∧ 1 ≤ n ∧ k = strI (n : Int) ∧ PySem.intText? k = some (n : Int) ∧ isRuleD (ruleD f (midT a) n) = true := by
  rcases first_bad insT (midT a) with ⟨i, q, h1, h2, h3⟩ | hm
  · exact .inl (.ins i q h1 h2 h3)
  cases h1 : Txt.startswith (headT a) "flag " with
  | false => exact .inl (.flag hm h1)
  | true =>
    obtain ⟨f, hf⟩ := starts_cut h1
    cases h2 : wordT f with
    | false => exact .inl (.word hm f hf h2)
    | true =>
      cases h3 : Txt.startswith (lastT a) "check " with
      | false => exact .inl (.check hm f hf h2 h3)
      | true =>
        obtain ⟨k, hk⟩ := starts_cut h3
        cases h4 : numT k with
        | false => exact .inl (.num hm f hf h2 k hk h4)
        | true =>
          have kl : k.length ≤ 560 := hs k hk h4
          obtain ⟨n, n1, e1, e2⟩ := num_back h4 (by omega)
          cases h5 : isRuleD (ruleD f (midT a) n) with
          | false => exact .inl (.rule hm f hf h2 k hk kl h4 n e2 h5)
          | true => exact .inr ⟨f, k, n, kl, hm, hf, h2, hk, h4, n1, e1, e2, h5⟩
theorem list_cases (a : Str) : a = "none" ∨ (a ≠ "none" ∧ ∀ p ∈ Txt.split a " ", wordT p = true) ∨ (a ≠ "none" ∧ ∃ (i0 : Nat) (p0 : Str), (Txt.split a " ")[i0]? = some p0 ∧ wordT p0 = false ∧ ∀ i p, i < i0 → (Txt.split a " ")[i]? = some p → wordT p = true) := by
  by_cases h : a = "none"
  · exact .inl h
  · rcases first_bad wordT (Txt.split a " ") with hb | ha
    · exact .inr (.inr ⟨h, hb⟩)
    · exact .inr (.inl ⟨h, ha⟩)
/-- a text of words, told and shown -/
theorem list_back {a : Str} (h : ∀ p ∈ Txt.split a " ", wordT p = true) : Txt.join " " ((Txt.split a " ").map fun p => wordS (wordV p)) = a := by
  rw [show ((Txt.split a " ").map fun p => wordS (wordV p)) = Txt.split a " " from (List.map_congr_left fun p hp => (wordV_of (h p hp)).2.1).trans (List.map_id _), TL.join_eq]
  exact StrLaws.join_split a " "
theorem ins_back {q : Str} (h : insT q = true) : wordS (insV q).1 ++ " puts " ++ strI (insV q).2 = q := by
  have e0 := StrLaws.join_split q " "
  unfold insT at h
  unfold insV
  generalize Txt.split q " " = l at h e0 ⊢
  rcases l with _ | ⟨a, _ | ⟨b, _ | ⟨c, _ | ⟨d, l⟩⟩⟩⟩ <;> try (cases h; done)
  obtain ⟨h1, h2⟩ := Bool.and_eq_true_iff.mp (show (decide (b = "puts") && (((["0", "1"] : List Str).any fun n => n == c) && wordT a)) = true from h)
  obtain ⟨h3, h4⟩ := Bool.and_eq_true_iff.mp h2
  have hb := of_decide_eq_true h1
  subst hb
  obtain ⟨b, b01, e1, e2⟩ := bit_of h3
  have ec : strI (if c = "0" then 0 else 1) = c := by
    rcases b01 with rfl | rfl
    · rw [if_pos (e1.trans (by decide +kernel)), e1]
    · rw [if_neg (fun z => by rw [z] at e1; exact absurd e1 (by decide +kernel)), e1]
  show wordS (wordV a) ++ " puts " ++ strI (if c = "0" then 0 else 1) = q
  rw [(wordV_of h4).2.1, ec, ← e0]
  refine TL.ext_tl ?_
  rw [TL.tl_append, TL.tl_append, TL.tl_join]
  show TL.tl a ++ TL.tl (" puts " : Str) ++ TL.tl c = TL.tl a ++ (TL.tl (" " : Str) ++ (TL.tl ("puts" : Str) ++ (TL.tl (" " : Str) ++ TL.tl c)))
  rw [show TL.tl (" puts " : Str) = TL.tl (" " : Str) ++ (TL.tl ("puts" : Str) ++ TL.tl (" " : Str)) from by decide +kernel]
  simp only [List.append_assoc]
end
end Fr

set_option Elab.async false
set_option linter.all false
set_option maxRecDepth 100000
set_option maxHeartbeats 4000000
namespace Fr
open PySem PySem.Spec PyProof.Rows L2
open Evl (Ex)
abbrev s__law_parsed : Stmt := topS 80
abbrev N__law_parsed : List Str := ["way", "line", "found", "marks", "e"]
theorem sc__law_parsed : FnScope N__law_parsed ["way", "line"] (defScope s__law_parsed) := ⟨rfl, rfl, rfl, by decide +kernel, rfl, by decide +kernel, by decide +kernel⟩
section
variable {P : Program} {w0 : World} {K : PySem.W.Frag} {mg : Str → Option Value} {base : Heap}
structure TellT (K : PySem.W.Frag) (D cF cR cB cP : Addr) : Prop where
  c : ExcC K D
  m : PySem.W.exmOne K (.ref D) (.ref cF) = some true
  k1 : PySem.W.kitOne K (.ref D) (.ref D) = some true
  k2 : PySem.W.kitOne K (.ref D) (.type "ValueError") = some true
  k3 : PySem.W.kitAny K (.ref D) [.ref cR, .ref cB, .ref cP] = some false
def RunEK (tu : TS) (W : WX) (γ : Gam) (cls : Value) : Prop := ∀ A0 H0 A H σ, Gr A0 H0 A H → Ok H0 A H σ γ → ∀ D : Ends, (∀ B H', Gr A0 H0 B H' → Ex A B → Ok H0 B H' σ γ → W cls none σ H') → tu D σ H
section
variable {γ : Gam} {te : TE} {t : TT} {tu tw : TS} {W Wout : WX} {cls c : Value} {g : TG} {N : Gam → Prop} {R : Dat → Gam → Prop} {i : Nat} {ts : Addr → Value → Option Addr → TS} {K : PySem.W.Frag}
theorem rek_asg (h : EvE te W γ cls) : RunEK (tAsg te g) W γ cls := fun A0 H0 A H σ g0 k D d => h H0 A H σ k _ fun B H' g => d B H' (g0.trans g) g.view (k.mono g)
theorem rek_if {b : Bool} (h : EvT t γ b) (h1 : b = true → RunEK tu W γ cls) (h2 : b = false → RunEK tw W γ cls) : RunEK (tIfS t tu tw) W γ cls := fun A0 H0 A H σ g0 k D d => h H0 A H σ k _ fun B H1 g1 => by
  cases b with
  | true => exact h1 rfl A0 H0 B H1 σ (g0.trans g1) (k.mono g1) D fun C H2 g v k2 => d C H2 g (g1.view.trans v) k2
  | false => exact h2 rfl A0 H0 B H1 σ (g0.trans g1) (k.mono g1) D fun C H2 g v k2 => d C H2 g (g1.view.trans v) k2
theorem run_tryGS {t0 t1 : TT} {s0 s1 s2 : Sp} {a0 a1 a2 : TA} {g0 g1 g2 : TG} (hG : ∀ W : WX, Run (tIfS t0 (tAsg (tCallS s0 (WE W) a0) g0) (tIfS t1 (tAsg (tCallS s1 (WE W) a1) g1) (tAsg (tCallS s2 (WE W) a2) g2))) γ N R) : Run (fun D σ H => (tIfS t0 (tAsg (tCallS s0 (WE (wAs K c i ts Wout D)) a0) g0) (tIfS t1 (tAsg (tCallS s1 (WE (wAs K c i ts Wout D)) a1) g1) (tAsg (tCallS s2 (WE (wAs K c i ts Wout D)) a2) g2))) D σ H) γ N R := fun A0 H0 A H σ g0 k D dn dr => hG _ A0 H0 A H σ g0 k D dn dr
theorem run_tryES {t0 t1 : TT} {s0 s1 s2 : Sp} {a0 a1 a2 : TA} {g0 g1 g2 : TG} (hE : ∀ W : WX, RunEK (tIfS t0 (tAsg (tCallS s0 (WE W) a0) g0) (tIfS t1 (tAsg (tCallS s1 (WE W) a1) g1) (tAsg (tCallS s2 (WE W) a2) g2))) W γ cls) (hx : PySem.W.exmOne K cls c = some true) (hs : ∀ a, Run (ts a cls none) (γ.set i (.d (.hnd a))) (fun δ => N (δ.set i .no)) R) :
    Run (fun D σ H => (tIfS t0 (tAsg (tCallS s0 (WE (wAs K c i ts Wout D)) a0) g0) (tIfS t1 (tAsg (tCallS s1 (WE (wAs K c i ts Wout D)) a1) g1) (tAsg (tCallS s2 (WE (wAs K c i ts Wout D)) a2) g2))) D σ H) γ N R := fun A0 H0 A H σ g0 k D dn dr =>
  hE _ A0 H0 A H σ g0 k D fun B H1 g1 v1 k1 => ⟨true, hx, fun _ a _ => hs a A0 H0 B H1 _ g1 (k1.setD (.hnd a) i) _ (fun δ C H2 σ' n g2 v2 k2 => dn _ C H2 _ n g2 (v1.trans v2) (k2.forget i none)) dr, fun z => nomatch z⟩
end
def R__law_parsed (K : PySem.W.Frag) (cT : Addr) (xs : List Dat) (y : Dat) : Prop := ∃ (t : Int) (d : Dat), xs = [.int t, d] ∧ ((t = 0 ∧ R_parse_word [d] y) ∨ (t = 1 ∧ R_parse_rule [d] y) ∨ (t = 2 ∧ R_parse_payloads [d] y) ∨ (t = 0 ∧ RE_parse_word K cT [d] (.ref cT) ∧ y = .str "refused") ∨ (t = 1 ∧ RE_parse_rule K cT [d] (.ref cT) ∧ y = .str "refused") ∨ (t = 2 ∧ RE_parse_payloads K cT [d] (.ref cT) ∧ y = .str "refused"))
theorem ok__law_parsed {f : Addr} {fd : FuncData} (F : Fun K "_law_parsed" "_law_parsed" s__law_parsed f fd) {c_InvalidText : Addr} {c_InvalidRule : Addr} {c_InvalidBits : Addr} {c_InvalidPayloads : Addr} {c_FrameError : Addr} (G_InvalidText : mg "InvalidText" = some (.ref c_InvalidText)) (G_InvalidRule : mg "InvalidRule" = some (.ref c_InvalidRule)) (G_InvalidBits : mg "InvalidBits" = some (.ref c_InvalidBits)) (G_InvalidPayloads : mg "InvalidPayloads" = some (.ref c_InvalidPayloads)) (G_FrameError : mg "FrameError" = some (.ref c_FrameError)) {f_parse_word : Addr} {d_parse_word : FuncData} (CB_parse_word : CalB P w0 K mg base "parse_word" ["text"] 2 R_parse_word (RE_parse_word K c_InvalidText) f_parse_word d_parse_word) {f_parse_rule : Addr} {d_parse_rule : FuncData} (CB_parse_rule : CalB P w0 K mg base "parse_rule" ["text"] 8 R_parse_rule (RE_parse_rule K c_InvalidText) f_parse_rule d_parse_rule) {f_parse_payloads : Addr} {d_parse_payloads : FuncData} (CB_parse_payloads : CalB P w0 K mg base "parse_payloads" ["text"] 3 R_parse_payloads (RE_parse_payloads K c_InvalidText) f_parse_payloads d_parse_payloads) (TT : TellT K c_InvalidText c_FrameError c_InvalidRule c_InvalidBits c_InvalidPayloads) (TV : mg "ValueError" = none) (T : Bs mg) : FnOk P w0 K mg base CX0 9 f fd ["way", "line"] (Pr (R__law_parsed K c_InvalidText)) := by
  refine fn_pr F sc__law_parsed (fun xs y h => by obtain ⟨_, _, rfl, _⟩ := h; rfl) fun cdv A outer s H E hr => ⟨_, (pss_cons (ps_par (i := 2) (j := 3) (by rfl) sc__law_parsed.nd rfl rfl (by decide) rfl rfl (pa_cons pe_non (pa_cons (pe_lst pa_nil) pa_nil)) (by rfl))
      (pss_cons (ps_try_as (i := 4) rfl rfl sc__law_parsed.nd rfl rfl ⟨rfl, by decide, .inl G_FrameError⟩ takes0 (fun W pn xe tk _ => (pss_one (ps_if (pt_cmpR op_eq (pv 0) pe_int (nomark _)) (pss_one (ps_set (i := 2) sc__law_parsed.nd rfl (Or.inl rfl) (pe_callS CB_parse_word.ok (hr.mono (by decide)) rfl CB_parse_word.at_ CB_parse_word.kp CB_parse_word.bd (fun σ => passAt tk σ) (pa_cons (pv 1) pa_nil)))) (pss_one (ps_if (pt_cmpR op_eq (pv 0) pe_int (nomark _)) (pss_one (ps_set (i := 2) sc__law_parsed.nd rfl (Or.inl rfl) (pe_callS CB_parse_rule.ok (hr.mono (by decide)) rfl CB_parse_rule.at_ CB_parse_rule.kp CB_parse_rule.bd (fun σ => passAt tk σ) (pa_cons (pv 1) pa_nil)))) (pss_one (ps_set (i := 2) sc__law_parsed.nd rfl (Or.inl rfl) (pe_callS CB_parse_payloads.ok (hr.mono (by decide)) rfl CB_parse_payloads.at_ CB_parse_payloads.kp CB_parse_payloads.bd (fun σ => passAt tk σ) (pa_cons (pv 1) pa_nil))))))))) (fun a oe cls d pn hz hf => (pss_cons (ps_set (i := 3) sc__law_parsed.nd rfl (Or.inl rfl) (pe_lst (pa_cons (pe_callB (call_isXK (K := K) rfl hz hf) (by rfl) T.isinstance (by decide +kernel) (pa_cons (pv 4) (pa_cons (pe_glob (v := .ref c_InvalidText) (by rfl) G_InvalidText rfl) pa_nil))) (pa_cons (pe_callB (call_isXK (K := K) rfl hz hf) (by rfl) T.isinstance (by decide +kernel) (pa_cons (pv 4) (pa_cons (pe_bltn (v := .ty "ValueError") (by rfl) TV (by decide +kernel) rfl) pa_nil))) pa_nil))))
      (pss_one (ps_expr (pe_bmK (K := K) rfl PySem.F.plainAttrs_list PySem.F.slot_list_append PySem.F.type_list_append mt_appendR (pv 3) (pa_cons (pe_callB (call_isXK (K := K) rfl hz hf) (by rfl) T.isinstance (by decide +kernel) (pa_cons (pv 4) (pa_cons (pe_tup (pa_cons (pe_glob (v := .ref c_InvalidRule) (by rfl) G_InvalidRule rfl) (pa_cons (pe_glob (v := .ref c_InvalidBits) (by rfl) G_InvalidBits rfl) (pa_cons (pe_glob (v := .ref c_InvalidPayloads) (by rfl) G_InvalidPayloads rfl) pa_nil)))) pa_nil))) pa_nil)))))))
      (pss_cons (ps_if (pt_cmpR (op_eqNilK (K := K) rfl hr.units0) (pv 3) (pe_lst pa_nil) (nomark _)) (pss_one (ps_ret (pv 2))) pss_nil)
      (pss_one (ps_ret (pe_ifExp (pt_cmpR (op_eqK (K := K) rfl hr.units) (pv 3) (pe_lst (pa_cons pe_bl (pa_cons pe_bl (pa_cons pe_bl pa_nil)))) (nomark _)) pe_str pe_str)))))), ?_⟩
  rintro xs y ⟨t, d, rfl, h⟩
  refine run_seqC (run_parN (i := 2) (j := 3) ev_non (en_lst ea_nil (Nat.zero_le _)) ?_)
  show Run _ [.d (.int t), .d d, .d .non, .o [], .no] _ _
  rcases h with ⟨rfl, h⟩ | ⟨rfl, h⟩ | ⟨rfl, h⟩ | ⟨rfl, h, rfl⟩ | ⟨rfl, h, rfl⟩ | ⟨rfl, h, rfl⟩
  · refine run_seq (M := fun δ => δ = [.d (.int 0), .d d, .d y, .o [], .no]) (run_tryGS fun W' => ?_) ?_
    · exact run_if (b := true) (et_is (et_test (ev_op (ev_var rfl) ev_int r2_eqI)) rfl) (fun _ => run_asg (ev_callB (ea_cons (ev_var rfl) ea_nil) h) rfl) (fun z => by cases z)
    rintro δ rfl
    refine run_freeze (i := 3) (xs := []) rfl ?_
    exact run_seq (M := fun _ => False) (run_if (b := true) (et_is (et_test (ev_op (ev_var rfl) (ev_ofN (en_lst ea_nil (Nat.zero_le _))) r2_eqNilA)) rfl) (fun _ => run_ret (ev_var rfl) rfl) (fun z => by cases z)) fun _ z => z.elim
  · refine run_seq (M := fun δ => δ = [.d (.int 1), .d d, .d y, .o [], .no]) (run_tryGS fun W' => ?_) ?_
    · exact run_if (b := false) (et_is (et_test (ev_op (ev_var rfl) ev_int r2_eqI)) rfl) (fun z => by cases z) (fun _ => run_if (b := true) (et_is (et_test (ev_op (ev_var rfl) ev_int r2_eqI)) rfl) (fun _ => run_asg (ev_callB (ea_cons (ev_var rfl) ea_nil) h) rfl) (fun z => by cases z))
    rintro δ rfl
    refine run_freeze (i := 3) (xs := []) rfl ?_
    exact run_seq (M := fun _ => False) (run_if (b := true) (et_is (et_test (ev_op (ev_var rfl) (ev_ofN (en_lst ea_nil (Nat.zero_le _))) r2_eqNilA)) rfl) (fun _ => run_ret (ev_var rfl) rfl) (fun z => by cases z)) fun _ z => z.elim
  · refine run_seq (M := fun δ => δ = [.d (.int 2), .d d, .d y, .o [], .no]) (run_tryGS fun W' => ?_) ?_
    · exact run_if (b := false) (et_is (et_test (ev_op (ev_var rfl) ev_int r2_eqI)) rfl) (fun z => by cases z) (fun _ => run_if (b := false) (et_is (et_test (ev_op (ev_var rfl) ev_int r2_eqI)) rfl) (fun z => by cases z) (fun _ => run_asg (ev_callB (ea_cons (ev_var rfl) ea_nil) h) rfl))
    rintro δ rfl
    refine run_freeze (i := 3) (xs := []) rfl ?_
    exact run_seq (M := fun _ => False) (run_if (b := true) (et_is (et_test (ev_op (ev_var rfl) (ev_ofN (en_lst ea_nil (Nat.zero_le _))) r2_eqNilA)) rfl) (fun _ => run_ret (ev_var rfl) rfl) (fun z => by cases z)) fun _ z => z.elim
  · refine run_seq (M := fun δ => δ = [.d (.int 0), .d d, .d .non, .o [Dat.bl true, .bl true, .bl false], .no]) (run_tryES (cls := .ref c_InvalidText) (fun W => ?_) TT.m fun a => ?_) ?_
    · exact rek_if (b := true) (et_is (et_test (ev_op (ev_var rfl) ev_int r2_eqI)) rfl) (fun _ => rek_asg (ee_call (ea_cons (ev_var rfl) ea_nil) h)) (fun z => by cases z)
    · refine run_seq1 (run_asgN (xs := [Dat.bl true, .bl true]) (en_lst (ea_cons (ev_isX1 (ev_var rfl) TT.c (fun u h => h) TT.k1) (ea_cons (ev_isX1 (ev_var rfl) TT.c (fun u h => h) TT.k2) ea_nil)) (by show 2 ≤ sizeLine; decide)) rfl) ?_
      exact run_app (i := 3) rfl (ev_isXT (ev_var rfl) TT.c (fun σ H Q q => q) (.cons (.own _) (.cons (.own _) (.cons (.own _) .nil))) (by show 3 ≤ sizeLine; decide) TT.k3) (by show 2 < sizeLine; exact big (by decide)) rfl
    rintro δ rfl
    refine run_freeze (i := 3) (xs := [Dat.bl true, .bl true, .bl false]) rfl ?_
    refine run_seq1 (run_if (b := false) (et_is (et_test (ev_op (ev_var rfl) (ev_ofN (en_lst ea_nil (Nat.zero_le _))) r2_eqNilA)) rfl) (fun z => by cases z) fun _ => run_next rfl) ?_
    exact run_ret (ev_is (ev_if (b := true) (x := .str "refused") (y := .str "odd") (et_is (et_test (ev_op (ev_var rfl) (ev_ofN (en_lst (ea_cons ev_bl (ea_cons ev_bl (ea_cons ev_bl ea_nil))) (by show 3 ≤ sizeLine; decide))) (r2_eqD (x := .lst [Dat.bl true, .bl true, .bl false]) (y := .lst [Dat.bl true, .bl true, .bl false]) rfl rfl (by decide +kernel) (by decide +kernel)))) (by decide +kernel)) (fun _ => ev_str) fun z => by cases z) rfl) rfl
  · refine run_seq (M := fun δ => δ = [.d (.int 1), .d d, .d .non, .o [Dat.bl true, .bl true, .bl false], .no]) (run_tryES (cls := .ref c_InvalidText) (fun W => ?_) TT.m fun a => ?_) ?_
    · exact rek_if (b := false) (et_is (et_test (ev_op (ev_var rfl) ev_int r2_eqI)) rfl) (fun z => by cases z) (fun _ => rek_if (b := true) (et_is (et_test (ev_op (ev_var rfl) ev_int r2_eqI)) rfl) (fun _ => rek_asg (ee_call (ea_cons (ev_var rfl) ea_nil) h)) (fun z => by cases z))
    · refine run_seq1 (run_asgN (xs := [Dat.bl true, .bl true]) (en_lst (ea_cons (ev_isX1 (ev_var rfl) TT.c (fun u h => h) TT.k1) (ea_cons (ev_isX1 (ev_var rfl) TT.c (fun u h => h) TT.k2) ea_nil)) (by show 2 ≤ sizeLine; decide)) rfl) ?_
      exact run_app (i := 3) rfl (ev_isXT (ev_var rfl) TT.c (fun σ H Q q => q) (.cons (.own _) (.cons (.own _) (.cons (.own _) .nil))) (by show 3 ≤ sizeLine; decide) TT.k3) (by show 2 < sizeLine; exact big (by decide)) rfl
    rintro δ rfl
    refine run_freeze (i := 3) (xs := [Dat.bl true, .bl true, .bl false]) rfl ?_
    refine run_seq1 (run_if (b := false) (et_is (et_test (ev_op (ev_var rfl) (ev_ofN (en_lst ea_nil (Nat.zero_le _))) r2_eqNilA)) rfl) (fun z => by cases z) fun _ => run_next rfl) ?_
    exact run_ret (ev_is (ev_if (b := true) (x := .str "refused") (y := .str "odd") (et_is (et_test (ev_op (ev_var rfl) (ev_ofN (en_lst (ea_cons ev_bl (ea_cons ev_bl (ea_cons ev_bl ea_nil))) (by show 3 ≤ sizeLine; decide))) (r2_eqD (x := .lst [Dat.bl true, .bl true, .bl false]) (y := .lst [Dat.bl true, .bl true, .bl false]) rfl rfl (by decide +kernel) (by decide +kernel)))) (by decide +kernel)) (fun _ => ev_str) fun z => by cases z) rfl) rfl
  · refine run_seq (M := fun δ => δ = [.d (.int 2), .d d, .d .non, .o [Dat.bl true, .bl true, .bl false], .no]) (run_tryES (cls := .ref c_InvalidText) (fun W => ?_) TT.m fun a => ?_) ?_
    · exact rek_if (b := false) (et_is (et_test (ev_op (ev_var rfl) ev_int r2_eqI)) rfl) (fun z => by cases z) (fun _ => rek_if (b := false) (et_is (et_test (ev_op (ev_var rfl) ev_int r2_eqI)) rfl) (fun z => by cases z) (fun _ => rek_asg (ee_call (ea_cons (ev_var rfl) ea_nil) h)))
    · refine run_seq1 (run_asgN (xs := [Dat.bl true, .bl true]) (en_lst (ea_cons (ev_isX1 (ev_var rfl) TT.c (fun u h => h) TT.k1) (ea_cons (ev_isX1 (ev_var rfl) TT.c (fun u h => h) TT.k2) ea_nil)) (by show 2 ≤ sizeLine; decide)) rfl) ?_
      exact run_app (i := 3) rfl (ev_isXT (ev_var rfl) TT.c (fun σ H Q q => q) (.cons (.own _) (.cons (.own _) (.cons (.own _) .nil))) (by show 3 ≤ sizeLine; decide) TT.k3) (by show 2 < sizeLine; exact big (by decide)) rfl
    rintro δ rfl
    refine run_freeze (i := 3) (xs := [Dat.bl true, .bl true, .bl false]) rfl ?_
    refine run_seq1 (run_if (b := false) (et_is (et_test (ev_op (ev_var rfl) (ev_ofN (en_lst ea_nil (Nat.zero_le _))) r2_eqNilA)) rfl) (fun z => by cases z) fun _ => run_next rfl) ?_
    exact run_ret (ev_is (ev_if (b := true) (x := .str "refused") (y := .str "odd") (et_is (et_test (ev_op (ev_var rfl) (ev_ofN (en_lst (ea_cons ev_bl (ea_cons ev_bl (ea_cons ev_bl ea_nil))) (by show 3 ≤ sizeLine; decide))) (r2_eqD (x := .lst [Dat.bl true, .bl true, .bl false]) (y := .lst [Dat.bl true, .bl true, .bl false]) rfl rfl (by decide +kernel) (by decide +kernel)))) (by decide +kernel)) (fun _ => ev_str) fun z => by cases z) rfl) rfl
end
end Fr

set_option Elab.async false
set_option linter.all false
set_option maxRecDepth 100000
set_option maxHeartbeats 4000000
namespace Fr
open PySem PySem.Spec PyProof.Rows L2
open Evl (Ex)
abbrev s__law_is_word_line : Stmt := topS 82
abbrev N__law_is_word_line : List Str := ["line", "sign"]
theorem sc__law_is_word_line : FnScope N__law_is_word_line ["line"] (defScope s__law_is_word_line) := ⟨rfl, rfl, rfl, by decide +kernel, rfl, by decide +kernel, by decide +kernel⟩
section
variable {P : Program} {w0 : World} {K : PySem.W.Frag} {mg : Str → Option Value} {base : Heap}
def rNinStr : R2 := fun x y H Q => ∃ i j, x = .str i ∧ y = .str j ∧ Q (.bl (!(!(Builtin.Str.occurrences j i 0 j.length 1).isEmpty))) H
theorem op_ninStr {X : Cx} : OpR X (compareOp .NotIn) rNinStr := op_notin_str
theorem sgn_in (c : Nat) : (!(Builtin.Str.occurrences ("01" : Str) ⟨#[c]⟩ 0 ("01" : Str).length 1).isEmpty) = sgn c := by
  have e0 : ("01" : Str).cps.toList = [48, 49] := by decide +kernel
  refine Bool.eq_iff_iff.mpr ((StrLaws.found_iff _ _).trans ⟨fun ⟨i, h⟩ => ?_, fun h => ?_⟩)
  · have z := (StrLaws.subAt_one _ _ _).mp h
    rw [e0] at z
    rcases i with _ | _ | i
    · cases z
      decide +kernel
    · cases z
      decide +kernel
    · cases z
  · rcases sgn_of h with rfl | rfl
    · exact ⟨0, (StrLaws.subAt_one _ _ _).mpr (by rw [e0]; rfl)⟩
    · exact ⟨1, (StrLaws.subAt_one _ _ _).mpr (by rw [e0]; rfl)⟩
theorem r2_ninStr {c : Nat} : R2D rNinStr (.str ⟨#[c]⟩) (.str "01") (.bl (!sgn c)) := fun A H vx vy s r1 r2 Q q => by
  cases r1
  cases r2
  refine ⟨_, _, rfl, rfl, ?_⟩
  rw [sgn_in]
  exact q _ A H (Gr.refl s) (.bl _)
theorem none_sgn : ∀ l : List Nat, (l.filter fun c => !sgn c).isEmpty = l.all sgn
  | [] => rfl
  | c :: l => by
    rw [List.filter_cons, List.all_cons]
    cases h : sgn c with
    | true => exact none_sgn l
    | false => rfl
def R__law_is_word_line (xs : List Dat) (y : Dat) : Prop := ∃ a : Str, a.length ≤ 100000 ∧ xs = [.str a] ∧ y = .bl (wordT a)
theorem len__law_is_word_line {xs : List Dat} {y : Dat} (h : R__law_is_word_line xs y) : xs.length = 1 := by
  obtain ⟨_, _, rfl, _⟩ := h
  rfl
theorem ok__law_is_word_line {f : Addr} {fd : FuncData} (F : Fun K "_law_is_word_line" "_law_is_word_line" s__law_is_word_line f fd) : FnOk P w0 K mg base CX0 1 f fd ["line"] (Pr R__law_is_word_line) := by
  refine fn_pr F sc__law_is_word_line (fun xs y h => len__law_is_word_line h) fun cdv A outer s H E hr => ⟨_, (pss_one (ps_ret (pe_or (pe_cmpR op_eq (pv 0) pe_str (nomark _)) (pe_one (pe_and (pe_cmpR op_ne (pv 0) pe_str (nomark _)) (pe_one (pe_cmpR (op_eqNilK (K := K) rfl hr.units0) (pe_lc (own := [("sign", 1)]) rfl sc__law_is_word_line.nd (pi_str (pv 0)) (blkOk_by (own := [("sign", 1)]) (N := N__law_is_word_line) (sc := defScope s__law_is_word_line) (by decide +kernel)) (fun _ _ _ _ _ => (pg_name (i := 1) sc__law_is_word_line.nd rfl (Or.inl rfl))) (fun _ _ _ _ _ => (pts_one (pt_cmpR op_ninStr (pv 1) pe_str (by rfl)))) (fun _ _ _ _ _ => (pv 1))) (pe_lst pa_nil) (nomark _)))))))), ?_⟩
  rintro xs y ⟨a, hl, rfl, rfl⟩
  have bg : (TL.tl a).length < sizeLine := by
    rw [← TL.len_tl]
    exact big (by omega)
  refine run_ret (ev_is (ev_or (a := decide (a = "-")) (b := !decide (a = "") && (TL.tl a).all sgn) (ev_op (ev_var rfl) ev_str r2_eqS) fun _ => ev_and (a := !decide (a = "")) (b := (TL.tl a).all sgn) (ev_is (ev_op (ev_var rfl) ev_str r2_neS) rfl) fun _ => ev_is (ev_op (ev_ofN (en_lcS (js := [1]) (f := fun c => !sgn c) (v := fun c => Dat.str ⟨#[c]⟩) (ev_var rfl) (by decide) bg fun c hc => ⟨_, tg_name 1, et_test (ev_op (ev_var rfl) ev_str r2_ninStr), fun _ => ev_var rfl⟩)) (ev_ofN (en_lst ea_nil (Nat.zero_le _))) r2_eqNilA) ?_) rfl) rfl
  rw [List.isEmpty_map, none_sgn]
end
end Fr

set_option Elab.async false
set_option linter.all false
set_option maxRecDepth 100000
set_option maxHeartbeats 4000000
namespace Fr
open PySem PySem.Spec PyProof.Rows L2
open Evl (Ex)
section
variable {P : Program} {w0 : World} {K : PySem.W.Frag} {mg : Str → Option Value} {base : Heap}
theorem cut_mid {α : Type} (a b : α) (mid : List α) : cutA (a :: (mid ++ [b])) (some 1) (some (-1)) = mid := by
  unfold cutA
  have e1 : HT.sIx (a :: (mid ++ [b])).length 0 (some 1) = 1 := by
    have := HT.sIx_nat (a :: (mid ++ [b])).length 0 1
    rw [show ((1 : Nat) : Int) = 1 from rfl] at this
    rw [this, List.length_cons]
    omega
  have e2 : HT.sIx (a :: (mid ++ [b])).length (a :: (mid ++ [b])).length (some (-1)) = mid.length + 1 := by
    unfold HT.sIx
    simp
    omega
  rw [e1, e2]
  show ((mid ++ [b]).take (mid.length + 1 - 1)) = mid
  rw [Nat.add_sub_cancel, List.take_left]
theorem parts_back {l : List Str} {f k : Str} (hn : l ≠ []) (hf' : l.head hn = "flag " ++ f) (hk' : l.getLast hn = "check " ++ k) : l.head hn :: (cutA l (some 1) (some (-1)) ++ [l.getLast hn]) = l := by
  cases l with
  | nil => exact absurd rfl hn
  | cons x l =>
    rcases List.eq_nil_or_concat l with z | ⟨m, y, z⟩
    · subst z
      have e : ("flag " ++ f : Str) = "check " ++ k := hf'.symm.trans hk'
      have e2 := congrArg TL.tl e
      rw [TL.tl_append, TL.tl_append, show TL.tl ("flag " : Str) = [102, 108, 97, 103, 32] from by decide +kernel, show TL.tl ("check " : Str) = [99, 104, 101, 99, 107, 32] from by decide +kernel] at e2
      injection e2 with e3
      exact absurd e3 (by decide)
    · rw [List.concat_eq_append] at z
      subst z
      rw [cut_mid]
      show x :: (m ++ [(x :: (m ++ [y])).getLast hn]) = x :: (m ++ [y])
      rw [List.getLast_cons (by simp)]
      simp
theorem rule_back {a f k : Str} {n : Nat} (hm : ∀ q ∈ midT a, insT q = true) (hf : headT a = "flag " ++ f) (wf : wordT f = true) (hk : lastT a = "check " ++ k) (ek : k = strI (n : Int)) :
    Txt.join "; " (("flag " ++ wordS (wordV f)) :: (((midT a).map fun q => wordS (insV q).1 ++ " puts " ++ strI (insV q).2) ++ ["check " ++ strI (n : Int)])) = a := by
  have e0 := StrLaws.join_split a "; "
  rw [(wordV_of wf).2.1, ← ek, ← hf, ← hk, show ((midT a).map fun q => wordS (insV q).1 ++ " puts " ++ strI (insV q).2) = midT a from (List.map_congr_left fun q hq => ins_back (hm q hq)).trans (List.map_id _), TL.join_eq]
  refine Eq.trans (congrArg (Str.join "; ") ?_) e0
  exact parts_back (split_ne a _) hf hk
end
end Fr

set_option Elab.async false
set_option linter.all false
set_option maxRecDepth 100000
set_option maxHeartbeats 4000000
namespace Fr
open PySem PySem.Spec PyProof.Rows L2
open Evl (Ex)
section
variable {P : Program} {w0 : World} {K : PySem.W.Frag} {mg : Str → Option Value} {base : Heap}
theorem ruleD_dat (f : Str) (mid : List Str) (n : Nat) : ruleD f mid n = (⟨wordV f, mid.map insV, (n : Int)⟩ : Rule).dat := by
  show Dat.tup [w (wordV f), .tup (mid.map fun q => rowD (insV q)), .int (n : Int)] = .tup [w (wordV f), .tup ((mid.map insV).map rowD), .int (n : Int)]
  rw [List.map_map]
  rfl
theorem insV_bits {q : Str} (h : insT q = true) : (insV q).1.all isB = true ∧ ((insV q).2 = 0 ∨ (insV q).2 = 1) := by
  unfold insT at h
  unfold insV
  generalize Txt.split q " " = l at h ⊢
  rcases l with _ | ⟨a, _ | ⟨b, _ | ⟨c, _ | ⟨d, l⟩⟩⟩⟩ <;> try (cases h; done)
  obtain ⟨h1, h2⟩ := Bool.and_eq_true_iff.mp (show (decide (b = "puts") && (((["0", "1"] : List Str).any fun n => n == c) && wordT a)) = true from h)
  obtain ⟨h3, h4⟩ := Bool.and_eq_true_iff.mp h2
  refine ⟨(wordV_of h4).1, ?_⟩
  show (if c = "0" then (0 : Int) else 1) = 0 ∨ (if c = "0" then (0 : Int) else 1) = 1
  by_cases z : c = "0"
  · rw [if_pos z]
    exact .inl rfl
  · rw [if_neg z]
    exact .inr rfl
/-- a rule whose text is written -/
structure WrW (r : Rule) : Prop where
  flag : r.flag.all isB = true
  f1 : r.flag.length ≤ 1000
  n1 : r.ins.length ≤ 1000
  row : ∀ p ∈ r.ins, p.1.all isB = true ∧ p.1.length ≤ 1000 ∧ (p.2 = 0 ∨ p.2 = 1)
  nat : ∃ n : Nat, r.chk = (n : Int) ∧ (strI (n : Int)).length ≤ 560
/-- what is told of a text of a rule: a rule, and its text again -/
theorem rule_told {a : Str} (ha : a.length ≤ 999) (hs : ∀ k, lastT a = "check " ++ k → numT k = true → k.length ≤ 560) : BadRule a ∨ ∃ r : Rule, isRuleD r.dat = true ∧ R_parse_rule [.str a] r.dat ∧ WrW r ∧ ruleS r = a := by
  rcases rule_cases hs with hb | ⟨f, k, n, kl, hm, hf, wf, hk, nk, n1, ek, ik, hr⟩
  · exact .inl hb
  · refine .inr ⟨⟨wordV f, (midT a).map insV, (n : Int)⟩, by rw [← ruleD_dat]; exact hr, ⟨a, f, k, n, ha, kl, hm, hf, wf, hk, nk, ik, hr, rfl, (ruleD_dat _ _ _).symm⟩, ?_, ?_⟩
    · obtain ⟨v1, v2, v3⟩ := wordV_of wf
      have hp : ∀ p ∈ partsT a, p.length ≤ a.length := fun p h => split_part h
      have hh : (headT a).length ≤ a.length := hp _ (List.head_mem _)
      have fl : f.length ≤ 999 := by
        rw [hf, TL.len_tl, TL.tl_append, List.length_append, ← TL.len_tl, ← TL.len_tl] at hh
        omega
      refine ⟨v1, by show (wordV f).length ≤ 1000; omega, ?_, fun p hp' => ?_, n, rfl, by rw [← ek]; exact kl⟩
      · show ((midT a).map insV).length ≤ 1000
        rw [List.length_map]
        have h1 := split_many (a := a) (b := "; ") (by decide +kernel)
        have h2 : (midT a).length ≤ (partsT a).length := by
          unfold midT cutA
          rw [List.length_take, List.length_drop]
          omega
        have h3 : (partsT a).length ≤ a.length + 1 := h1
        omega
      · obtain ⟨q, hq, rfl⟩ := List.mem_map.mp hp'
        have := hp q (mid_in hq)
        obtain ⟨b1, b2⟩ := insV_bits (hm q hq)
        exact ⟨b1, insV_short (by omega) (hm q hq), b2⟩
    · have := rule_back hm hf wf hk ek
      unfold ruleS partsS
      show Txt.join "; " (("flag " ++ wordS (wordV f)) :: (((midT a).map insV).map insS ++ ["check " ++ strI (n : Int)])) = a
      rw [List.map_map]
      exact this
theorem Wr.wide {r : Rule} (h : Wr r) : WrW r := by
  obtain ⟨n, e⟩ := Int.eq_ofNat_of_zero_le (show 0 ≤ r.chk by have := h.g.chk0; omega)
  have c6 := h.c6
  refine ⟨h.g.flag, by have := h.f16; omega, by have := h.n8; omega, fun p hp => ?_, n, e, ?_⟩
  · obtain ⟨h1, _, _, h4⟩ := h.g.rows p hp
    have z : (0 == p.2 || 1 == p.2) = true := h4
    refine ⟨h1, by have := h.w16 p hp; omega, ?_⟩
    rcases Bool.or_eq_true_iff.mp z with e | e
    · exact .inl (beq_iff_eq.mp e).symm
    · exact .inr (beq_iff_eq.mp e).symm
  · have := (num_read (n := n) (by omega)).2
    omega
end
end Fr

set_option Elab.async false
set_option linter.all false
set_option maxRecDepth 100000
set_option maxHeartbeats 4000000
namespace Fr
open PySem PySem.Spec PyProof.Rows L2
open Evl (Ex)
local macro_rules | `(tactic| walk_at "fr r2") => `(tactic| first
  | exact r2_add | exact r2_sub | exact r2_lt | exact r2_le | exact r2_gt | exact r2_ge | exact r2_eqI | exact r2_neI | exact r2_eqW | exact r2_neW | exact r2_ltT | exact r2_inI | exact r2_isN | exact r2_notN | exact r2_and | (refine r2_modN ?_; omega) | (refine r2_shr ?_; omega))
local macro_rules | `(tactic| walk_at "fr ev") => `(tactic| first
  | exact ev_var rfl | exact ev_w0 | exact ev_int | exact ev_bl | exact ev_non | exact ev_str
  | (refine' ev_isInt ?frh ?frf; (case frh => walk_at "fr ev"); (case frf => first | exact True.intro | assumption)) | (refine' ev_isBool ?frh ?frf; (case frh => walk_at "fr ev"); (case frf => first | exact True.intro | assumption)) | (refine' ev_isTup ?frh ?frf; (case frh => walk_at "fr ev"); (case frf => first | exact True.intro | assumption)) | (refine' ev_isLst ?frh ?frf; (case frh => walk_at "fr ev"); (case frf => first | exact True.intro | assumption)) | (refine' ev_isStr ?frh ?frf; (case frh => walk_at "fr ev"); (case frf => first | exact True.intro | assumption))
  | (apply ev_op; (case ha => walk_at "fr ev"); (case hb => walk_at "fr ev"); (case hr => walk_at "fr r2"))
  | (apply ev_and; (case h1 => walk_at "fr ev"); (case h2 => intro _; walk_at "fr ev"))
  | (apply ev_or; (case h1 => walk_at "fr ev"); (case h2 => intro _; walk_at "fr ev"))
  | (apply ev_not; walk_at "fr ev")
  | (apply ev_lenW; walk_at "fr ev") | (apply ev_lenT; walk_at "fr ev") | (apply ev_sumW; walk_at "fr ev") | (apply ev_neg; walk_at "fr ev") | (apply ev_bits; walk_at "fr ev")
  | (apply ev_cut; (case h => walk_at "fr ev"); (case h1 => walk_at "fr eo"); (case h2 => walk_at "fr eo"))
  | (apply ev_slT; (case h => walk_at "fr ev"); (case h1 => walk_at "fr eo"); (case h2 => walk_at "fr eo"))
  | (apply ev_tup; (case h => walk_at "fr ea"); (case hl => (show _ ≤ sizeLine; decide)))
  | (apply ev_call; (case h => walk_at "fr ea"); (case hR => walk_at "fr call")))
local macro_rules | `(tactic| walk_at "fr ea") => `(tactic| first
  | exact ea_nil
  | (apply ea_cons; (case h => walk_at "fr ev"); (case hr => walk_at "fr ea")))
local macro_rules | `(tactic| walk_at "fr evr") => `(tactic| (refine' ev_is ?frh ?fre; (case frh => walk_at "fr ev"); (case fre => rfl)))
local macro_rules | `(tactic| walk_at "fr eo") => `(tactic| first
  | exact eo_none
  | (apply eo_some; walk_at "fr ev"))
abbrev s__law_is_word : Stmt := topS 72
abbrev N__law_is_word : List Str := ["thing", "least", "bit"]
theorem sc__law_is_word : FnScope N__law_is_word ["thing", "least"] (defScope s__law_is_word) := ⟨rfl, rfl, rfl, by decide +kernel, rfl, by decide +kernel, by decide +kernel⟩
abbrev s__law_is_rule : Stmt := topS 73
abbrev N__law_is_rule : List Str := ["thing", "ahead_here", "row"]
theorem sc__law_is_rule : FnScope N__law_is_rule ["thing"] (defScope s__law_is_rule) := ⟨rfl, rfl, rfl, by decide +kernel, rfl, by decide +kernel, by decide +kernel⟩
section
variable {P : Program} {w0 : World} {K : PySem.W.Frag} {mg : Str → Option Value} {base : Heap}
def lawWord (k : Int) : Dat → Bool
  | .tup ds => !decide ((ds.length : Int) < k) && ds.all isBit
  | _ => false
theorem lawWord_0 (d : Dat) : lawWord 0 d = isWord d := by
  cases d with
  | tup ds =>
    show (!decide ((ds.length : Int) < 0) && ds.all isBit) = ds.all isBit
    rw [decide_eq_false (by omega)]
    rfl
  | _ => rfl
theorem lawWord_1 (d : Dat) : lawWord 1 d = isFull d := by
  cases d with
  | tup ds =>
    show (!decide ((ds.length : Int) < 1) && ds.all isBit) = (ds.all isBit && decide (0 < ds.length))
    by_cases h : 0 < ds.length
    · rw [decide_eq_false (by omega), decide_eq_true h, Bool.and_true]
      rfl
    · rw [decide_eq_true (by omega), decide_eq_false h, Bool.and_false]
      rfl
  | _ => rfl
theorem none_bad : ∀ ds : List Dat, (ds.filter fun d => !isBit d).isEmpty = ds.all isBit
  | [] => rfl
  | d :: ds => by
    rw [List.filter_cons, List.all_cons]
    cases h : isBit d with
    | true => exact none_bad ds
    | false => rfl
def R__law_is_word (K : PySem.W.Frag) (xs : List Dat) (y : Dat) : Prop := ∃ d k, xs = [d, .int k] ∧ Sz K d ∧ y = .bl (lawWord k d)
theorem len__law_is_word {xs : List Dat} {y : Dat} {K : PySem.W.Frag} (h : R__law_is_word K xs y) : xs.length = 2 := by
  obtain ⟨_, _, rfl, _⟩ := h
  rfl
theorem ok__law_is_word {f : Addr} {fd : FuncData} (F : Fun K "_law_is_word" "_law_is_word" s__law_is_word f fd) (T : Bs mg) : FnOk P w0 K mg base CX0 1 f fd ["thing", "least"] (Pr (R__law_is_word K)) := by
  refine fn_pr F sc__law_is_word (fun xs y h => len__law_is_word h) fun cdv A outer s H E hr => ⟨_, (pss_cons (ps_if (PW.pt (pw_or (pt_not (pt_val (pe_callB (call_isiK' (K := K) rfl) (by rfl) T.isinstance (by decide +kernel) (pa_cons (pv 0) (pa_cons (pe_bltn (v := .ty "tuple") (by rfl) T.tuple (by decide +kernel) rfl) pa_nil))))) (pw_or1 (pt_cmpR op_lt (pe_callB (call_lenK (K := K) rfl) (by rfl) T.len PySem.boot_len (pa_cons (pv 0) pa_nil)) (pv 1) (nomark _))))) (pss_one (ps_ret pe_bl)) pss_nil)
      (pss_one (ps_ret (pe_cmpR (op_eqNilK (K := K) rfl hr.units0) (pe_lc (own := [("bit", 2)]) rfl sc__law_is_word.nd (pi_tupK (K := K) rfl (pv 0)) (blkOk_by (own := [("bit", 2)]) (N := N__law_is_word) (sc := defScope s__law_is_word) (by decide +kernel)) (fun _ _ _ _ _ => (pg_name (i := 2) sc__law_is_word.nd rfl (Or.inl rfl))) (fun _ _ _ _ _ => (pts_one (PW.pt (pw_or (pt_not (pt_val (pe_callB (call_isiK' (K := K) rfl) (by rfl) T.isinstance (by decide +kernel) (pa_cons (pv 2) (pa_cons (pe_bltn (v := .ty "int") (by rfl) T.int (by decide +kernel) rfl) pa_nil))))) (pw_or (pt_val (pe_callB (call_isiK' (K := K) rfl) (by rfl) T.isinstance (by decide +kernel) (pa_cons (pv 2) (pa_cons (pe_bltn (v := .ty "bool") (by rfl) T.bool (by decide +kernel) rfl) pa_nil)))) (pw_or (pt_cmpR op_lt (pv 2) pe_int (nomark _)) (pw_or1 (pt_cmpR op_gt (pv 2) pe_int (nomark _))))))))) (fun _ _ _ _ _ => (pv 2))) (pe_lst pa_nil) (nomark _))))), ?_⟩
  rintro xs y ⟨d, k, rfl, hz, rfl⟩
  have hf : Fine K d := hz.fine
  cases d with
  | tup ds =>
    by_cases hk : (ds.length : Int) < k
    · refine run_seq (M := fun _ => False) (run_if (b := true) (et_is (et_or (a := false) (b := true) (et_not (a := true) (et_B (by walk_at "fr evr"))) fun _ => et_is (et_test (ev_op (ev_lenT (ev_var rfl)) (ev_var rfl) r2_lt)) (decide_eq_true hk)) rfl) (fun _ => run_ret ev_bl ?_) (fun z => by cases z)) (fun _ z => z.elim)
      show Dat.bl false = Dat.bl (!decide ((ds.length : Int) < k) && ds.all isBit)
      rw [decide_eq_true hk]
      rfl
    · refine run_seq1 (run_if (b := false) (et_is (et_or (a := false) (b := false) (et_not (a := true) (et_B (by walk_at "fr evr"))) fun _ => et_is (et_test (ev_op (ev_lenT (ev_var rfl)) (ev_var rfl) r2_lt)) (decide_eq_false hk)) rfl) (fun z => by cases z) fun _ => run_next rfl) ?_
      refine run_ret (ev_is (ev_op (ev_ofN (en_is (en_lcT (js := [2]) (l := ds) (enc := id) (f := fun d => !isBit d) (v := id) (ev_is (ev_var rfl) (congrArg Dat.tup (List.map_id _).symm)) (by decide) (big hz.1) fun d hd => ⟨_, tg_name 2, ?_, fun _ => ev_var rfl⟩) (List.map_id _))) (ev_ofN (en_lst ea_nil (Nat.zero_le _))) r2_eqNilA) ?_) rfl
      · have hfd : Fine K d := hz.2 d hd
        cases d with
        | int i =>
          refine et_is (et_or (a := false) (et_not (a := true) (et_B (by walk_at "fr evr"))) fun _ => et_or (a := false) (et_B (by walk_at "fr evr")) fun _ => et_or (et_test (ev_op (ev_var rfl) ev_int r2_lt)) fun _ => et_test (ev_op (ev_var rfl) ev_int r2_gt)) ?_
          show (false || (false || (decide (i < 0) || decide (1 < i)))) = !(0 == i || 1 == i)
          rw [Bool.false_or, Bool.false_or, Bool.not_or]
          by_cases h0 : i = 0
          · subst h0
            rfl
          by_cases h1 : i = 1
          · subst h1
            rfl
          rw [beq_false_of_ne (fun z => h0 z.symm), beq_false_of_ne (fun z => h1 z.symm)]
          by_cases h : i < 0
          · rw [decide_eq_true h]
            rfl
          · rw [decide_eq_true (show 1 < i by omega), Bool.or_true]
            rfl
        | bl b => exact et_is (et_or (a := false) (b := true) (et_not (a := true) (et_B (by walk_at "fr evr"))) fun _ => et_is (et_or (a := true) (b := true) (et_B (by walk_at "fr evr")) fun z => by cases z) rfl) rfl
        | _ => exact et_is (et_or (a := true) (b := true) (et_not (a := false) (et_B (by walk_at "fr evr"))) fun z => by cases z) rfl
      · show Dat.bl _ = Dat.bl (!decide ((ds.length : Int) < k) && ds.all isBit)
        rw [none_bad, decide_eq_false hk]
        rfl
  | _ => exact run_seq (M := fun _ => False) (run_if (b := true) (et_is (et_or (a := true) (b := false) (et_not (a := false) (et_B (by walk_at "fr evr"))) (fun z => by cases z)) rfl) (fun _ => run_ret ev_bl rfl) (fun z => by cases z)) (fun _ z => z.elim)
def lawGo : List Int → List Dat → Bool
  | _, [] => true
  | a, d :: ds => isIns d && (HT.lexLt a (wordOf d) && lawGo (wordOf d) ds)
theorem lawGo_is : ∀ (a : List Int) (ds : List Dat), lawGo a ds = (ds.all isIns && ascGo a (ds.map wordOf))
  | _, [] => rfl
  | a, d :: ds => by
    show (isIns d && (HT.lexLt a (wordOf d) && lawGo (wordOf d) ds)) = ((isIns d && ds.all isIns) && (HT.lexLt a (wordOf d) && ascGo (wordOf d) (ds.map wordOf)))
    rw [lawGo_is (wordOf d) ds]
    cases isIns d <;> cases HT.lexLt a (wordOf d) <;> cases ds.all isIns <;> rfl
theorem lawGo_inss (ds : List Dat) : lawGo [] ds = isInss (.tup ds) := by
  show lawGo [] ds = (ds.all isIns && asc (ds.map wordOf))
  rw [lawGo_is]
  cases ds with
  | nil => rfl
  | cons d ds =>
    cases h : isIns d with
    | false =>
      rw [List.all_cons, h]
      rfl
    | true =>
      obtain ⟨p, rfl, hp⟩ := ins_of h
      have e : HT.lexLt [] (wordOf (rowD p)) = true := by
        rw [wordOf_row]
        cases q : p.1 with
        | nil =>
          have := hp.some
          rw [q] at this
          exact absurd this (Nat.lt_irrefl 0)
        | cons b bs => rfl
      show ((_ && _) && (HT.lexLt [] (wordOf (rowD p)) && ascGo (wordOf (rowD p)) (ds.map wordOf))) = _
      rw [e, Bool.true_and]
      rfl
theorem lawWord_one (v : Dat) : lawWord 1 (.tup [v]) = isBit v := by
  show (!decide (((1 : Nat) : Int) < 1) && (isBit v && true)) = isBit v
  rw [Bool.and_true]
  rfl
def R__law_is_rule (K : PySem.W.Frag) (xs : List Dat) (y : Dat) : Prop := ∃ d, xs = [d] ∧ Sz3 K d ∧ y = .bl (isRuleD d)
theorem len__law_is_rule {xs : List Dat} {y : Dat} {K : PySem.W.Frag} (h : R__law_is_rule K xs y) : xs.length = 1 := by
  obtain ⟨_, rfl, _⟩ := h
  rfl
theorem ok__law_is_rule {f : Addr} {fd : FuncData} (F : Fun K "_law_is_rule" "_law_is_rule" s__law_is_rule f fd) {f__law_is_word : Addr} {d__law_is_word : FuncData} (C__law_is_word : Cal P w0 K mg base "_law_is_word" ["thing", "least"] 1 (R__law_is_word K) f__law_is_word d__law_is_word) (T : Bs mg) : FnOk P w0 K mg base CX0 2 f fd ["thing"] (Pr (R__law_is_rule K)) := by
  refine fn_pr F sc__law_is_rule (fun xs y h => len__law_is_rule h) fun cdv A outer s H E hr => ⟨_, (pss_cons (ps_if (PW.pt (pw_or (pt_not (pt_val (pe_callB (call_isiK' (K := K) rfl) (by rfl) T.isinstance (by decide +kernel) (pa_cons (pv 0) (pa_cons (pe_bltn (v := .ty "tuple") (by rfl) T.tuple (by decide +kernel) rfl) pa_nil))))) (pw_or1 (pt_cmpR op_ne (pe_callB (call_lenK (K := K) rfl) (by rfl) T.len PySem.boot_len (pa_cons (pv 0) pa_nil)) pe_int (nomark _))))) (pss_one (ps_ret pe_bl)) pss_nil)
      (pss_cons (ps_if (PW.pt (pw_or (pt_not (pt_val (pe_call C__law_is_word.ok (hr.mono (by decide)) rfl C__law_is_word.at_ C__law_is_word.kp C__law_is_word.bd .nil pass0 (pa_cons (pe_ix (ix_tupK (K := K) rfl) (pv 0) pe_int (fun _ _ => rfl)) (pa_cons pe_int pa_nil))))) (pw_or1 (pt_not (pt_val (pe_callB (call_isiK' (K := K) rfl) (by rfl) T.isinstance (by decide +kernel) (pa_cons (pe_ix (ix_tupK (K := K) rfl) (pv 0) pe_int (fun _ _ => rfl)) (pa_cons (pe_bltn (v := .ty "tuple") (by rfl) T.tuple (by decide +kernel) rfl) pa_nil)))))))) (pss_one (ps_ret pe_bl)) pss_nil)
      (pss_cons (ps_set (i := 1) sc__law_is_rule.nd rfl (Or.inl rfl) (pe_tup pa_nil))
      (pss_cons (ps_for PassesOwn.never rfl (pi_tupK (K := K) rfl (pe_ix (ix_tupK (K := K) rfl) (pv 0) pe_int (fun _ _ => rfl))) (pg_name (i := 2) sc__law_is_rule.nd rfl (Or.inl rfl)) (pss_cons (ps_if (PW.pt (pw_or (pt_not (pt_val (pe_callB (call_isiK' (K := K) rfl) (by rfl) T.isinstance (by decide +kernel) (pa_cons (pv 2) (pa_cons (pe_bltn (v := .ty "tuple") (by rfl) T.tuple (by decide +kernel) rfl) pa_nil))))) (pw_or (pt_cmpR op_ne (pe_callB (call_lenK (K := K) rfl) (by rfl) T.len PySem.boot_len (pa_cons (pv 2) pa_nil)) pe_int (nomark _)) (pw_or (pt_not (pt_val (pe_call C__law_is_word.ok (hr.mono (by decide)) rfl C__law_is_word.at_ C__law_is_word.kp C__law_is_word.bd .nil pass0 (pa_cons (pe_ix (ix_tupK (K := K) rfl) (pv 2) pe_int (fun _ _ => rfl)) (pa_cons pe_int pa_nil))))) (pw_or1 (pt_not (pt_val (pe_call C__law_is_word.ok (hr.mono (by decide)) rfl C__law_is_word.at_ C__law_is_word.kp C__law_is_word.bd .nil pass0 (pa_cons (pe_tup (pa_cons (pe_ix (ix_tupK (K := K) rfl) (pv 2) pe_int (fun _ _ => rfl)) pa_nil)) (pa_cons pe_int pa_nil)))))))))) (pss_one (ps_ret pe_bl)) pss_nil)
      (pss_cons (ps_if (pt_cmpR (op_leK (K := K) rfl hr.units0) (pe_ix (ix_tupK (K := K) rfl) (pv 2) pe_int (fun _ _ => rfl)) (pv 1) (nomark _)) (pss_one (ps_ret pe_bl)) pss_nil)
      (pss_one (ps_set (i := 1) sc__law_is_rule.nd rfl (Or.inl rfl) (pe_ix (ix_tupK (K := K) rfl) (pv 2) pe_int (fun _ _ => rfl)))))))
      (pss_one (ps_ret (pe_and (pe_callB (call_isiK' (K := K) rfl) (by rfl) T.isinstance (by decide +kernel) (pa_cons (pe_ix (ix_tupK (K := K) rfl) (pv 0) pe_int (fun _ _ => rfl)) (pa_cons (pe_bltn (v := .ty "int") (by rfl) T.int (by decide +kernel) rfl) pa_nil))) (pe_and (pe_not (pe_callB (call_isiK' (K := K) rfl) (by rfl) T.isinstance (by decide +kernel) (pa_cons (pe_ix (ix_tupK (K := K) rfl) (pv 0) pe_int (fun _ _ => rfl)) (pa_cons (pe_bltn (v := .ty "bool") (by rfl) T.bool (by decide +kernel) rfl) pa_nil)))) (pe_one (pe_cmpR op_ge (pe_ix (ix_tupK (K := K) rfl) (pv 0) pe_int (fun _ _ => rfl)) pe_int (nomark _))))))))))), ?_⟩
  rintro xs y ⟨d, rfl, hz, rfl⟩
  have hf : Fine K d := hz.to.to.to.fine
  cases d with
  | tup ds =>
    rcases ds with _ | ⟨a, _ | ⟨b, _ | ⟨c, _ | ⟨e, r⟩⟩⟩⟩
    case nil => exact run_seq (M := fun _ => False) (run_if (b := true) (et_is (et_or (a := false) (b := true) (et_not (a := true) (et_B (by walk_at "fr evr"))) fun _ => et_test (by walk_at "fr evr")) rfl) (fun _ => run_ret ev_bl rfl) (fun z => by cases z)) (fun _ z => z.elim)
    case cons.nil => exact run_seq (M := fun _ => False) (run_if (b := true) (et_is (et_or (a := false) (b := true) (et_not (a := true) (et_B (by walk_at "fr evr"))) fun _ => et_test (by walk_at "fr evr")) rfl) (fun _ => run_ret ev_bl rfl) (fun z => by cases z)) (fun _ z => z.elim)
    case cons.cons.nil => exact run_seq (M := fun _ => False) (run_if (b := true) (et_is (et_or (a := false) (b := true) (et_not (a := true) (et_B (by walk_at "fr evr"))) fun _ => et_test (by walk_at "fr evr")) rfl) (fun _ => run_ret ev_bl rfl) (fun z => by cases z)) (fun _ z => z.elim)
    case cons.cons.cons.cons =>
      refine run_seq (M := fun _ => False) (run_if (b := true) (et_is (et_or (a := false) (b := true) (et_not (a := true) (et_B (by walk_at "fr evr"))) fun _ => et_is (et_test (ev_op (ev_lenT (ev_var rfl)) ev_int r2_neI)) ?_) rfl) (fun _ => run_ret ev_bl rfl) (fun z => by cases z)) (fun _ z => z.elim)
      show (!decide (((r.length + 1 + 1 + 1 + 1 : Nat) : Int) = 3)) = true
      rw [decide_eq_false (by omega)]
      rfl
    case cons.cons.cons.nil =>
      have hcF : Fine K c := (hz.2 c (List.mem_cons_of_mem _ (List.mem_cons_of_mem _ List.mem_cons_self))).to.to.fine
      have ha : Sz K a := (hz.2 a List.mem_cons_self).to.to
      have hb : Sz2 K b := hz.2 b (List.mem_cons_of_mem _ List.mem_cons_self)
      refine run_seq1 (run_if (b := false) (et_or (a := false) (et_not (a := true) (et_B (by walk_at "fr evr"))) fun _ => et_test (by walk_at "fr evr")) (fun z => by cases z) fun _ => run_next rfl) ?_
      cases hfa : isFull a with
      | false =>
        refine run_seq (M := fun _ => False) (run_if (b := true) (et_is (et_or (a := true) (b := true) (et_not (a := false) (et_B (ev_is (ev_call (ea_cons (ev_op (ev_var rfl) ev_int (r2_ixT (z := a) rfl)) (ea_cons ev_int ea_nil)) ⟨a, 1, rfl, ha, rfl⟩) (by rw [lawWord_1, hfa])))) fun z => by cases z) rfl) (fun _ => run_ret ev_bl ?_) (fun z => by cases z)) (fun _ z => z.elim)
        show Dat.bl false = Dat.bl (isFull a && _)
        rw [hfa]
        rfl
      | true =>
      have f1 : ∀ {γ : Gam} {te : TE}, EvD te γ (.bl (lawWord 1 a)) → EvD te γ (.bl true) := fun h => ev_is h (by rw [lawWord_1, hfa])
      cases b with
      | tup bs =>
        refine run_seq1 (run_if (b := false) (et_or (a := false) (b := false) (et_not (a := true) (et_B (f1 (ev_call (ea_cons (ev_op (ev_var rfl) ev_int (r2_ixT (z := a) rfl)) (ea_cons ev_int ea_nil)) ⟨a, 1, rfl, ha, rfl⟩)))) fun _ => et_not (a := true) (et_B (ev_is (ev_isTup (ev_op (ev_var rfl) ev_int (r2_ixT (z := .tup bs) rfl))) rfl))) (fun z => by cases z) fun _ => run_next rfl) ?_
        refine run_seq1 (run_asg ev_w0 rfl) ?_
        have hdrop : ∀ {x : Dat} {i : Nat}, bs[i]? = some x → bs.drop i = x :: bs.drop (i + 1) := fun {x i} hx => by
          obtain ⟨h1, rfl⟩ := List.getElem?_eq_some_iff.mp hx
          exact List.drop_eq_getElem_cons h1
        have no : ∀ {x : Dat} {i : Nat} {a1 : List Int}, lawGo [] bs = lawGo a1 (bs.drop i) → bs[i]? = some x → (isIns x && HT.lexLt a1 (wordOf x)) = false → Dat.bl false = Dat.bl (isRuleD (.tup [a, .tup bs, c])) := fun {x i a1} hg hx h => by
          have hd := hdrop hx
          show Dat.bl false = Dat.bl (isFull a && (isInss (.tup bs) && _))
          rw [← lawGo_inss, hg, hd]
          show Dat.bl false = Dat.bl (isFull a && ((isIns x && (HT.lexLt a1 (wordOf x) && _)) && _))
          rw [← Bool.and_assoc (isIns x), h]
          cases isFull a <;> rfl
        refine run_seqC (run_forT (xs := bs) (ev_op (ev_var rfl) ev_int (r2_ixT (z := .tup bs) rfl)) (fun i δ => ∃ a1 s2, δ = [.d (.tup [a, .tup bs, c]), .d (w a1), s2] ∧ lawGo [] bs = lawGo a1 (bs.drop i)) ⟨[], _, rfl, rfl⟩ ?_ ?_)
        · rintro i x δ hx ⟨a1, s2, rfl, hg⟩
          refine ⟨_, _, tg_name 2, ?_⟩
          have hx1 : Sz1 K x := hb.2 x (List.mem_of_getElem? hx)
          have hxF : Fine K x := hx1.to.fine
          cases hi : isIns x with
          | false =>
            have no1 := no hg hx (by rw [hi]; rfl)
            refine run_seq (M := fun _ => False) (run_if (b := true) ?_ (fun _ => run_ret ev_bl no1) (fun z => by cases z)) (fun _ z => z.elim)
            cases x with
            | tup es =>
              rcases es with _ | ⟨u, _ | ⟨v, _ | ⟨z, r⟩⟩⟩
              · exact et_is (et_or (a := false) (b := true) (et_not (a := true) (et_B (by walk_at "fr evr"))) fun _ => et_is (et_or (a := true) (b := true) (et_test (by walk_at "fr evr")) fun z => by cases z) rfl) rfl
              · exact et_is (et_or (a := false) (b := true) (et_not (a := true) (et_B (by walk_at "fr evr"))) fun _ => et_is (et_or (a := true) (b := true) (et_test (by walk_at "fr evr")) fun z => by cases z) rfl) rfl
              · have hvF : Fine K v := (hx1.2 v (List.mem_cons_of_mem _ List.mem_cons_self)).fine
                have hu : Sz K u := hx1.2 u List.mem_cons_self
                have hi2 : (isFull u && isBit v) = false := hi
                refine et_is (et_or (a := false) (et_not (a := true) (et_B (by walk_at "fr evr"))) fun _ => et_or (a := false) (et_test (by walk_at "fr evr")) fun _ => et_or (et_not (et_B (ev_call (ea_cons (ev_op (ev_var rfl) ev_int (r2_ixT (z := u) rfl)) (ea_cons ev_int ea_nil)) ⟨u, 1, rfl, hu, rfl⟩))) fun _ => et_not (et_B (ev_call (ea_cons (ev_tup (ea_cons (ev_op (ev_var rfl) ev_int (r2_ixT (z := v) rfl)) ea_nil) (by show 1 ≤ sizeLine; decide)) (ea_cons ev_int ea_nil)) ⟨.tup [v], 1, rfl, ⟨(by show 1 ≤ 1000000; decide), fun e he => by rw [List.mem_singleton.mp he]; exact hvF⟩, rfl⟩))) ?_
                rw [lawWord_1, lawWord_one]
                revert hi2
                cases isFull u <;> cases isBit v <;> intro h <;> first | rfl | cases h
              · refine et_is (et_or (a := false) (b := true) (et_not (a := true) (et_B (by walk_at "fr evr"))) fun _ => et_is (et_or (a := true) (b := true) (et_is (et_test (ev_op (ev_lenT (ev_var rfl)) ev_int r2_neI)) ?_) fun z => by cases z) rfl) rfl
                show (!decide (((r.length + 1 + 1 + 1 : Nat) : Int) = 2)) = true
                rw [decide_eq_false (by omega)]
                rfl
            | _ => exact et_is (et_or (a := true) (b := true) (et_not (a := false) (et_B (by walk_at "fr evr"))) fun z => by cases z) rfl
          | true =>
            obtain ⟨p, rfl, hp⟩ := ins_of hi
            obtain ⟨u, v, hu0, hv0⟩ : ∃ u v, w p.1 = u ∧ Dat.int p.2 = v := ⟨_, _, rfl, rfl⟩
            have hxe : rowD p = .tup [u, v] := by rw [← hu0, ← hv0]; rfl
            have hi2 : (isFull u && isBit v) = true := by rw [hxe] at hi; exact hi
            have hvF : Fine K v := by rw [hxe] at hx1; exact (hx1.2 v (List.mem_cons_of_mem _ List.mem_cons_self)).fine
            have hu : Sz K u := by rw [hxe] at hx1; exact hx1.2 u List.mem_cons_self
            rw [Bool.and_eq_true] at hi2
            refine run_seq1 (run_if (b := false) ?_ (fun z => by cases z) fun _ => run_next rfl) ?_
            · rw [hxe]
              refine et_is (et_or (a := false) (et_not (a := true) (et_B (by walk_at "fr evr"))) fun _ => et_or (a := false) (et_test (by walk_at "fr evr")) fun _ => et_or (et_not (et_B (ev_call (ea_cons (ev_op (ev_var rfl) ev_int (r2_ixT (z := u) rfl)) (ea_cons ev_int ea_nil)) ⟨u, 1, rfl, hu, rfl⟩))) fun _ => et_not (et_B (ev_call (ea_cons (ev_tup (ea_cons (ev_op (ev_var rfl) ev_int (r2_ixT (z := v) rfl)) ea_nil) (by show 1 ≤ sizeLine; decide)) (ea_cons ev_int ea_nil)) ⟨.tup [v], 1, rfl, ⟨(by show 1 ≤ 1000000; decide), fun e he => by rw [List.mem_singleton.mp he]; exact hvF⟩, rfl⟩))) ?_
              rw [lawWord_1, lawWord_one, hi2.1, hi2.2]
              rfl
            cases hl : HT.lexLt a1 p.1 with
            | false => exact run_seq (M := fun _ => False) (run_if (b := true) (et_is (et_test (ev_op (ev_op (ev_var rfl) ev_int (r2_ixT (z := w p.1) rfl)) (ev_var rfl) r2_leT)) (by rw [hl]; rfl)) (fun _ => run_ret ev_bl (no hg hx (by rw [wordOf_row, hl, Bool.and_false]))) (fun z => by cases z)) (fun _ z => z.elim)
            | true =>
              refine run_seq1 (run_if (b := false) (et_is (et_test (ev_op (ev_op (ev_var rfl) ev_int (r2_ixT (z := w p.1) rfl)) (ev_var rfl) r2_leT)) (by rw [hl]; rfl)) (fun z => by cases z) fun _ => run_next rfl) ?_
              refine run_asg (ev_op (ev_var rfl) ev_int (r2_ixT (z := w p.1) rfl)) ⟨p.1, _, rfl, hg.trans ?_⟩
              rw [hdrop hx]
              show (isIns (rowD p) && (HT.lexLt a1 (wordOf (rowD p)) && lawGo (wordOf (rowD p)) _)) = _
              rw [hi, wordOf_row, hl]
              rfl
        · rintro δ ⟨a1, s2, rfl, hg⟩
          rw [List.drop_length] at hg
          have hI : isInss (.tup bs) = true := by
            rw [← lawGo_inss, hg]
            rfl
          cases c with
          | int j =>
            refine run_ret (ev_is (ev_and (a := true) (ev_is (ev_isInt (ev_op (ev_var rfl) ev_int (r2_ixT (z := .int j) rfl))) rfl) fun _ => ev_and (a := true) (ev_is (ev_not (ev_isBool (ev_op (ev_var rfl) ev_int (r2_ixT (z := .int j) rfl)))) rfl) fun _ => ev_op (ev_op (ev_var rfl) ev_int (r2_ixT (z := .int j) rfl)) ev_int r2_ge) ?_) rfl
            show Dat.bl (true && (true && decide (1 ≤ j))) = Dat.bl (isFull a && (isInss (.tup bs) && (true && decide (1 ≤ j))))
            rw [hfa, hI]
            rfl
          | bl q =>
            refine run_ret (ev_is (ev_and (a := true) (b := false) (ev_is (ev_isInt (ev_op (ev_var rfl) ev_int (r2_ixT (z := .bl q) rfl))) rfl) fun _ => ev_is (ev_and (a := false) (b := false) (ev_is (ev_not (ev_isBool (ev_op (ev_var rfl) ev_int (r2_ixT (z := .bl q) rfl)))) rfl) fun z => by cases z) rfl) ?_) rfl
            show Dat.bl false = Dat.bl (isFull a && (isInss (.tup bs) && (false && _)))
            rw [hfa, hI]
            rfl
          | _ =>
            refine run_ret (ev_is (ev_and (a := false) (b := false) (ev_is (ev_isInt (ev_op (ev_var rfl) ev_int (r2_ixT rfl))) rfl) fun z => by cases z) ?_) rfl
            show Dat.bl false = Dat.bl (isFull a && (isInss (.tup bs) && (false && _)))
            rw [hfa, hI]
            rfl
      | _ =>
        refine run_seq (M := fun _ => False) (run_if (b := true) (et_is (et_or (a := false) (b := true) (et_not (a := true) (et_B (f1 (ev_call (ea_cons (ev_op (ev_var rfl) ev_int (r2_ixT (z := a) rfl)) (ea_cons ev_int ea_nil)) ⟨a, 1, rfl, ha, rfl⟩)))) fun _ => et_not (a := false) (et_B (ev_is (ev_isTup (ev_op (ev_var rfl) ev_int (r2_ixT rfl))) rfl))) rfl) (fun _ => run_ret ev_bl ?_) (fun z => by cases z)) (fun _ z => z.elim)
        show Dat.bl false = Dat.bl (isFull a && (false && _))
        rw [hfa]
        rfl
  | _ => exact run_seq (M := fun _ => False) (run_if (b := true) (et_is (et_or (a := true) (b := false) (et_not (a := false) (et_B (by walk_at "fr evr"))) (fun z => by cases z)) rfl) (fun _ => run_ret ev_bl rfl) (fun z => by cases z)) (fun _ z => z.elim)
end
end Fr

set_option Elab.async false
set_option linter.all false
set_option maxRecDepth 100000
set_option maxHeartbeats 4000000
namespace Fr
open PySem PySem.Spec PyProof.Rows L2
open Evl (Ex)
abbrev s__law_word_line : Stmt := topS 77
abbrev N__law_word_line : List Str := ["word", "bit"]
theorem sc__law_word_line : FnScope N__law_word_line ["word"] (defScope s__law_word_line) := ⟨rfl, rfl, rfl, by decide +kernel, rfl, by decide +kernel, by decide +kernel⟩
abbrev s__law_rule_line : Stmt := topS 78
abbrev N__law_rule_line : List Str := ["rule_here", "words", "row"]
theorem sc__law_rule_line : FnScope N__law_rule_line ["rule_here"] (defScope s__law_rule_line) := ⟨rfl, rfl, rfl, by decide +kernel, rfl, by decide +kernel, by decide +kernel⟩
abbrev s__law_list_line : Stmt := topS 79
abbrev N__law_list_line : List Str := ["many", "word"]
theorem sc__law_list_line : FnScope N__law_list_line ["many"] (defScope s__law_list_line) := ⟨rfl, rfl, rfl, by decide +kernel, rfl, by decide +kernel, by decide +kernel⟩
section
variable {P : Program} {w0 : World} {K : PySem.W.Frag} {mg : Str → Option Value} {base : Heap}
theorem word_join {ns : List Int} (h : ∀ b ∈ ns, b = 0 ∨ b = 1) (hl : ns.length ≤ 1000) : ((ns.map strI).map (·.length)).sum + (ns.map strI).length * ("" : Str).length ≤ 16777216 := by
  have h1 : ∀ s ∈ ns.map strI, s.length ≤ 1 := fun s hs => by
    obtain ⟨b, hb, rfl⟩ := List.mem_map.mp hs
    rw [TL.len_tl, tl_bit (h b hb)]
    exact Nat.le_refl 1
  have h2 := sum_le _ h1
  have h3 : ("" : Str).length = 0 := by decide +kernel
  rw [List.length_map] at h2
  rw [h3]
  omega
theorem bit_log {b : Int} (h : b = 0 ∨ b = 1) : b.natAbs.log2 < 1920 := log_mil (by rcases h with rfl | rfl <;> decide)
def R__law_word_line (xs : List Dat) (y : Dat) : Prop := ∃ ns : List Int, ns.all isB = true ∧ ns.length ≤ 1000 ∧ xs = [w ns] ∧ y = .str (wordS ns)
theorem len__law_word_line {xs : List Dat} {y : Dat} (h : R__law_word_line xs y) : xs.length = 1 := by
  obtain ⟨_, _, _, rfl, _⟩ := h
  rfl
theorem ok__law_word_line {f : Addr} {fd : FuncData} (F : Fun K "_law_word_line" "_law_word_line" s__law_word_line f fd) (T : Bs mg) : FnOk P w0 K mg base CX0 1 f fd ["word"] (Pr R__law_word_line) := by
  refine fn_pr F sc__law_word_line (fun xs y h => len__law_word_line h) fun cdv A outer s H E hr => ⟨_, (pss_one (ps_ret (pe_ifExp (pt_cmpR (op_neK (K := K) rfl hr.units) (pv 0) (pe_tup pa_nil) (nomark _)) (pe_m1 PySem.F.slot_str_join PySem.F.type_str_join (mt_joinK (K := K) rfl) pe_str (pe_lc (own := [("bit", 1)]) rfl sc__law_word_line.nd (pi_tupK (K := K) rfl (pv 0)) (blkOk_by (own := [("bit", 1)]) (N := N__law_word_line) (sc := defScope s__law_word_line) (by decide +kernel)) (fun _ _ _ _ _ => (pg_name (i := 1) sc__law_word_line.nd rfl (Or.inl rfl))) (fun _ _ _ _ _ => pts_nil) (fun _ _ _ _ _ => (pe_callTy cr_strI (by rfl) T.str (by decide +kernel) (pa_cons (pv 1) pa_nil))))) pe_str))), ?_⟩
  rintro xs y ⟨ns, hb, hl, rfl, rfl⟩
  have h01 := b01 hb
  have bg := big (n := ns.length) (by omega)
  by_cases hn : ns = []
  · subst hn
    exact run_ret (ev_is (ev_if (b := false) (x := .str "") (y := .str "-") (et_is (et_test (ev_op (ev_var rfl) ev_w0 (r2_neW (ns := [])))) rfl) (fun z => by cases z) fun _ => ev_str) rfl) (congrArg Dat.str wordS_nil).symm
  · refine run_ret (ev_is (ev_if (b := true) (y := .str "-") (et_is (et_test (ev_op (ev_var rfl) ev_w0 (r2_neW (ns := ns) (ms := [])))) (by rw [decide_eq_false hn]; rfl)) (fun _ => ev_join (ys := ns.map strI) ev_str (er_is (er_ofN (en_lcT (js := [1]) (l := ns) (enc := Dat.int) (f := fun _ => true) (v := fun b => .str (strI b)) (ev_var rfl) (by decide) bg fun b hbm => ⟨_, tg_name 1, et_yes, fun _ => ev_strI (ev_var rfl) (bit_log (h01 b hbm))⟩)) ?_) (word_join h01 hl)) fun z => by cases z) rfl) ?_
    · rw [filter_yes, List.map_map]
      rfl
    · show Dat.str (Txt.join "" (ns.map strI)) = Dat.str (wordS ns)
      unfold wordS
      rw [if_neg hn]
/-! ## how great a number of so many digits is -/
theorem numL_pow : ∀ (k n : Nat), (TL.numL n).length ≤ k → n < 10 ^ k := fun k => by
  induction k with
  | zero =>
    intro n h
    exfalso
    by_cases z : n < 10
    · rw [TL.numL_lt z] at h
      exact absurd h (by simp)
    · rw [TL.numL_step (by omega), List.length_append] at h
      exact absurd h (by simp)
  | succ k ih =>
    intro n h
    by_cases z : n < 10
    · have : 10 ^ (k + 1) = 10 ^ k * 10 := Nat.pow_succ ..
      have := Nat.pow_pos (n := k) (show 0 < 10 by decide)
      omega
    · rw [TL.numL_step (by omega), List.length_append] at h
      have := ih (n / 10) (by simp at h; omega)
      have : 10 ^ (k + 1) = 10 ^ k * 10 := Nat.pow_succ ..
      omega
theorem num_log {n : Nat} (h : (strI (n : Int)).length ≤ 560) : ((n : Int)).natAbs.log2 < 1920 := log_small (by
  rw [Int.natAbs_natCast]
  rw [TL.len_tl, tl_strI] at h
  exact Nat.lt_of_lt_of_le (numL_pow 560 n h) (by decide +kernel))
theorem len_add (a b : Str) : (a ++ b).length = a.length + b.length := by rw [TL.len_tl, TL.tl_append, List.length_append, ← TL.len_tl, ← TL.len_tl]
theorem l_flag : ("flag " : Str).length = 5 := by decide +kernel
theorem l_puts : (" puts " : Str).length = 6 := by decide +kernel
theorem l_check : ("check " : Str).length = 6 := by decide +kernel
theorem l_sepR : sepR.length = 2 := by decide +kernel
theorem l_sepW : sepW.length = 1 := by decide +kernel
theorem bit_len {b : Int} (h : b = 0 ∨ b = 1) : (strI b).length = 1 := by
  rw [TL.len_tl, tl_bit h]
  rfl
theorem WrW.len {r : Rule} (h : WrW r) : ∀ s ∈ partsS r, s.length ≤ 1100 := fun s hs => by
  rcases List.mem_cons.mp hs with rfl | hs
  · rw [len_add, l_flag]
    have := word_len (b01 h.flag)
    have := h.f1
    omega
  rcases List.mem_append.mp hs with hs | hs
  · obtain ⟨p, hp, rfl⟩ := List.mem_map.mp hs
    obtain ⟨h1, h2, h3⟩ := h.row p hp
    unfold insS
    rw [len_add, len_add, l_puts, bit_len h3]
    have := word_len (b01 h1)
    omega
  · rw [List.mem_singleton.mp hs, len_add, l_check]
    obtain ⟨n, e, n1⟩ := h.nat
    rw [e]
    omega
theorem WrW.sum {r : Rule} (h : WrW r) : ((partsS r).map (·.length)).sum + (partsS r).length * sepR.length ≤ 16777216 := by
  have h1 := sum_le _ h.len
  have h2 := h.n1
  have e : (partsS r).length = r.ins.length + 2 := by
    unfold partsS
    rw [List.length_cons, List.length_append, List.length_map, List.length_singleton]
  rw [e] at h1
  rw [e, l_sepR]
  omega
def R__law_rule_line (xs : List Dat) (y : Dat) : Prop := ∃ r : Rule, WrW r ∧ xs = [r.dat] ∧ y = .str (ruleS r)
theorem len__law_rule_line {xs : List Dat} {y : Dat} (h : R__law_rule_line xs y) : xs.length = 1 := by
  obtain ⟨_, _, rfl, _⟩ := h
  rfl
theorem ok__law_rule_line {f : Addr} {fd : FuncData} (F : Fun K "_law_rule_line" "_law_rule_line" s__law_rule_line f fd) {f__law_word_line : Addr} {d__law_word_line : FuncData} (C__law_word_line : Cal P w0 K mg base "_law_word_line" ["word"] 1 R__law_word_line f__law_word_line d__law_word_line) (T : Bs mg) : FnOk P w0 K mg base CX0 2 f fd ["rule_here"] (Pr R__law_rule_line) := by
  refine fn_pr F sc__law_rule_line (fun xs y h => len__law_rule_line h) fun cdv A outer s H E hr => ⟨_, (pss_cons (ps_set (i := 1) sc__law_rule_line.nd rfl (Or.inl rfl) (pe_lst (pa_cons (pe_op op_catS2 pe_str (pe_call C__law_word_line.ok (hr.mono (by decide)) rfl C__law_word_line.at_ C__law_word_line.kp C__law_word_line.bd .nil pass0 (pa_cons (pe_ix (ix_tupK (K := K) rfl) (pv 0) pe_int (fun _ _ => rfl)) pa_nil))) pa_nil)))
      (pss_cons (ps_set (i := 1) sc__law_rule_line.nd rfl (Or.inl rfl) (pe_op op_cat (pv 1) (pe_lc (own := [("row", 2)]) rfl sc__law_rule_line.nd (pi_tupK (K := K) rfl (pe_ix (ix_tupK (K := K) rfl) (pv 0) pe_int (fun _ _ => rfl))) (blkOk_by (own := [("row", 2)]) (N := N__law_rule_line) (sc := defScope s__law_rule_line) (by decide +kernel)) (fun _ _ _ _ _ => (pg_name (i := 2) sc__law_rule_line.nd rfl (Or.inl rfl))) (fun _ _ _ _ _ => pts_nil) (fun _ _ _ _ _ => (pe_op op_catS2 (pe_op op_catS2 (pe_call C__law_word_line.ok (hr.mono (by decide)) rfl C__law_word_line.at_ C__law_word_line.kp C__law_word_line.bd .nil pass0 (pa_cons (pe_ix (ix_tupK (K := K) rfl) (pv 2) pe_int (fun _ _ => rfl)) pa_nil)) pe_str) (pe_callTy cr_strI (by rfl) T.str (by decide +kernel) (pa_cons (pe_ix (ix_tupK (K := K) rfl) (pv 2) pe_int (fun _ _ => rfl)) pa_nil)))))))
      (pss_one (ps_ret (pe_m1 PySem.F.slot_str_join PySem.F.type_str_join (mt_joinK (K := K) rfl) pe_str (pe_op op_cat (pv 1) (pe_lst (pa_cons (pe_op op_catS2 pe_str (pe_callTy cr_strI (by rfl) T.str (by decide +kernel) (pa_cons (pe_ix (ix_tupK (K := K) rfl) (pv 0) pe_int (fun _ _ => rfl)) pa_nil))) pa_nil)))))))), ?_⟩
  rintro xs y ⟨r, W, rfl, rfl⟩
  have n1 := W.n1
  have bg := big (n := r.ins.length) (by omega)
  obtain ⟨n, en, nl⟩ := W.nat
  have fl := word_len (b01 W.flag)
  have f1 := W.f1
  refine run_seq1 (run_asgN (xs := [.str ("flag " ++ wordS r.flag)]) (en_lst (ea_cons (ev_op ev_str (ev_call (ea_cons (ev_op (ev_var rfl) ev_int (r2_ixT (z := w r.flag) (atI_nat (j := 0) rfl))) ea_nil) ⟨r.flag, W.flag, by omega, rfl, rfl⟩) (r2_catS (by rw [l_flag]; exact big' (by omega)))) ea_nil) (by show 1 ≤ sizeLine; decide)) rfl) ?_
  refine run_seq1 (run_asgN (xs := .str ("flag " ++ wordS r.flag) :: r.ins.map fun p => .str (insS p)) (en_is (en_cat (er_var rfl) (er_ofN (en_lcT (js := [2]) (l := r.ins) (enc := rowD) (f := fun _ => true) (v := fun p => .str (insS p)) (ev_op (ev_var rfl) ev_int (r2_ixT (z := .tup (r.ins.map rowD)) (atI_nat (j := 1) rfl))) (by decide) bg fun p hp => ⟨_, tg_name 2, et_yes, fun _ => ?_⟩)) ?_) (by rw [filter_yes]; rfl)) rfl) ?_
  · obtain ⟨h0, h2, h3⟩ := W.row p hp
    have h1 := b01 h0
    have wl := word_len h1
    refine ev_op (ev_op (ev_call (ea_cons (ev_op (ev_var rfl) ev_int (r2_ixT (z := w p.1) (atI_nat (j := 0) rfl))) ea_nil) ⟨p.1, h0, by omega, rfl, rfl⟩) ev_str (r2_catS (by rw [l_puts]; exact big' (by omega)))) (ev_strI (ev_op (ev_var rfl) ev_int (r2_ixT (z := .int p.2) (atI_nat (j := 1) rfl))) (log_mil (by rcases h3 with h3 | h3 <;> rw [h3] <;> decide))) (r2_catS ?_)
    rw [len_add, l_puts, bit_len h3]
    exact big' (by omega)
  · rw [filter_yes, List.length_map]
    exact big' (by show 1 + r.ins.length ≤ 1000000; omega)
  refine run_ret (ev_join (ys := partsS r) ev_str (er_is (er_ofN (en_cat (er_var rfl) (er_ofN (en_lst (ea_cons (ev_op ev_str (ev_strI (i := r.chk) (ev_op (ev_var rfl) ev_int (r2_ixT (z := .int r.chk) (atI_nat (j := 2) rfl))) (by rw [en]; exact num_log nl)) (r2_catS (by rw [l_check, en]; exact big' (by omega)))) ea_nil) (by show 1 ≤ sizeLine; decide))) ?_)) ?_) W.sum) rfl
  · rw [List.length_cons, List.length_map]
    exact big' (by show r.ins.length + 1 + 1 ≤ 1000000; omega)
  · unfold partsS
    rw [List.map_cons, List.map_append, List.map_map]
    rfl
/-- words whose text is written -/
structure PsW (ps : List (List Int)) : Prop where
  n : ps.length ≤ 1000
  b : ∀ p ∈ ps, p.all isB = true ∧ p.length ≤ 1000
theorem PsW.sum {ps : List (List Int)} (h : PsW ps) : ((ps.map wordS).map (·.length)).sum + (ps.map wordS).length * sepW.length ≤ 16777216 := by
  have h1 := sum_le (m := 1001) (ps.map wordS) fun s hs => by
    obtain ⟨p, hp, rfl⟩ := List.mem_map.mp hs
    have := word_len (b01 (h.b p hp).1)
    have := (h.b p hp).2
    omega
  have h2 := h.n
  rw [List.length_map] at h1
  rw [List.length_map, l_sepW]
  omega
def R__law_list_line (xs : List Dat) (y : Dat) : Prop := ∃ ps : List (List Int), PsW ps ∧ xs = [.lst (ps.map w)] ∧ y = .str (listS ps)
theorem len__law_list_line {xs : List Dat} {y : Dat} (h : R__law_list_line xs y) : xs.length = 1 := by
  obtain ⟨_, _, rfl, _⟩ := h
  rfl
theorem ok__law_list_line {f : Addr} {fd : FuncData} (F : Fun K "_law_list_line" "_law_list_line" s__law_list_line f fd) {f__law_word_line : Addr} {d__law_word_line : FuncData} (C__law_word_line : Cal P w0 K mg base "_law_word_line" ["word"] 1 R__law_word_line f__law_word_line d__law_word_line) : FnOk P w0 K mg base CX0 2 f fd ["many"] (Pr R__law_list_line) := by
  refine fn_pr F sc__law_list_line (fun xs y h => len__law_list_line h) fun cdv A outer s H E hr => ⟨_, (pss_one (ps_ret (pe_ifExp (pt_cmpR (op_neK (K := K) rfl hr.units) (pv 0) (pe_lst pa_nil) (nomark _)) (pe_m1 PySem.F.slot_str_join PySem.F.type_str_join (mt_joinK (K := K) rfl) pe_str (pe_lc (own := [("word", 1)]) rfl sc__law_list_line.nd (pi_listK (K := K) rfl (pv 0)) (blkOk_by (own := [("word", 1)]) (N := N__law_list_line) (sc := defScope s__law_list_line) (by decide +kernel)) (fun _ _ _ _ _ => (pg_name (i := 1) sc__law_list_line.nd rfl (Or.inl rfl))) (fun _ _ _ _ _ => pts_nil) (fun _ _ _ _ _ => (pe_call C__law_word_line.ok (hr.mono (by decide)) rfl C__law_word_line.at_ C__law_word_line.kp C__law_word_line.bd .nil pass0 (pa_cons (pv 1) pa_nil))))) pe_str))), ?_⟩
  rintro xs y ⟨ps, W, rfl, rfl⟩
  have hn := W.n
  have bg := big (n := ps.length) (by omega)
  by_cases h0 : ps = []
  · subst h0
    exact run_ret (ev_is (ev_if (b := false) (x := .str "") (y := .str "none") (et_is (et_test (ev_op (ev_var rfl) (ev_ofN (en_lst ea_nil (Nat.zero_le _))) (r2_neNilW (ks := [])))) rfl) (fun z => by cases z) fun _ => ev_str) rfl) (congrArg Dat.str listS_nil).symm
  · have hne : (!ps.isEmpty) = true := by
      cases ps with
      | nil => exact absurd rfl h0
      | cons a l => rfl
    refine run_ret (ev_is (ev_if (b := true) (y := .str "none") (et_is (et_test (ev_op (ev_var rfl) (ev_ofN (en_lst ea_nil (Nat.zero_le _))) (r2_neNilW (ks := ps)))) hne) (fun _ => ev_join (ys := ps.map wordS) ev_str (er_is (er_ofN (en_lcL (js := [1]) (l := ps) (enc := w) (f := fun _ => true) (v := fun p => .str (wordS p)) (er_ofD (ev_var rfl)) (by decide) bg fun p hp => ⟨_, tg_name 1, et_yes, fun _ => ev_call (ea_cons (ev_var rfl) ea_nil) ⟨p, (W.b p hp).1, (W.b p hp).2, rfl, rfl⟩⟩)) ?_) W.sum) fun z => by cases z) rfl) ?_
    · rw [filter_yes, List.map_map]
      rfl
    · show Dat.str (Txt.join sepW (ps.map wordS)) = Dat.str (listS ps)
      unfold listS
      rw [if_neg h0]
end
end Fr

set_option Elab.async false
set_option linter.all false
set_option maxRecDepth 100000
set_option maxHeartbeats 4000000
namespace Fr
open PySem PySem.Spec PyProof.Rows L2
open Evl (Ex)
abbrev s__law_haul : Stmt := topS 70
abbrev N__law_haul : List Str := ["crate", "below", "digit", "churn"]
theorem sc__law_haul : FnScope N__law_haul ["crate", "below"] (defScope s__law_haul) := ⟨rfl, rfl, rfl, by decide +kernel, rfl, by decide +kernel, by decide +kernel⟩
abbrev s__law_bits : Stmt := topS 71
abbrev N__law_bits : List Str := ["crate", "size", "way", "same", "found", "k", "steady"]
theorem sc__law_bits : FnScope N__law_bits ["crate", "size"] (defScope s__law_bits) := ⟨rfl, rfl, rfl, by decide +kernel, rfl, by decide +kernel, by decide +kernel⟩
abbrev s__law_drawn_rule : Stmt := topS 74
abbrev N__law_drawn_rule : List Str := ["crate", "flag_here", "word_here", "many_here", "top", "flag", "known", "k", "word", "rows", "number"]
theorem sc__law_drawn_rule : FnScope N__law_drawn_rule ["crate", "flag_here", "word_here", "many_here", "top"] (defScope s__law_drawn_rule) := ⟨rfl, rfl, rfl, by decide +kernel, rfl, by decide +kernel, by decide +kernel⟩
abbrev s__law_any_rule : Stmt := topS 75
abbrev N__law_any_rule : List Str := ["crate", "great"]
theorem sc__law_any_rule : FnScope N__law_any_rule ["crate", "great"] (defScope s__law_any_rule) := ⟨rfl, rfl, rfl, by decide +kernel, rfl, by decide +kernel, by decide +kernel⟩
abbrev s__law_payloads : Stmt := topS 76
abbrev N__law_payloads : List Str := ["crate", "many", "size", "k"]
theorem sc__law_payloads : FnScope N__law_payloads ["crate", "many", "size"] (defScope s__law_payloads) := ⟨rfl, rfl, rfl, by decide +kernel, rfl, by decide +kernel, by decide +kernel⟩
section
variable {P : Program} {w0 : World} {K : PySem.W.Frag} {mg : Str → Option Value} {base : Heap}
def Pre__law_haul (ds xs : List Dat) : Prop := ∃ (n : Nat) (m : Int), CrOk ds n ∧ n < 2 ^ 60 ∧ xs = [.int m] ∧ 0 < m ∧ m < 1073741824
def Rf__law_haul (ds xs : List Dat) (x : Dat) (ds' : List Dat) : Prop := ∃ m d : Int, xs = [.int m] ∧ x = .int d ∧ 0 ≤ d ∧ d < m ∧ ∀ n, CrOk ds n → CrOk ds' (n + 1)
theorem len__law_haul {ds xs : List Dat} (h : Pre__law_haul ds xs) : xs.length + 1 = 2 := by
  obtain ⟨_, _, _, _, rfl, _⟩ := h
  rfl
theorem ok__law_haul {f : Addr} {fd : FuncData} (F : Fun K "_law_haul" "_law_haul" s__law_haul f fd) (T : Bs mg) : FnOk P w0 K mg base CX0 1 f fd ["crate", "below"] (PrC Rf__law_haul Pre__law_haul) := by
  refine fn_prC F sc__law_haul (fun ds xs h => len__law_haul h) fun cdv A outer s H E hr => ⟨_, (pss_cons (ps_if (pt_cmpR op_gt (pe_ix (ix_listK (K := K) rfl) (pv 0) pe_int (fun _ _ => rfl)) pe_int (nomark _)) (pss_cons (ps_set (i := 2) sc__law_haul.nd rfl (Or.inl rfl) (pe_op op_modN (pe_callTy call_int1 (by rfl) T.int (by decide +kernel) (pa_cons (pe_ix (ix_listK (K := K) rfl) (pv 0) pe_int (fun _ _ => rfl)) pa_nil)) (pv 1)))
      (pss_cons (ps_asg (pe_op op_fdivN (pe_ix (ix_listK (K := K) rfl) (pv 0) pe_int (fun _ _ => rfl)) (pv 1)) (pg_sub (pv 0) pe_int set_list))
      (pss_one (ps_ret (pv 2))))) pss_nil)
      (pss_cons (ps_asg (pe_op op_add (pe_ix (ix_listK (K := K) rfl) (pv 0) pe_int (fun _ _ => rfl)) pe_int) (pg_sub (pv 0) pe_int set_list))
      (pss_cons (ps_set (i := 3) sc__law_haul.nd rfl (Or.inl rfl) (pe_op op_modN (pe_op op_powW (pe_callTy call_int1 (by rfl) T.int (by decide +kernel) (pa_cons (pe_op op_add (pe_ix (ix_listK (K := K) rfl) (pv 0) pe_int (fun _ _ => rfl)) (pe_op op_mul pe_int (pe_ix (ix_listK (K := K) rfl) (pv 0) pe_int (fun _ _ => rfl)))) pa_nil)) pe_int) (pe_op op_add (pe_op op_pow pe_int pe_int) pe_int)))
      (pss_cons (ps_set (i := 3) sc__law_haul.nd rfl (Or.inl rfl) (pe_op op_modN (pe_op op_powW (pe_callTy call_int1 (by rfl) T.int (by decide +kernel) (pa_cons (pe_op op_add (pv 3) (pe_op op_mul pe_int (pe_ix (ix_listK (K := K) rfl) (pv 0) pe_int (fun _ _ => rfl)))) pa_nil)) pe_int) (pe_op op_add (pe_op op_pow pe_int pe_int) pe_int)))
      (pss_one (ps_ret (pe_op op_modN (pe_op op_fdivN (pv 3) pe_int) (pv 1)))))))), ?_⟩
  rintro c ds xs ⟨n, m, ⟨a, b, k, rfl, a0, b0, b1, k0, k1⟩, hn, rfl, hm, hm1⟩
  have cr : ∀ {a b k : Int}, EvR (tVar 0) (Slot.b c [.int a, .int b, .int k] :: entry (N__law_haul.drop 1) [.int m]) [.int a, .int b, .int k] := er_varB rfl
  have e0 : ∀ {a b k : Int} {s t : Slot}, EvD (tOp (rIxL K) (tVar 0) (tC (V.int 0))) [Slot.b c [.int a, .int b, .int k], .d (.int m), s, t] (.int a) := ev_ixL (er_varB rfl) ev_int rfl
  have e1 : ∀ {a b k : Int} {s t : Slot}, EvD (tOp (rIxL K) (tVar 0) (tC (V.int 1))) [Slot.b c [.int a, .int b, .int k], .d (.int m), s, t] (.int b) := ev_ixL (er_varB rfl) ev_int rfl
  have e2 : ∀ {a b k : Int} {s t : Slot}, EvD (tOp (rIxL K) (tVar 0) (tC (V.int 2))) [Slot.b c [.int a, .int b, .int k], .d (.int m), s, t] (.int k) := ev_ixL (er_varB rfl) ev_int rfl
  by_cases h : 0 < a
  · refine run_seq (M := fun _ => False) (run_if (b := true) (et_test (ev_is (ev_op e0 ev_int r2_gt) (congrArg Dat.bl (decide_eq_true h)))) (fun _ => ?_) fun z => by cases z) fun _ z => z.elim
    have f0 := fmod_in (x := a) hm
    refine run_seq1 (run_asg (ev_op (ev_int1 e0) (ev_var rfl) (r2_modN (by omega))) rfl) ?_
    refine run_seq1 (run_setB (j := 0) rfl (ev_op e0 (ev_var rfl) (r2_fdivN ⟨by omega, by omega⟩)) (Nat.zero_lt_succ _) rfl) ?_
    refine run_ret (ev_var rfl) ⟨_, rfl, m, _, rfl, rfl, f0.1, f0.2, fun n' h' => ?_⟩
    obtain ⟨a', b', k', e, _, g2, g3, g4, g5⟩ := h'
    cases e
    exact ⟨_, _, _, rfl, Int.fdiv_nonneg a0 (by omega), b0, b1, k0, by omega⟩
  · refine run_seq1 (run_if (b := false) (et_test (ev_is (ev_op e0 ev_int r2_gt) (congrArg Dat.bl (decide_eq_false h)))) (fun z => by cases z) fun _ => run_next rfl) ?_
    have hk : (n : Int) < 2 ^ 60 := by exact_mod_cast hn
    refine run_seq1 (run_setB (j := 2) rfl (ev_op e2 ev_int r2_add) (Nat.lt_succ_self _) rfl) ?_
    refine run_seq1 (run_asg (ev_op (ev_op (ev_int1 (ev_op e1 (ev_op ev_int e2 (r2_mul (.inl (by omega)))) r2_add)) ev_int (r2_powW ?_)) (ev_op (ev_op ev_int ev_int (r2_pow ?_)) ev_int r2_add) (r2_modN ?_)) rfl) ?_
    · refine ⟨by omega, ?_⟩
      have := bits_of (x := b + 50021 * (k + 1)) (k := 141) (by omega) (by omega)
      omega
    · exact ⟨by omega, by omega, by decide⟩
    · decide
    generalize hc : Int.fmod _ _ = ch
    have c0 : 0 ≤ ch ∧ ch < 10 ^ 39 + 3 := by
      rw [← hc]
      exact fmod_in (by decide)
    refine run_seq1 (run_asg (ev_op (ev_op (ev_int1 (ev_op (ev_var rfl) (ev_op ev_int e2 (r2_mul (.inl (by omega)))) r2_add)) ev_int (r2_powW ?_)) (ev_op (ev_op ev_int ev_int (r2_pow ?_)) ev_int r2_add) (r2_modN ?_)) rfl) ?_
    · refine ⟨by omega, ?_⟩
      have := bits_of (x := ch + 1100009 * (k + 1)) (k := 131) (by omega) (by omega)
      omega
    · exact ⟨by omega, by omega, by decide⟩
    · decide
    have f0 := fun x : Int => fmod_in (x := x) hm
    refine run_ret (ev_op (ev_op (ev_var rfl) ev_int (r2_fdivN ⟨by omega, by omega⟩)) (ev_var rfl) (r2_modN (by omega))) ⟨_, rfl, m, _, rfl, rfl, (f0 _).1, (f0 _).2, fun n' h' => ?_⟩
    obtain ⟨a', b', k', e, _, g2, g3, g4, g5⟩ := h'
    cases e
    exact ⟨_, _, _, rfl, a0, b0, b1, by omega, by omega⟩
theorem ex_haul {γ : Gam} {i : Nat} {ds : List Dat} {n : Nat} {m : Int} {te : TE} {S : Dat → Gam → Prop} {E : XK} (hl : Lends γ i ds) (hm : EvD te γ (.int m)) (hc : CrOk ds n) (hn : n < 2 ^ 60) (h0 : 0 < m) (h1 : m < 1073741824)
    (hS : ∀ (d : Int) (ds' : List Dat), 0 ≤ d → d < m → CrOk ds' (n + 1) → S (.int d) (relend γ i ds')) : EvX (tCall (PrC Rf__law_haul Pre__law_haul) [] E (tCons (tVar i) (tCons te tNil))) γ S :=
  ex_lend hl (exa_of (ea_cons hm ea_nil) ⟨ds, hl, ⟨n, m, hc, hn, rfl, h0, h1⟩, fun x ds' hR => by
    obtain ⟨m', d, e, rfl, d0, d1, hk⟩ := hR
    cases e
    exact hS d ds' d0 d1 (hk n hc)⟩)
def Pre__law_bits (ds xs : List Dat) : Prop := ∃ (n : Nat) (m : Int), CrOk ds n ∧ n < 2 ^ 59 ∧ xs = [.int m] ∧ 0 ≤ m ∧ m ≤ 401
def Rf__law_bits (ds xs : List Dat) (x : Dat) (ds' : List Dat) : Prop := ∃ (m : Int) (ns : List Int), xs = [.int m] ∧ x = w ns ∧ (ns.length : Int) = m ∧ Bits ns ∧ ∀ n, CrOk ds n → CrOk ds' (n + 1000)
theorem len__law_bits {ds xs : List Dat} (h : Pre__law_bits ds xs) : xs.length + 1 = 2 := by
  obtain ⟨_, _, _, _, rfl, _⟩ := h
  rfl
theorem ok__law_bits {f : Addr} {fd : FuncData} (F : Fun K "_law_bits" "_law_bits" s__law_bits f fd) {f__law_haul : Addr} {d__law_haul : FuncData} (C__law_haul : CalS P w0 K mg base "_law_haul" ["crate", "below"] 1 (PrC Rf__law_haul Pre__law_haul) f__law_haul d__law_haul) (T : Bs mg) : FnOk P w0 K mg base CX0 2 f fd ["crate", "size"] (PrC Rf__law_bits Pre__law_bits) := by
  refine fn_prC F sc__law_bits (fun ds xs h => len__law_bits h) fun cdv A outer s H E hr => ⟨_, (pss_cons (ps_par (i := 2) (j := 3) (by rfl) sc__law_bits.nd rfl rfl (by decide) rfl rfl (pa_cons (pe_call C__law_haul.ok (hr.mono (by decide)) rfl C__law_haul.at_ C__law_haul.kp C__law_haul.bd .nil pass0 (pa_cons (pv 0) (pa_cons pe_int pa_nil))) (pa_cons (pe_call C__law_haul.ok (hr.mono (by decide)) rfl C__law_haul.at_ C__law_haul.kp C__law_haul.bd .nil pass0 (pa_cons (pv 0) (pa_cons pe_int pa_nil))) pa_nil)) (by rfl))
      (pss_cons (ps_set (i := 4) sc__law_bits.nd rfl (Or.inl rfl) (pe_lst pa_nil))
      (pss_cons (ps_for PassesOwn.never rfl (pi_range1 (by rfl) T.range (pa_cons (pv 1) pa_nil)) (pg_name (i := 5) sc__law_bits.nd rfl (Or.inl rfl)) (pss_cons (ps_set (i := 6) sc__law_bits.nd rfl (Or.inl rfl) (pe_or (pe_cmpR op_eq (pv 2) pe_int (nomark _)) (pe_one (pe_and (pe_cmpR op_eq (pv 2) pe_int (nomark _)) (pe_one (pe_cmpR op_gt (pe_call C__law_haul.ok (hr.mono (by decide)) rfl C__law_haul.at_ C__law_haul.kp C__law_haul.bd .nil pass0 (pa_cons (pv 0) (pa_cons pe_int pa_nil))) pe_int (nomark _)))))))
      (pss_one (ps_expr (pe_bm PySem.F.plainAttrs_list PySem.F.slot_list_append PySem.F.type_list_append mt_append (pv 4) (pa_cons (pe_ifExp (pt_val (pv 6)) (pv 3) (pe_call C__law_haul.ok (hr.mono (by decide)) rfl C__law_haul.at_ C__law_haul.kp C__law_haul.bd .nil pass0 (pa_cons (pv 0) (pa_cons pe_int pa_nil)))) pa_nil))))))
      (pss_one (ps_ret (pe_callTy (call_tupK (K := K) rfl) (by rfl) T.tuple (by decide +kernel) (pa_cons (pv 4) pa_nil))))))), ?_⟩
  rintro c ds xs ⟨n, m, hc, hn, rfl, hm, hm1⟩
  obtain ⟨n0, hle, hc0, hmin⟩ := hc.least
  refine run_seqC (runx_par (exa_consC (ex_haul (.inr ⟨c, rfl⟩) ev_int hc0 (by omega) (by decide) (by decide) fun a ds1 a0 a1 h1 => exa_consC (ex_haul (.inr ⟨c, rfl⟩) ev_int h1 (by omega) (by decide) (by decide) fun b ds2 b0 b1 h2 => exa_nil ⟨_, _, rfl, ?_⟩))))
  refine run_seq1 (run_asgN (en_lst ea_nil (Nat.zero_le _)) rfl) ?_
  refine run_seq (M := fun δ => ∃ ds' ns s t, δ = [.b c ds', .d (.int m), .d (.int a), .d (.int b), .o (ns.map .int), s, t] ∧ (ns.length : Int) = m ∧ Bits ns ∧ CrOk ds' (n0 + 1000)) (run_forR (n := m) (ea_cons (ev_var rfl) ea_nil) ⟨by omega, by omega⟩
    (fun i δ => ∃ ds' ns s t, δ = [.b c ds', .d (.int m), .d (.int a), .d (.int b), .o (ns.map .int), s, t] ∧ ns.length = i ∧ Bits ns ∧ CrOk ds' (n0 + 2 + 2 * i)) ⟨ds2, [], _, _, rfl, rfl, .nil, h2⟩ ?_ ?_) ?_
  · rintro i δ hi ⟨ds', ns, s, t, rfl, hl, hb, hk⟩
    have next : ∀ (ds3 : List Dat) (v : Bool), CrOk ds3 (n0 + 2 + 2 * i + 1) → Run (tDrop (tBM K "list" rAppend (tVar 4) (tCons (tIf (tB (tVar 6)) (tVar 3) (tCall (PrC Rf__law_haul Pre__law_haul) [] E0 (tCons (tVar 0) (tCons (tC (V.int 2)) tNil)))) tNil))) [.b c ds3, .d (.int m), .d (.int a), .d (.int b), .o (ns.map .int), .d (.int (i : Int)), .d (.bl v)]
        (fun δ => ∃ ds' ns s t, δ = [.b c ds', .d (.int m), .d (.int a), .d (.int b), .o (ns.map .int), s, t] ∧ ns.length = i + 1 ∧ Bits ns ∧ CrOk ds' (n0 + 2 + 2 * (i + 1))) (fun x δ => ∃ ds', δ[0]? = some (Slot.b c ds') ∧ Rf__law_bits ds [.int m] x ds') := fun ds3 v h3 => by
      have big0 : (ns.map Dat.int).length < sizeLine := by
        rw [List.length_map]
        exact big (by omega)
      have fin : ∀ (d : Int), 0 ≤ d → d < 2 → ∀ ds4, CrOk ds4 (n0 + 2 + 2 * (i + 1)) → ∃ ds' ns' s t, [Slot.b c ds4, .d (.int m), .d (.int a), .d (.int b), .o (ns.map Dat.int ++ [.int d]), .d (.int (i : Int)), .d (.bl v)] = [.b c ds', .d (.int m), .d (.int a), .d (.int b), .o (ns'.map .int), s, t] ∧ ns'.length = i + 1 ∧ Bits ns' ∧ CrOk ds' (n0 + 2 + 2 * (i + 1)) := fun d d0 d1 ds4 h4 =>
        ⟨ds4, ns ++ [d], _, _, by rw [List.map_append]; rfl, by rw [List.length_append, List.length_singleton, hl], hb.app (.two d0 d1), h4⟩
      refine runx_app (i := 4) rfl (ex_ifP (b := v) (et_B (ev_var rfl)) (fun _ => ex_of (ev_var rfl) ⟨_, rfl, big0, fin b b0 b1 _ (h3.mono (by omega))⟩) fun _ => ?_)
      exact ex_haul (.inr ⟨c, rfl⟩) ev_int h3 (by omega) (by decide) (by decide) fun d ds4 d0 d1 h4 => ⟨_, rfl, big0, fin d d0 d1 _ (h4.mono (by omega))⟩
    refine run_seqC (runx_asg (ex_or (ex_of (ev_op (ev_var rfl) ev_int r2_eqI) ⟨_, rfl, fun _ => ?_, fun _ => next _ _ (hk.mono (by omega))⟩)))
    refine ex_and (ex_of (ev_op (ev_var rfl) ev_int r2_eqI) ⟨_, rfl, fun _ => ?_, fun _ => next _ _ (hk.mono (by omega))⟩)
    exact ex_opC (ex_haul (.inr ⟨c, rfl⟩) ev_int hk (by omega) (by decide) (by decide) fun d ds4 d0 d1 h4 => ex_of ev_int ⟨_, r2_gt, next _ _ h4⟩)
  · rintro δ ⟨ds', ns, s, t, rfl, hl, hb, hk⟩
    exact ⟨ds', ns, s, t, rfl, by omega, hb, hk.mono (by omega)⟩
  · rintro δ ⟨ds', ns, s, t, rfl, hl, hb, hk⟩
    exact run_ret (ev_tupL (er_var rfl)) ⟨ds', rfl, m, ns, rfl, rfl, hl, hb, fun n' h' => hk.mono (by have := hmin n' h'; omega)⟩
theorem mem_putE {es : List (List L2.Key × Dat)} {k : List L2.Key} {x : Dat} {e : List L2.Key × Dat} (h : e ∈ putE es k x) : e ∈ es ∨ e.2 = x := by
  unfold putE at h
  split at h
  · obtain ⟨e0, h0, rfl⟩ := List.mem_map.mp h
    split
    · exact .inr rfl
    · exact .inl h0
  · rcases List.mem_append.mp h with h | h
    · exact .inl h
    · rw [List.mem_singleton.mp h]
      exact .inr rfl
theorem has_putE {es : List (List L2.Key × Dat)} {k k0 : List L2.Key} {x : Dat} (h : (lk es k0).isSome = true) : (lk (putE es k x) k0).isSome = true := by
  unfold lk at h ⊢
  rw [Option.isSome_map] at h ⊢
  rw [List.find?_isSome] at h ⊢
  obtain ⟨e, he, hk⟩ := h
  unfold putE
  split
  · refine ⟨if e.1 = k then (e.1, x) else e, List.mem_map.mpr ⟨e, he, rfl⟩, ?_⟩
    split <;> exact hk
  · exact ⟨e, List.mem_append_left _ he, hk⟩
theorem putAll_vals {α : Type} {kf : α → List Int} {vf : α → Dat} {P : Dat → Prop} : ∀ (l : List α) (es : List (List L2.Key × Dat)), (∀ a ∈ l, P (vf a)) → (∀ e ∈ es, P e.2) → ∀ e ∈ l.foldl (fun es a => putE es (kw (kf a)) (vf a)) es, P e.2
  | [], _, _, h => h
  | a :: l, es, hv, h => putAll_vals l _ (fun b hb => hv b (List.mem_cons_of_mem _ hb)) fun e he => by
    rcases mem_putE he with he | he
    · exact h e he
    · rw [he]
      exact hv a List.mem_cons_self
theorem putAll_has {α : Type} {kf : α → List Int} {vf : α → Dat} {k0 : List L2.Key} : ∀ (l : List α) (es : List (List L2.Key × Dat)), (lk es k0).isSome = true → (lk (l.foldl (fun es a => putE es (kw (kf a)) (vf a)) es) k0).isSome = true
  | [], _, h => h
  | _ :: l, _, h => putAll_has l _ (has_putE h)
theorem lk_val {es : List (List L2.Key × Dat)} {P : Dat → Prop} (h : ∀ e ∈ es, P e.2) {k : List L2.Key} {x : Dat} (hx : lk es k = some x) : P x := by
  unfold lk at hx
  cases q : es.find? fun p => decide (p.1 = k) with
  | none =>
    rw [q] at hx
    cases hx
  | some e =>
    rw [q] at hx
    cases hx
    exact h e (List.mem_of_find?_eq_some q)
/-- rows of bits, as the law draws them -/
structure Rows (ins : List (List Int × Int)) : Prop where
  many : ins.length ≤ 1000
  row : ∀ p ∈ ins, Bits p.1 ∧ 0 < p.1.length ∧ p.1.length ≤ 1000 ∧ (p.2 = 0 ∨ p.2 = 1)
structure Small (r : Rule) : Prop where
  flag : Bits r.flag
  flag0 : 0 < r.flag.length
  flag1 : r.flag.length ≤ 16
  rows : Rows r.ins
  chk0 : 1 ≤ r.chk
  chk1 : r.chk ≤ 16
theorem ex_bits {γ : Gam} {i : Nat} {ds0 : List Dat} {te : TE} {S : Dat → Gam → Prop} {E : XK} (h0 : Lends γ i ds0) (h : EvX te γ (fun x δ => ∃ (m : Int) (ds : List Dat) (n : Nat), x = .int m ∧ Lends δ i ds ∧ CrOk ds n ∧ n < 2 ^ 59 ∧ 0 ≤ m ∧ m ≤ 401 ∧
    ∀ (ns : List Int) (ds' : List Dat), (ns.length : Int) = m → Bits ns → CrOk ds' (n + 1000) → S (w ns) (relend δ i ds'))) : EvX (tCall (PrC Rf__law_bits Pre__law_bits) [] E (tCons (tVar i) (tCons te tNil))) γ S :=
  ex_lend h0 (exa_consC (ex_weak h fun x δ hx => by
    obtain ⟨m, ds, n, rfl, hl, hc, hn, h0, h1, hS⟩ := hx
    refine exa_nil ⟨ds, hl, ⟨n, m, hc, hn, rfl, h0, h1⟩, fun x ds' hR => ?_⟩
    obtain ⟨m', ns, e, rfl, e1, e2, hk⟩ := hR
    cases e
    exact hS ns ds' e1 e2 (hk n hc)))
theorem bits_all {ns : List Int} (h : Bits ns) : ns.all isB = true := List.all_eq_true.mpr fun b hb => by
  rcases h b hb with rfl | rfl <;> rfl
theorem has_keys {es : List (List L2.Key × Dat)} {ks : List (List Int)} (hk : es.map (·.1) = ks.map kw) (k : List Int) : es.any (fun e => decide (e.1 = kw k)) = decide (k ∈ ks) := by
  have e : es.any (fun e => decide (e.1 = kw k)) = (es.map (·.1)).any (fun q => decide (q = kw k)) := by
    rw [List.any_map]
    rfl
  rw [e, hk, List.any_map]
  by_cases h : k ∈ ks
  · rw [decide_eq_true h]
    exact List.any_eq_true.mpr ⟨k, h, decide_eq_true rfl⟩
  · rw [decide_eq_false h]
    refine List.any_eq_false.mpr fun q hq => ?_
    show ¬ decide (kw q = kw k) = true
    rw [decide_eq_true_eq]
    intro z
    exact h (kw_inj z ▸ hq)
theorem keys_put {es : List (List L2.Key × Dat)} {ks : List (List Int)} (hk : es.map (·.1) = ks.map kw) (k : List Int) (x : Dat) : (putE es (kw k) x).map (·.1) = (if k ∈ ks then ks else ks ++ [k]).map kw := by
  unfold putE
  rw [has_keys hk k]
  by_cases h : k ∈ ks
  · rw [decide_eq_true h, if_pos rfl, if_pos h, ← hk, List.map_map]
    refine List.map_congr_left fun e _ => ?_
    show (if e.1 = kw k then (e.1, x) else e).1 = e.1
    split <;> rfl
  · rw [decide_eq_false h, if_neg (by decide), if_neg h, List.map_append, List.map_append, hk]
    rfl
theorem lk_key {es : List (List L2.Key × Dat)} {ks : List (List Int)} (hk : es.map (·.1) = ks.map kw) {k : List Int} (h : k ∈ ks) {P : Dat → Prop} (hp : ∀ e ∈ es, P e.2) : ∃ x, lk es (kw k) = some x ∧ P x := by
  have a := has_keys hk k
  rw [decide_eq_true h] at a
  obtain ⟨e, he, h2⟩ := List.any_eq_true.mp a
  cases q : lk es (kw k) with
  | some x => exact ⟨x, rfl, lk_val hp q⟩
  | none =>
    unfold lk at q
    rw [Option.map_eq_none_iff] at q
    exact absurd h2 (by rw [List.find?_eq_none.mp q e he |> Bool.eq_false_iff.mpr]; decide)
def Bit1 (x : Dat) : Prop := ∃ b : Int, x = .int b ∧ (b = 0 ∨ b = 1)
def valI (es : List (List L2.Key × Dat)) (k : List Int) : Int := match lk es (kw k) with
  | some (.int b) => b
  | _ => 0
theorem srtd_next {ks : List (List Int)} (nd : ks.Nodup) (i : Nat) (p q : List Int) (h1 : (sortW ks)[i]? = some p) (h2 : (sortW ks)[i + 1]? = some q) : HT.lexLt p q = true := by
  have hs := sortW_srtd ks
  have hn : (sortW ks).Nodup := (sortW_perm ks).nodup_iff.mpr nd
  obtain ⟨i1, e1⟩ := List.getElem?_eq_some_iff.mp h1
  obtain ⟨i2, e2⟩ := List.getElem?_eq_some_iff.mp h2
  have a := List.pairwise_iff_getElem.mp hs i (i + 1) i1 i2 (by omega)
  have b := List.pairwise_iff_getElem.mp hn i (i + 1) i1 i2 (by omega)
  rw [e1, e2] at a b
  cases z : HT.lexLt p q with
  | true => rfl
  | false => exact absurd (lex_tri p q z a) b
structure Drawn (r : Rule) : Prop where
  small : Small r
  order : ∀ (i : Nat) (p q : List Int × Int), r.ins[i]? = some p → r.ins[i + 1]? = some q → HT.lexLt p.1 q.1 = true
  uniq : ∀ p ∈ r.ins, ∀ q ∈ r.ins, p.1 = q.1 → p.2 = q.2
  w16 : ∀ p ∈ r.ins, p.1.length ≤ 16
  n8 : r.ins.length ≤ 8
def Pre__law_drawn_rule (ds xs : List Dat) : Prop := ∃ (n : Nat) (fl wl m top : Int), CrOk ds n ∧ n < 2 ^ 57 ∧ xs = [.int fl, .int wl, .int m, .int top] ∧ (1 ≤ fl ∧ fl ≤ 16) ∧ (1 ≤ wl ∧ wl ≤ 16) ∧ (0 ≤ m ∧ m ≤ 8) ∧ 1 ≤ top ∧ top ≤ 16
def Rf__law_drawn_rule (ds xs : List Dat) (x : Dat) (ds' : List Dat) : Prop := ∃ r : Rule, x = r.dat ∧ Drawn r ∧ ∀ n, CrOk ds n → CrOk ds' (n + 50000)
theorem len__law_drawn_rule {ds xs : List Dat} (h : Pre__law_drawn_rule ds xs) : xs.length + 1 = 5 := by
  obtain ⟨_, _, _, _, _, _, _, rfl, _⟩ := h
  rfl
theorem ok__law_drawn_rule {f : Addr} {fd : FuncData} (F : Fun K "_law_drawn_rule" "_law_drawn_rule" s__law_drawn_rule f fd) {f__law_bits : Addr} {d__law_bits : FuncData} (C__law_bits : CalS P w0 K mg base "_law_bits" ["crate", "size"] 2 (PrC Rf__law_bits Pre__law_bits) f__law_bits d__law_bits) {f__law_haul : Addr} {d__law_haul : FuncData} (C__law_haul : CalS P w0 K mg base "_law_haul" ["crate", "below"] 1 (PrC Rf__law_haul Pre__law_haul) f__law_haul d__law_haul) (T : Bs mg) : FnOk P w0 K mg base CX0 3 f fd ["crate", "flag_here", "word_here", "many_here", "top"] (PrC Rf__law_drawn_rule Pre__law_drawn_rule) := by
  refine fn_prC F sc__law_drawn_rule (fun ds xs h => len__law_drawn_rule h) fun cdv A outer s H E hr => ⟨_, (pss_cons (ps_asg (pe_tup (pa_cons (pe_call C__law_bits.ok (hr.mono (by decide)) rfl C__law_bits.at_ C__law_bits.kp C__law_bits.bd .nil pass0 (pa_cons (pv 0) (pa_cons (pe_op op_add pe_int (pe_call C__law_haul.ok (hr.mono (by decide)) rfl C__law_haul.at_ C__law_haul.kp C__law_haul.bd .nil pass0 (pa_cons (pv 0) (pa_cons (pv 1) pa_nil)))) pa_nil))) (pa_cons pe_dnewT pa_nil))) (pg_tupK (K := K) 2 rfl rfl (pgs_cons (pg_name (i := 5) sc__law_drawn_rule.nd rfl (Or.inl rfl)) (pgs_cons (pg_name (i := 6) sc__law_drawn_rule.nd rfl (Or.inr rfl)) pgs_nil))))
      (pss_cons (ps_for PassesOwn.never rfl (pi_range1 (by rfl) T.range (pa_cons (pe_call C__law_haul.ok (hr.mono (by decide)) rfl C__law_haul.at_ C__law_haul.kp C__law_haul.bd .nil pass0 (pa_cons (pv 0) (pa_cons (pe_op op_add (pv 3) pe_int) pa_nil))) pa_nil)) (pg_name (i := 7) sc__law_drawn_rule.nd rfl (Or.inl rfl)) (pss_cons (ps_set (i := 8) sc__law_drawn_rule.nd rfl (Or.inl rfl) (pe_call C__law_bits.ok (hr.mono (by decide)) rfl C__law_bits.at_ C__law_bits.kp C__law_bits.bd .nil pass0 (pa_cons (pv 0) (pa_cons (pe_op op_add pe_int (pe_call C__law_haul.ok (hr.mono (by decide)) rfl C__law_haul.at_ C__law_haul.kp C__law_haul.bd .nil pass0 (pa_cons (pv 0) (pa_cons (pv 2) pa_nil)))) pa_nil))))
      (pss_cons (ps_if (pt_cmpR op_eq (pe_call C__law_haul.ok (hr.mono (by decide)) rfl C__law_haul.at_ C__law_haul.kp C__law_haul.bd .nil pass0 (pa_cons (pv 0) (pa_cons pe_int pa_nil))) pe_int (nomark _)) (pss_one (ps_set (i := 8) sc__law_drawn_rule.nd rfl (Or.inl rfl) (pe_slice (sl_tupK (K := K) rfl) (pe_slice (sl_tupK (K := K) rfl) (pv 5) po_none (po_some (pe_callB (call_min2 rfl) (by rfl) T.min (by decide +kernel) (pa_cons (pe_callB (call_lenK (K := K) rfl) (by rfl) T.len PySem.boot_len (pa_cons (pv 5) pa_nil)) (pa_cons (pv 2) pa_nil))))) po_none (po_some (pe_op op_add pe_int (pe_call C__law_haul.ok (hr.mono (by decide)) rfl C__law_haul.at_ C__law_haul.kp C__law_haul.bd .nil pass0 (pa_cons (pv 0) (pa_cons (pv 2) pa_nil)))))))) pss_nil)
      (pss_one (ps_dput (hu_of hr) (pv 6) (pv 8) (pe_call C__law_haul.ok (hr.mono (by decide)) rfl C__law_haul.at_ C__law_haul.kp C__law_haul.bd .nil pass0 (pa_cons (pv 0) (pa_cons pe_int pa_nil))) rfl)))))
      (pss_cons (ps_set (i := 9) sc__law_drawn_rule.nd rfl (Or.inl rfl) (pe_callTy (call_tupK (K := K) rfl) (by rfl) T.tuple (by decide +kernel) (pa_cons (pe_lc (own := [("word", 8)]) rfl sc__law_drawn_rule.nd (pi_listK (K := K) rfl (pe_callB (cr_sortedIK (K := K) rfl) (by rfl) T.sorted (by decide +kernel) (pa_cons (pe_callTy (call_list_dT rfl) (by rfl) T.list (by decide +kernel) (pa_cons (pv 6) pa_nil)) pa_nil))) (blkOk_by (own := [("word", 8)]) (N := N__law_drawn_rule) (sc := defScope s__law_drawn_rule) (by decide +kernel)) (fun _ _ _ _ _ => (pg_name (i := 8) sc__law_drawn_rule.nd rfl (Or.inl rfl))) (fun _ _ _ _ _ => pts_nil) (fun _ _ _ _ _ => (pe_tup (pa_cons (pv 8) (pa_cons (pe_dget (hu_of hr) (pv 6) (pv 8) (fun _ _ => rfl)) pa_nil))))) pa_nil)))
      (pss_cons (ps_set (i := 10) sc__law_drawn_rule.nd rfl (Or.inl rfl) (pe_ix (ix_listK (K := K) rfl) (pe_lst (pa_cons pe_int (pa_cons pe_int (pa_cons pe_int (pa_cons (pe_op op_add pe_int (pe_call C__law_haul.ok (hr.mono (by decide)) rfl C__law_haul.at_ C__law_haul.kp C__law_haul.bd .nil pass0 (pa_cons (pv 0) (pa_cons (pv 4) pa_nil)))) pa_nil))))) (pe_call C__law_haul.ok (hr.mono (by decide)) rfl C__law_haul.at_ C__law_haul.kp C__law_haul.bd .nil pass0 (pa_cons (pv 0) (pa_cons pe_int pa_nil))) (fun _ _ => rfl)))
      (pss_one (ps_ret (pe_tup (pa_cons (pv 5) (pa_cons (pv 9) (pa_cons (pe_callB (call_min2 rfl) (by rfl) T.min (by decide +kernel) (pa_cons (pv 10) (pa_cons (pv 4) pa_nil))) pa_nil)))))))))), ?_⟩
  rintro c ds xs ⟨n, fl, wl, m, top, hc, hn, rfl, hfl, hwl, hm, ht⟩
  obtain ⟨n0, hle, hc0, hmin⟩ := hc.least
  refine run_seqC (runx_tupM (ex_bits (.inr ⟨c, rfl⟩) (ex_opC (ex_of ev_int (ex_haul (.inr ⟨c, rfl⟩) (ev_var rfl) hc0 (by omega) (by omega) (by omega) fun d ds1 d0 d1 h1 => ⟨_, r2_add, 1 + d, ds1, _, rfl, .inr ⟨c, rfl⟩, h1, by omega, by omega, by omega, fun flag ds2 f1 f2 h2 => ⟨[], em_new, ?_⟩⟩)))))
  refine run_seq (M := fun δ => ∃ (ds' : List Dat) (ks : List (List Int)) (es : List (List L2.Key × Dat)) (s t : Slot), δ = [.b c ds', .d (.int fl), .d (.int wl), .d (.int m), .d (.int top), .d (w flag), .od es, s, t, .no, .no] ∧ es.map (·.1) = ks.map kw ∧ ks.Nodup ∧ (∀ k ∈ ks, Bits k ∧ 0 < k.length ∧ k.length ≤ 16) ∧ (∀ e ∈ es, Bit1 e.2) ∧ ks.length ≤ 8 ∧ CrOk ds' (n0 + 20000))
    (runx_forR (fun n i δ => n ≤ m ∧ ∃ (ds' : List Dat) (ks : List (List Int)) (es : List (List L2.Key × Dat)) (s t : Slot), δ = [.b c ds', .d (.int fl), .d (.int wl), .d (.int m), .d (.int top), .d (w flag), .od es, s, t, .no, .no] ∧ es.map (·.1) = ks.map kw ∧ ks.Nodup ∧ (∀ k ∈ ks, Bits k ∧ 0 < k.length ∧ k.length ≤ 16) ∧ (∀ e ∈ es, Bit1 e.2) ∧ ks.length ≤ i ∧ CrOk ds' (n0 + 2000 + 1100 * i))
      (exa_consC (ex_haul (.inr ⟨c, rfl⟩) (ev_op (ev_var rfl) ev_int r2_add) h2 (by omega) (by omega) (by omega) fun d ds3 d0 d1 h3 => exa_nil ⟨d, rfl, by omega, by omega, by omega, ds3, [], [], _, _, rfl, rfl, List.nodup_nil, (fun _ h => nomatch h), (fun _ h => nomatch h), Nat.le_refl _, h3.mono (by omega)⟩)) ?_ ?_) ?_
  · rintro n i δ hi ⟨hnm, ds', ks, es, s, t, rfl, hk, nd, hks, hes, hl, h4⟩
    refine run_seqC (runx_asg (ex_bits (.inr ⟨c, rfl⟩) (ex_opC (ex_of ev_int (ex_haul (.inr ⟨c, rfl⟩) (ev_var rfl) h4 (by omega) (by omega) (by omega) fun d ds5 d0 d1 h5 => ⟨_, r2_add, 1 + d, ds5, _, rfl, .inr ⟨c, rfl⟩, h5, by omega, by omega, by omega, fun wd ds6 w1 w2 h6 => ?_⟩)))))
    refine run_seq (M := fun δ => ∃ ds' wd, δ = [.b c ds', .d (.int fl), .d (.int wl), .d (.int m), .d (.int top), .d (w flag), .od es, .d (.int (i : Int)), .d (w wd), .no, .no] ∧ Bits wd ∧ 0 < wd.length ∧ wd.length ≤ 16 ∧ CrOk ds' (n0 + 2000 + 1100 * i + 1003))
      (runx_ifC (ext_test (ex_opC (ex_haul (.inr ⟨c, rfl⟩) ev_int h6 (by omega) (by decide) (by decide) fun d7 ds7 _ _ h7 => ex_of ev_int ⟨_, r2_eqI, _, rfl, fun _ => ?_, fun _ => run_next ⟨ds7, wd, rfl, w2, by omega, by omega, h7.mono (by omega)⟩⟩)))) ?_
    · obtain ⟨a, ha⟩ := Int.eq_ofNat_of_zero_le (a := if wl < (flag.length : Int) then wl else (flag.length : Int)) (by split <;> omega)
      have ha2 : 1 ≤ a ∧ a ≤ 16 ∧ a ≤ flag.length := by
        have : (if wl < (flag.length : Int) then wl else (flag.length : Int)) = (a : Int) := ha
        split at this <;> omega
      refine runx_asg (ex_cut (ex_of (ev_is (ev_cut (ev_var rfl) eo_none (eo_some (ev_is (ev_cb (ea_cons (ev_lenW (ev_var rfl)) (ea_cons (ev_var rfl) ea_nil)) rc_min2) (congrArg Dat.int ha)))) (congrArg w (cutI_to flag a))) ⟨_, rfl, exo_none (exo_some (ex_opC (ex_of ev_int (ex_haul (.inr ⟨c, rfl⟩) (ev_var rfl) h7 (by omega) (by omega) (by omega) fun d8 ds8 e0 e1 h8 => ⟨_, r2_add, 1 + d8, rfl, ds8, _, rfl, ?_, ?_, ?_, h8.mono (by omega)⟩))))⟩))
      all_goals obtain ⟨q, hq⟩ := Int.eq_ofNat_of_zero_le (a := 1 + d8) (by omega)
      all_goals rw [hq, cutI_to]
      · exact (f2.take _).take _
      · rw [List.length_take, List.length_take]
        omega
      · rw [List.length_take, List.length_take]
        omega
    · rintro δ ⟨ds9, wd, rfl, w2, w3, w4, h9⟩
      have hel : es.length = ks.length := by
        have := congrArg List.length hk
        rwa [List.length_map, List.length_map] at this
      refine runx_dput (ns := wd) (ex_haul (.inr ⟨c, rfl⟩) ev_int h9 (by omega) (by decide) (by decide) fun b ds10 b0 b1 h10 => ⟨es, rfl, ev_var rfl, by rw [hel]; exact big (by omega), hnm, ds10, if wd ∈ ks then ks else ks ++ [wd], _, _, _, rfl, keys_put hk wd _, ?_, ?_, ?_, ?_, h10.mono (by omega)⟩)
      · split
        · exact nd
        · rename_i hx
          exact List.nodup_append.mpr ⟨nd, List.pairwise_singleton _ _, fun a ha b hb e => hx (by rw [List.mem_singleton.mp hb] at e; exact e ▸ ha)⟩
      · intro k hk'
        split at hk'
        · exact hks k hk'
        · rcases List.mem_append.mp hk' with q | q
          · exact hks k q
          · rw [List.mem_singleton.mp q]
            exact ⟨w2, w3, w4⟩
      · intro e he
        rcases mem_putE he with q | q
        · exact hes e q
        · rw [q]
          exact ⟨b, rfl, by omega⟩
      · split
        · omega
        · rw [List.length_append, List.length_singleton]
          omega
  · rintro n δ ⟨hnm, ds', ks, es, s, t, rfl, hk, nd, hks, hes, hl, h4⟩
    exact ⟨ds', ks, es, s, t, rfl, hk, nd, hks, hes, by omega, h4.mono (by omega)⟩
  · rintro δ ⟨ds', ks, es, s, t, rfl, hk, nd, hks, hes, hl, h4⟩
    have val : ∀ k ∈ sortW ks, lk es (kw k) = some (.int (valI es k)) ∧ (valI es k = 0 ∨ valI es k = 1) := fun k hk' => by
      obtain ⟨x, hx, b, rfl, hb⟩ := lk_key hk ((sortW_perm ks).mem_iff.mp hk') (P := Bit1) hes
      unfold valI
      rw [hx]
      exact ⟨rfl, hb⟩
    have sl : (sortW ks).length = ks.length := (sortW_perm ks).length_eq
    refine run_seq1 (run_asg (ev_is (ev_tupL (er_ofN (en_lcL (js := [8]) (l := sortW ks) (enc := w) (f := fun _ => true) (v := fun k => rowD (k, valI es k)) (er_ofN (en_sorted (er_ofN (en_listD (ek_var rfl) hk)) fun k hk' => (hks k hk').2.1)) (by decide) (by rw [sl]; exact big (by omega)) fun k hk' => ⟨_, tg_name 8, et_yes, fun _ => ev_tup (ea_cons (ev_var rfl) (ea_cons (ev_dget (ek_var rfl) (ev_var rfl) (val k hk').1) ea_nil)) (by show 2 ≤ sizeLine; decide)⟩))) (y := .tup (((sortW ks).map fun k => (k, valI es k)).map rowD)) (by rw [filter_yes, List.map_map]; rfl)) rfl) ?_
    refine run_seqC (runx_asg (ex_opC (ex_lst (exa_consC (ex_of ev_int (exa_consC (ex_of ev_int (exa_consC (ex_of ev_int (exa_consC (ex_opC (ex_of ev_int (ex_haul (.inr ⟨c, rfl⟩) (ev_var rfl) h4 (by omega) (by omega) (by omega) fun d ds5 d0 d1 h5 => ⟨_, r2_add, exa_nil ⟨by show 4 ≤ sizeLine; decide, ex_haul (.inr ⟨c, rfl⟩) ev_int h5 (by omega) (by decide) (by decide) fun i ds6 i0 i1 h6 => ?_⟩⟩)))))))))))))
    obtain ⟨z, hz, z0, z1⟩ : ∃ z : Int, atI [Dat.int 1, Dat.int 1, Dat.int 2, Dat.int (1 + d)] i = some (.int z) ∧ 1 ≤ z ∧ z ≤ 17 := by
      have four : i = 0 ∨ i = 1 ∨ i = 2 ∨ i = 3 := by omega
      rcases four with rfl | rfl | rfl | rfl
      · exact ⟨1, rfl, by decide, by decide⟩
      · exact ⟨1, rfl, by decide, by decide⟩
      · exact ⟨2, rfl, by decide, by decide⟩
      · exact ⟨1 + d, rfl, by omega, by omega⟩
    refine ⟨_, r2_ixL hz, ?_⟩
    refine run_ret (ev_tup (ea_cons (ev_var rfl) (ea_cons (ev_var rfl) (ea_cons (ev_cb (ea_cons (ev_var rfl) (ea_cons (ev_var rfl) ea_nil)) rc_min2) ea_nil))) (by show 3 ≤ sizeLine; decide)) ⟨ds6, rfl, ⟨flag, (sortW ks).map fun k => (k, valI es k), if top < z then top else z⟩, rfl, ⟨⟨f2, by show 0 < flag.length; omega, by show flag.length ≤ 16; omega, ⟨?_, ?_⟩, ?_, ?_⟩, ?_, fun p hp q hq e => by
      obtain ⟨k, _, rfl⟩ := List.mem_map.mp hp
      obtain ⟨k', _, rfl⟩ := List.mem_map.mp hq
      have e' : k = k' := e
      rw [e'], ?_, ?_⟩, fun n' h' => h6.mono (by have := hmin n' h'; omega)⟩
    · rw [List.length_map]
      omega
    · intro p hp
      obtain ⟨k, hk', rfl⟩ := List.mem_map.mp hp
      obtain ⟨a1, a2, a3⟩ := hks k ((sortW_perm ks).mem_iff.mp hk')
      exact ⟨a1, a2, by show k.length ≤ 1000; omega, (val k hk').2⟩
    · show 1 ≤ if top < z then top else z
      split <;> omega
    · show (if top < z then top else z) ≤ 16
      split <;> omega
    · intro i p q hp hq
      rw [List.getElem?_map] at hp hq
      cases e1 : (sortW ks)[i]? with
      | none =>
        rw [e1] at hp
        cases hp
      | some a =>
        rw [e1] at hp
        cases e2 : (sortW ks)[i + 1]? with
        | none =>
          rw [e2] at hq
          cases hq
        | some b =>
          rw [e2] at hq
          cases hp
          cases hq
          exact srtd_next nd i a b e1 e2
    · intro p hp
      obtain ⟨k, hk', rfl⟩ := List.mem_map.mp hp
      exact (hks k ((sortW_perm ks).mem_iff.mp hk')).2.2
    · show ((sortW ks).map fun k => (k, valI es k)).length ≤ 8
      rw [List.length_map]
      omega
theorem Drawn.good {r : Rule} (h : Drawn r) : Good r := by
  have s := h.small
  refine ⟨bits_all s.flag, s.flag0, by have := s.flag1; omega, s.rows.many, fun p hp => ?_, h.order, s.chk0, ?_⟩
  · obtain ⟨a1, a2, a3, a4⟩ := s.rows.row p hp
    exact ⟨bits_all a1, a2, a3, by rcases a4 with z | z <;> rw [z] <;> rfl⟩
  · have c0 := s.chk0
    have c1 := s.chk1
    have := bits_of (x := r.chk - 1) (k := 4) (by omega) (by omega)
    omega
theorem wd_of {ns : List Int} (h : Bits ns) (hl : ns.length ≤ 100000) : Wd ns := ⟨bits_all h, hl⟩
def Pre__law_any_rule (ds xs : List Dat) : Prop := ∃ (n : Nat) (b : Bool), CrOk ds n ∧ n < 2 ^ 56 ∧ xs = [.bl b]
def Rf__law_any_rule (ds xs : List Dat) (x : Dat) (ds' : List Dat) : Prop := ∃ r : Rule, x = r.dat ∧ Drawn r ∧ ∀ n, CrOk ds n → CrOk ds' (n + 60000)
theorem len__law_any_rule {ds xs : List Dat} (h : Pre__law_any_rule ds xs) : xs.length + 1 = 2 := by
  obtain ⟨_, _, _, _, rfl⟩ := h
  rfl
theorem ok__law_any_rule {f : Addr} {fd : FuncData} (F : Fun K "_law_any_rule" "_law_any_rule" s__law_any_rule f fd) {f__law_drawn_rule : Addr} {d__law_drawn_rule : FuncData} (C__law_drawn_rule : CalS P w0 K mg base "_law_drawn_rule" ["crate", "flag_here", "word_here", "many_here", "top"] 3 (PrC Rf__law_drawn_rule Pre__law_drawn_rule) f__law_drawn_rule d__law_drawn_rule) {f__law_haul : Addr} {d__law_haul : FuncData} (C__law_haul : CalS P w0 K mg base "_law_haul" ["crate", "below"] 1 (PrC Rf__law_haul Pre__law_haul) f__law_haul d__law_haul) : FnOk P w0 K mg base CX0 4 f fd ["crate", "great"] (PrC Rf__law_any_rule Pre__law_any_rule) := by
  refine fn_prC F sc__law_any_rule (fun ds xs h => len__law_any_rule h) fun cdv A outer s H E hr => ⟨_, (pss_cons (ps_if (PW.pt (pw_and (pt_val (pv 1)) (pw_and1 (pt_cmpR op_eq (pe_call C__law_haul.ok (hr.mono (by decide)) rfl C__law_haul.at_ C__law_haul.kp C__law_haul.bd .nil pass0 (pa_cons (pv 0) (pa_cons pe_int pa_nil))) pe_int (nomark _))))) (pss_one (ps_ret (pe_call C__law_drawn_rule.ok (hr.mono (by decide)) rfl C__law_drawn_rule.at_ C__law_drawn_rule.kp C__law_drawn_rule.bd .nil pass0 (pa_cons (pv 0) (pa_cons pe_int (pa_cons pe_int (pa_cons pe_int (pa_cons pe_int pa_nil)))))))) pss_nil)
      (pss_one (ps_ret (pe_call C__law_drawn_rule.ok (hr.mono (by decide)) rfl C__law_drawn_rule.at_ C__law_drawn_rule.kp C__law_drawn_rule.bd .nil pass0 (pa_cons (pv 0) (pa_cons pe_int (pa_cons pe_int (pa_cons pe_int (pa_cons pe_int pa_nil))))))))), ?_⟩
  rintro c ds xs ⟨n, b, hc, hn, rfl⟩
  obtain ⟨n0, hle, hc0, hmin⟩ := hc.least
  have fin : ∀ (r : Rule) (ds' : List Dat) (γ : Gam), Drawn r → CrOk ds' (n0 + 60000) → γ[0]? = some (Slot.b c ds') → ∃ ds', γ[0]? = some (Slot.b c ds') ∧ Rf__law_any_rule ds [.bl b] r.dat ds' := fun r ds' γ h1 h2 h3 => ⟨ds', h3, r, rfl, h1, fun n' h' => h2.mono (by have := hmin n' h'; omega)⟩
  have small : ∀ {N : Gam → Prop} (ds1 : List Dat), CrOk ds1 (n0 + 1) → Run (tRet (tCall (PrC Rf__law_drawn_rule Pre__law_drawn_rule) [] E0 (tCons (tVar 0) (tCons (tC (V.int 6)) (tCons (tC (V.int 5)) (tCons (tC (V.int 3)) (tCons (tC (V.int 4)) tNil))))))) [.b c ds1, .d (.bl b)] N (fun x δ => ∃ ds', δ[0]? = some (Slot.b c ds') ∧ Rf__law_any_rule ds [.bl b] x ds') := fun {N} ds1 h1 => by
    refine runx_ret (ex_lend (.inr ⟨c, rfl⟩) (exa_of (ea_cons ev_int (ea_cons ev_int (ea_cons ev_int (ea_cons ev_int ea_nil)))) ⟨ds1, .inr ⟨c, rfl⟩, ⟨_, 6, 5, 3, 4, h1, by omega, rfl, by decide, by decide, by decide, by decide⟩, fun x ds' hR => ?_⟩))
    obtain ⟨r, rfl, h2, h3⟩ := hR
    exact fin r ds' _ h2 ((h3 _ h1).mono (by omega)) rfl
  refine run_seqC (runx_ifC (ext_and (S1 := fun b' δ => b' = b ∧ δ = [.b c ds, .d (.bl b)]) (ext_of (et_B (ev_var rfl)) ⟨rfl, rfl⟩) ?_ ?_))
  · rintro δ ⟨eb, rfl⟩
    refine ext_test (ex_opC (ex_haul (.inr ⟨c, rfl⟩) ev_int hc0 (by omega) (by decide) (by decide) fun d ds1 d0 d1 h1 => ex_of ev_int ⟨_, r2_eqI, _, rfl, fun _ => ?_, fun _ => run_next (small ds1 h1)⟩))
    refine runx_ret (ex_lend (.inr ⟨c, rfl⟩) (exa_of (ea_cons ev_int (ea_cons ev_int (ea_cons ev_int (ea_cons ev_int ea_nil)))) ⟨ds1, .inr ⟨c, rfl⟩, ⟨_, 16, 16, 8, 16, h1, by omega, rfl, by decide, by decide, by decide, by decide⟩, fun x ds' hR => ?_⟩))
    obtain ⟨r, rfl, h2, h3⟩ := hR
    exact fin r ds' _ h2 ((h3 _ h1).mono (by omega)) rfl
  · rintro δ ⟨eb, rfl⟩
    exact ⟨(fun z => by cases z), fun _ => run_next (small ds (hc0.mono (by omega)))⟩
def Pre__law_payloads (ds xs : List Dat) : Prop := ∃ (n : Nat) (q m : Int), CrOk ds n ∧ n < 2 ^ 57 ∧ xs = [.int q, .int m] ∧ 0 ≤ q ∧ q ≤ 29 ∧ 0 ≤ m ∧ m ≤ 12
def Rf__law_payloads (ds xs : List Dat) (x : Dat) (ds' : List Dat) : Prop := ∃ (q m : Int) (pl : List (List Int)), xs = [.int q, .int m] ∧ x = .lst (pl.map w) ∧ (pl.length : Int) ≤ q ∧ (∀ p ∈ pl, Bits p ∧ (p.length : Int) ≤ m) ∧ ∀ n, CrOk ds n → CrOk ds' (n + 100000)
theorem len__law_payloads {ds xs : List Dat} (h : Pre__law_payloads ds xs) : xs.length + 1 = 3 := by
  obtain ⟨_, _, _, _, _, rfl, _⟩ := h
  rfl
theorem ok__law_payloads {f : Addr} {fd : FuncData} (F : Fun K "_law_payloads" "_law_payloads" s__law_payloads f fd) {f__law_bits : Addr} {d__law_bits : FuncData} (C__law_bits : CalS P w0 K mg base "_law_bits" ["crate", "size"] 2 (PrC Rf__law_bits Pre__law_bits) f__law_bits d__law_bits) {f__law_haul : Addr} {d__law_haul : FuncData} (C__law_haul : CalS P w0 K mg base "_law_haul" ["crate", "below"] 1 (PrC Rf__law_haul Pre__law_haul) f__law_haul d__law_haul) (T : Bs mg) : FnOk P w0 K mg base CX0 3 f fd ["crate", "many", "size"] (PrC Rf__law_payloads Pre__law_payloads) := by
  refine fn_prC F sc__law_payloads (fun ds xs h => len__law_payloads h) fun cdv A outer s H E hr => ⟨_, (pss_one (ps_ret (pe_lc (own := [("k", 3)]) rfl sc__law_payloads.nd (pi_range1 (by rfl) T.range (pa_cons (pe_call C__law_haul.ok (hr.mono (by decide)) rfl C__law_haul.at_ C__law_haul.kp C__law_haul.bd .nil pass0 (pa_cons (pv 0) (pa_cons (pe_op op_add (pv 1) pe_int) pa_nil))) pa_nil)) (blkOk_by (own := [("k", 3)]) (N := N__law_payloads) (sc := defScope s__law_payloads) (by decide +kernel)) (fun _ _ _ _ _ => (pg_name (i := 3) sc__law_payloads.nd rfl (Or.inl rfl))) (fun _ _ _ _ _ => pts_nil) (fun _ _ _ _ _ => (pe_call C__law_bits.ok (hr.mono (by decide)) rfl C__law_bits.at_ C__law_bits.kp C__law_bits.bd .nil pass0 (pa_cons (pv 0) (pa_cons (pe_call C__law_haul.ok (hr.mono (by decide)) rfl C__law_haul.at_ C__law_haul.kp C__law_haul.bd .nil pass0 (pa_cons (pv 0) (pa_cons (pe_op op_add (pv 2) pe_int) pa_nil))) pa_nil))))))), ?_⟩
  rintro c ds xs ⟨n, q, m, hc, hn, rfl, q0, q1, hm, hm1⟩
  obtain ⟨n0, hle, hc0, hmin⟩ := hc.least
  have hz := big (n := 40) (by decide)
  refine runx_ret (ex_lcRX (j := 3) (fun n i δ zs => n ≤ q ∧ ∃ (ds' : List Dat) (pl : List (List Int)), δ = [.b c ds', .d (.int q), .d (.int m), .no] ∧ zs = pl.map w ∧ pl.length = i ∧ (∀ p ∈ pl, Bits p ∧ (p.length : Int) ≤ m) ∧ CrOk ds' (n0 + 1 + 1001 * i)) (by decide)
    (exa_consC (ex_haul (.inr ⟨c, rfl⟩) (ev_op (ev_var rfl) ev_int r2_add) hc0 (by omega) (by omega) (by omega) fun d ds1 d0 d1 h1 => exa_nil ⟨d, rfl, by omega, by omega, by omega, ds1, [], rfl, rfl, rfl, (fun p hp => nomatch hp), h1⟩)) ?_ ?_ ?_)
  · rintro n i δ zs ⟨_, ds', pl, rfl, _⟩ v hv s hs
    rw [List.mem_singleton.mp hv] at hs
    cases hs
    rfl
  · rintro n i δ zs hi ⟨h4, ds', pl, rfl, rfl, hl, hp, hk⟩
    refine ex_bits (.inr ⟨c, rfl⟩) (ex_haul (.inr ⟨c, rfl⟩) (ev_op (ev_var rfl) ev_int r2_add) hk (by omega) (by omega) (by omega) fun d ds2 d0 d1 h2 => ⟨d, ds2, _, rfl, .inr ⟨c, rfl⟩, h2, by omega, d0, by omega, fun ns ds3 e1 e2 h3 => ⟨h4, ds3, pl ++ [ns], rfl, ?_, ?_, ?_, h3.mono (by omega)⟩⟩)
    · rw [List.map_append]
      rfl
    · rw [List.length_append, List.length_singleton, hl]
    · intro p q
      rcases List.mem_append.mp q with q | q
      · exact hp p q
      · rw [List.mem_singleton.mp q]
        exact ⟨e2, by omega⟩
  · rintro n δ zs ⟨h4, ds', pl, rfl, rfl, hl, hp, hk⟩
    exact ⟨ds', rfl, q, m, pl, rfl, rfl, by omega, hp, fun n' h' => hk.mono (by have := hmin n' h'; omega)⟩
end
end Fr

set_option Elab.async false
set_option linter.all false
set_option maxRecDepth 100000
set_option maxHeartbeats 4000000
namespace Fr
open PySem PySem.Spec PyProof.Rows L2
open Evl (Ex)
abbrev s__law_bent_line : Stmt := topS 81
abbrev N__law_bent_line : List Str := ["crate", "line", "mark", "letters", "spot", "sign", "way", "words", "at"]
theorem sc__law_bent_line : FnScope N__law_bent_line ["crate", "line", "mark"] (defScope s__law_bent_line) := ⟨rfl, rfl, rfl, by decide +kernel, rfl, by decide +kernel, by decide +kernel⟩
section
variable {P : Program} {w0 : World} {K : PySem.W.Frag} {mg : Str → Option Value} {base : Heap}
/-! ## l[::-1], t[i] with an effect -/
theorem pe_revLK {X : Cx} {K : PySem.W.Frag} {e : Expr} {te : TE} {k : Nat} {c1 c2 c3 pos : Pos} (hk : X.K = K) (he : PE X e te) : PE X (.Subscript e (.Slice none none (some (.UnaryOp .USub (.Constant (.int 1) k c1) c2)) c3) pos) (tRevL K te) := hk ▸ pe_revL he
theorem en_revL {K : PySem.W.Frag} {γ : Gam} {te : TE} {xs : List Dat} (h : EvR te γ xs) : EvN (tRevL K te) γ xs.reverse := fun H0 A H σ k Q q =>
  h H0 A H σ k _ fun l us B H1 g1 h1 r1 => ⟨l, us, rfl, SqL.of h1, fun p hp => q p us.reverse B _ (g1.trans (Gr.newU g1.sub hp)) (Evl.fresh_back g1.up hp) (Evl.fresh_back g1.sub hp) upd_same (Reps.rev r1)⟩
theorem r2_ixS {a : Str} {i : Int} {c : Nat} (hz : a.length ≤ sizeLine) (hc : atI a.cps.toList i = some c) : R2D rIxS (.str a) (.int i) (.str ⟨#[c]⟩) := fun A H vx vy s r1 r2 Q q => by
  cases r1
  cases r2
  exact ⟨a, i, c, rfl, rfl, hz, hc, q _ A H (Gr.refl s) (.str _)⟩
/-! ## texts put together of parts -/
theorem cutA_upto {α : Type} (xs : List α) (k : Nat) : cutA xs none (some (k : Int)) = xs.take k := by
  unfold cutA
  rw [HT.sIx_none, HT.sIx_nat, List.drop_zero, Nat.sub_zero, ← List.take_eq_take_min]
theorem cutS_to (a : Str) (k : Nat) : (cutS a none (some (k : Int))).length ≤ k := by
  rw [TL.len_tl]
  unfold cutS
  rw [TL.tl_mk, HT.sIx_none, HT.sIx_nat, List.length_take]
  omega
theorem cutS_from (a : Str) (k : Nat) : (cutS a (some (k : Int)) none).length ≤ a.length - k := by
  rw [TL.len_tl]
  unfold cutS
  rw [TL.tl_mk, HT.sIx_none, HT.sIx_nat, List.length_take, List.length_drop, show a.cps.toList.length = a.length from (TL.len_tl a).symm]
  omega
/-- how much room parts take -/
def wtS (k : Nat) (l : List Str) : Nat := (l.map fun p => p.length + k).sum
theorem wt_app (k : Nat) (x y : List Str) : wtS k (x ++ y) = wtS k x + wtS k y := by
  unfold wtS
  rw [List.map_append, List.sum_append]
theorem wt_take (k i : Nat) (l : List Str) : wtS k (l.take i) + wtS k (l.drop i) = wtS k l := by rw [← wt_app, List.take_append_drop]
theorem wt_cut (k : Nat) (l : List Str) (lo hi : Option Int) : wtS k (cutA l lo hi) ≤ wtS k l := by
  unfold cutA
  have h1 := wt_take k (HT.sIx l.length l.length hi - HT.sIx l.length 0 lo) (l.drop (HT.sIx l.length 0 lo))
  have h2 := wt_take k (HT.sIx l.length 0 lo) l
  omega
theorem wt_from (k i : Nat) (l : List Str) (hi : Option Int) : wtS k (l.take i) + wtS k (cutA l (some (i : Int)) hi) ≤ wtS k l := by
  unfold cutA
  rw [HT.sIx_nat]
  have h1 := wt_take k (HT.sIx l.length l.length hi - min i l.length) (l.drop (min i l.length))
  have h2 := wt_take k (min i l.length) l
  rw [← List.take_eq_take_min] at h2
  omega
theorem wt_rev (k : Nat) (l : List Str) : wtS k l.reverse = wtS k l := by
  unfold wtS
  rw [List.map_reverse, List.sum_reverse]
theorem wt_one {k : Nat} : ∀ {l : List Str} {p : Str}, p ∈ l → wtS k [p] ≤ wtS k l
  | q :: l, p, h => by
    have e : wtS k (q :: l) = wtS k [q] + wtS k l := wt_app k [q] l
    rcases List.mem_cons.mp h with rfl | h
    · omega
    · have := wt_one (k := k) h
      omega
theorem joinL_wt (S : List Nat) : ∀ l : List (List Nat), l ≠ [] → (TL.joinL S l).length + S.length = (l.map fun p => p.length + S.length).sum
  | [], h => absurd rfl h
  | [q], _ => by simp [TL.joinL]
  | q :: r :: l, _ => by
    have := joinL_wt S (r :: l) (List.cons_ne_nil _ _)
    show (q ++ (S ++ TL.joinL S (r :: l))).length + S.length = (q.length + S.length) + ((r :: l).map fun p => p.length + S.length).sum
    rw [List.length_append, List.length_append]
    omega
theorem wt_eq (m : Str) (l : List Str) : wtS m.length l = ((l.map TL.tl).map fun p => p.length + (TL.tl m).length).sum := by
  unfold wtS
  rw [List.map_map]
  exact congrArg List.sum (List.map_congr_left fun p _ => by
    show p.length + m.length = (TL.tl p).length + (TL.tl m).length
    rw [← TL.len_tl, ← TL.len_tl])
theorem join_wt (m : Str) (l : List Str) (hl : l ≠ []) : (Txt.join m l).length + m.length = wtS m.length l := by
  rw [wt_eq, ← joinL_wt _ _ (fun z => hl (List.map_eq_nil_iff.mp z)), TL.len_tl, TL.join_eq, TL.tl_join, ← TL.len_tl]
theorem split_wt (a m : Str) : wtS m.length (Txt.split a m) = a.length + m.length := by
  rw [wt_eq, ← joinL_wt _ _ (fun z => split_ne a m (List.map_eq_nil_iff.mp z)), split_back, ← TL.len_tl, ← TL.len_tl]
theorem wt_sum (k : Nat) (l : List Str) : (l.map (·.length)).sum + l.length * k = wtS k l := by
  unfold wtS
  induction l with
  | nil => simp
  | cons p l ih =>
    rw [List.map_cons, List.map_cons, List.sum_cons, List.sum_cons, List.length_cons, Nat.succ_mul]
    omega
theorem len_wt {k : Nat} (hk : 1 ≤ k) (l : List Str) : l.length ≤ wtS k l := by
  have h := wt_sum k l
  have h1 : l.length * 1 ≤ l.length * k := Nat.mul_le_mul_left _ hk
  omega
/-- no end without a blank is longer -/
def TailB (N : Nat) (b : Str) : Prop := ∀ pre k : List Nat, TL.tl b = pre ++ k → 32 ∉ k → k.length ≤ N
theorem TailB.of {N : Nat} {b : Str} (h : b.length ≤ N) : TailB N b := fun pre k e _ => by
  rw [TL.len_tl, e, List.length_append] at h
  omega
theorem joinL_tail {N : Nat} : ∀ l : List (List Nat), (∀ p ∈ l, p.length ≤ N) → ∀ pre k : List Nat, TL.joinL [32] l = pre ++ k → 32 ∉ k → k.length ≤ N
  | [], _, pre, k, e, _ => by
    have : (pre ++ k).length = 0 := by rw [← e]; rfl
    rw [List.length_append] at this
    omega
  | [q], h, pre, k, e, _ => by
    have h1 := h q List.mem_cons_self
    have e : q = pre ++ k := e
    rw [e, List.length_append] at h1
    omega
  | q :: r :: l, h, pre, k, e, hk => by
    have ih := joinL_tail (r :: l) fun p hp => h p (List.mem_cons_of_mem _ hp)
    have e : (q ++ [32]) ++ TL.joinL [32] (r :: l) = pre ++ k := by
      rw [List.append_assoc]
      exact e
    rcases List.append_eq_append_iff.mp e with ⟨c, e1, e2⟩ | ⟨c, e1, e2⟩
    · exact ih c k e2 hk
    · rcases List.eq_nil_or_concat c with z | ⟨c', x, z⟩
      · rw [z, List.nil_append] at e2
        exact ih [] k e2.symm hk
      · rw [List.concat_eq_append] at z
        rw [z, ← List.append_assoc] at e1
        have := (List.append_inj' e1 rfl).2
        injection this with this
        exact absurd (by rw [e2, z, ← this]; simp) hk
theorem join_tail {N : Nat} {l : List Str} (h : ∀ p ∈ l, p.length ≤ N) : TailB N (Txt.join " " l) := fun pre k e hk => by
  rw [TL.join_eq, TL.tl_join, show TL.tl (" " : Str) = [32] from by decide +kernel] at e
  refine joinL_tail (l.map TL.tl) (fun q hq => ?_) pre k e hk
  obtain ⟨p, hp, rfl⟩ := List.mem_map.mp hq
  rw [← TL.len_tl]
  exact h p hp
/-- what is bent of a text, by a mark -/
structure BentT (a m b : Str) : Prop where
  len : b.length ≤ 2 * a.length + m.length
  tail : m = " " → TailB (a.length + 1) b
theorem BentT.short {a m b : Str} (h : b.length ≤ a.length + 1) (hm : 1 ≤ m.length) (h2 : b.length ≤ 2 * a.length + 1) : BentT a m b := ⟨by omega, fun _ => TailB.of h⟩
theorem BentT.join {a m : Str} {l : List Str} (hw : wtS m.length l ≤ 2 * wtS m.length (Txt.split a m)) (hp : ∀ p ∈ l, p ∈ Txt.split a m) : BentT a m (Txt.join m l) := by
  rw [split_wt] at hw
  refine ⟨?_, fun e => ?_⟩
  · by_cases z : l = []
    · subst z
      have : (Txt.join m []).length = 0 := by rw [TL.len_tl, TL.join_eq, TL.tl_join]; rfl
      omega
    · have := join_wt m l z
      omega
  · subst e
    exact join_tail fun p h => by have := split_part (hp p h); omega
theorem mem_cut {α : Type} {l : List α} {lo hi : Option Int} {p : α} (h : p ∈ cutA l lo hi) : p ∈ l := by
  unfold cutA at h
  exact List.mem_of_mem_drop (List.mem_of_mem_take h)
def signsT : Str := " ;,-/+0123456789abcdefghijklmnopqrstuvwxyzABFPZ_.:\n"
theorem signs_len : signsT.length = 51 := by decide +kernel
theorem sign_at {i : Int} (h0 : 0 ≤ i) (h1 : i < 51) : ∃ c, atI signsT.cps.toList i = some c := by
  obtain ⟨n, rfl⟩ := Int.eq_ofNat_of_zero_le h0
  have e : signsT.cps.toList.length = 51 := signs_len
  exact ⟨_, atI_nat (List.getElem?_eq_getElem (by rw [e]; omega))⟩
theorem len_sign (c : Nat) : (⟨#[c]⟩ : Str).length = 1 := rfl
def Pre__law_bent_line (ds xs : List Dat) : Prop := ∃ (n : Nat) (a m : Str), CrOk ds n ∧ n < 2 ^ 59 ∧ xs = [.str a, .str m] ∧ a.length ≤ 1000 ∧ 1 ≤ m.length ∧ m.length ≤ 2
def Rf__law_bent_line (ds xs : List Dat) (x : Dat) (ds' : List Dat) : Prop := ∃ (a m b : Str), xs = [.str a, .str m] ∧ x = .str b ∧ BentT a m b ∧ ∀ n, CrOk ds n → CrOk ds' (n + 4)
theorem len__law_bent_line {ds xs : List Dat} (h : Pre__law_bent_line ds xs) : xs.length + 1 = 3 := by
  obtain ⟨_, _, _, _, _, rfl, _⟩ := h
  rfl
theorem ok__law_bent_line {f : Addr} {fd : FuncData} (F : Fun K "_law_bent_line" "_law_bent_line" s__law_bent_line f fd) {f__law_haul : Addr} {d__law_haul : FuncData} (C__law_haul : CalS P w0 K mg base "_law_haul" ["crate", "below"] 1 (PrC Rf__law_haul Pre__law_haul) f__law_haul d__law_haul) (T : Bs mg) : FnOk P w0 K mg base CX0 2 f fd ["crate", "line", "mark"] (PrC Rf__law_bent_line Pre__law_bent_line) := by
  refine fn_prC F sc__law_bent_line (fun ds xs h => len__law_bent_line h) fun cdv A outer s H E hr => ⟨_, (pss_cons (ps_set (i := 3) sc__law_bent_line.nd rfl (Or.inl rfl) pe_str)
      (pss_cons (ps_par (i := 4) (j := 5) (by rfl) sc__law_bent_line.nd rfl rfl (by decide) rfl rfl (pa_cons (pe_call C__law_haul.ok (hr.mono (by decide)) rfl C__law_haul.at_ C__law_haul.kp C__law_haul.bd .nil pass0 (pa_cons (pv 0) (pa_cons (pe_op op_add (pe_callB cr_lenStr (by rfl) T.len PySem.boot_len (pa_cons (pv 1) pa_nil)) pe_int) pa_nil))) (pa_cons (pe_ix ix_str (pv 3) (pe_call C__law_haul.ok (hr.mono (by decide)) rfl C__law_haul.at_ C__law_haul.kp C__law_haul.bd .nil pass0 (pa_cons (pv 0) (pa_cons (pe_callB cr_lenStr (by rfl) T.len PySem.boot_len (pa_cons (pv 3) pa_nil)) pa_nil))) (fun _ _ => rfl)) pa_nil)) (by rfl))
      (pss_cons (ps_par (i := 6) (j := 7) (by rfl) sc__law_bent_line.nd rfl rfl (by decide) rfl rfl (pa_cons (pe_call C__law_haul.ok (hr.mono (by decide)) rfl C__law_haul.at_ C__law_haul.kp C__law_haul.bd .nil pass0 (pa_cons (pv 0) (pa_cons pe_int pa_nil))) (pa_cons (pe_m1 PySem.F.slot_str_split PySem.F.type_str_split mt_splitS (pv 1) (pv 2)) pa_nil)) (by rfl))
      (pss_cons (ps_set (i := 8) sc__law_bent_line.nd rfl (Or.inl rfl) (pe_call C__law_haul.ok (hr.mono (by decide)) rfl C__law_haul.at_ C__law_haul.kp C__law_haul.bd .nil pass0 (pa_cons (pv 0) (pa_cons (pe_callB (call_lenK (K := K) rfl) (by rfl) T.len PySem.boot_len (pa_cons (pv 7) pa_nil)) pa_nil))))
      (pss_cons (ps_if (pt_cmpR op_eq (pv 6) pe_int (nomark _)) (pss_one (ps_ret (pe_op op_catS2 (pe_op op_catS2 (pe_slice sl_str (pv 1) po_none (po_some (pv 4))) (pv 5)) (pe_slice sl_str (pv 1) (po_some (pv 4)) po_none)))) pss_nil)
      (pss_cons (ps_if (pt_cmpR op_eq (pv 6) pe_int (nomark _)) (pss_one (ps_ret (pe_op op_catS2 (pe_slice sl_str (pv 1) po_none (po_some (pv 4))) (pe_slice sl_str (pv 1) (po_some (pe_op op_add (pv 4) pe_int)) po_none)))) pss_nil)
      (pss_cons (ps_if (pt_cmpR op_eq (pv 6) pe_int (nomark _)) (pss_one (ps_ret (pe_op op_catS2 (pe_op op_catS2 (pe_slice sl_str (pv 1) po_none (po_some (pv 4))) (pv 5)) (pe_slice sl_str (pv 1) (po_some (pe_op op_add (pv 4) pe_int)) po_none)))) pss_nil)
      (pss_cons (ps_if (pt_cmpR op_eq (pv 6) pe_int (nomark _)) (pss_one (ps_ret (pe_m1 PySem.F.slot_str_join PySem.F.type_str_join (mt_joinK (K := K) rfl) (pv 2) (pe_op op_cat (pe_slice (sl_listK (K := K) rfl) (pv 7) po_none (po_some (pv 8))) (pe_slice (sl_listK (K := K) rfl) (pv 7) (po_some (pe_op op_add (pv 8) pe_int)) po_none))))) pss_nil)
      (pss_cons (ps_if (pt_cmpR op_eq (pv 6) pe_int (nomark _)) (pss_one (ps_ret (pe_m1 PySem.F.slot_str_join PySem.F.type_str_join (mt_joinK (K := K) rfl) (pv 2) (pe_op op_cat (pe_op op_cat (pe_slice (sl_listK (K := K) rfl) (pv 7) po_none (po_some (pv 8))) (pe_lst (pa_cons (pe_ix (ix_listK (K := K) rfl) (pv 7) (pv 8) (fun _ _ => rfl)) pa_nil))) (pe_slice (sl_listK (K := K) rfl) (pv 7) (po_some (pv 8)) po_none))))) pss_nil)
      (pss_one (ps_ret (pe_m1 PySem.F.slot_str_join PySem.F.type_str_join (mt_joinK (K := K) rfl) (pv 2) (pe_op op_cat (pe_op op_cat (pe_slice (sl_listK (K := K) rfl) (pv 7) po_none (po_some (pv 8))) (pe_revLK (K := K) rfl (pe_slice (sl_listK (K := K) rfl) (pv 7) (po_some (pv 8)) (po_some (pe_op op_add (pv 8) pe_int))))) (pe_slice (sl_listK (K := K) rfl) (pv 7) (po_some (pe_op op_add (pv 8) pe_int)) po_none)))))))))))))), ?_⟩
  rintro c ds xs ⟨n, a, m, hc, hn, rfl, ha, hm1, hm2⟩
  obtain ⟨n0, hle, hc0, hmin⟩ := hc.least
  have bg := big (n := 9000) (by decide)
  refine run_seq1 (run_asg ev_str rfl) ?_
  show Run _ [.b c ds, .d (.str a), .d (.str m), .d (.str signsT), _, _, _, _, _] _ _
  have sl := signs_len
  refine run_seqC (runx_par (exa_consC (ex_haul (.inr ⟨c, rfl⟩) (ev_op (ev_lenS (ev_var rfl) (by omega)) ev_int r2_add) hc0 (by omega) (by omega) (by omega) fun s ds1 s0 s1 h1 => exa_consC (ex_opC (ex_of (ev_var rfl) (ex_haul (.inr ⟨c, rfl⟩) (ev_is (ev_lenS (a := signsT) (ev_var rfl) (by omega)) (congrArg (fun k : Nat => Dat.int (k : Int)) sl)) h1 (by omega) (by decide) (by decide) fun t ds2 t0 t1 h2 => ?_))))))
  obtain ⟨sg, hsg⟩ := sign_at t0 t1
  refine ⟨_, r2_ixS (by rw [sl]; omega) hsg, exa_nil ⟨_, _, rfl, ?_⟩⟩
  show Run _ [.b c ds2, .d (.str a), .d (.str m), .d (.str signsT), .d (.int s), .d (.str ⟨#[sg]⟩), _, _, _] _ _
  have mb : (m.length == 0) = false := by
    cases z : m.length == 0 with
    | false => rfl
    | true =>
      have := eq_of_beq z
      omega
  have sm := split_many (a := a) (b := m) (by rw [← TL.len_tl]; omega)
  refine run_seqC (runx_par (exa_consC (ex_haul (.inr ⟨c, rfl⟩) ev_int h2 (by omega) (by decide) (by decide) fun wy ds3 w0 w1 h3 => exa_of (ea_cons (ev_ofN (en_split (ev_var rfl) (ev_var rfl) mb (by omega))) ea_nil) ⟨_, _, rfl, ?_⟩)))
  show Run _ [.b c ds3, .d (.str a), .d (.str m), .d (.str signsT), .d (.int s), .d (.str ⟨#[sg]⟩), .d (.int wy), .d (.lst ((Txt.split a m).map .str)), _] _ _
  have lp : 0 < (Txt.split a m).length := List.length_pos_iff.mpr (split_ne a m)
  refine run_seqC (runx_asg (ex_haul (.inr ⟨c, rfl⟩) (ev_is (ev_lenL (er_ofD (ev_var rfl))) (congrArg (fun k : Nat => Dat.int (k : Int)) (List.length_map ..))) h3 (by omega) (by omega) (by omega) fun q ds4 q0 q1 h4 => ?_))
  show Run _ [.b c ds4, .d (.str a), .d (.str m), .d (.str signsT), .d (.int s), .d (.str ⟨#[sg]⟩), .d (.int wy), .d (.lst ((Txt.split a m).map .str)), .d (.int q)] _ _
  obtain ⟨s, rfl⟩ := Int.eq_ofNat_of_zero_le s0
  obtain ⟨q, rfl⟩ := Int.eq_ofNat_of_zero_le q0
  have fin : ∀ (b : Str) (δ : Gam), BentT a m b → δ[0]? = some (Slot.b c ds4) → ∃ ds', δ[0]? = some (Slot.b c ds') ∧ Rf__law_bent_line ds [.str a, .str m] (.str b) ds' := fun b δ hb e => ⟨ds4, e, a, m, b, rfl, rfl, hb, fun n' h' => h4.mono (by have := hmin n' h'; omega)⟩
  have hp0 : ∀ p ∈ Txt.split a m, p ∈ Txt.split a m := fun p h => h
  have e1 : ∀ k : Nat, ((k : Nat) : Int) + 1 = ((k + 1 : Nat) : Int) := fun k => rfl
  have e2 : ∀ k : Nat, ((k : Nat) : Int) + 2 = ((k + 2 : Nat) : Int) := fun k => rfl
  have l1 := cutS_to a s
  have l2 := cutS_from a s
  have l3 := cutS_from a (s + 1)
  have wq := wt_take m.length q (Txt.split a m)
  have wr := wt_from m.length q (Txt.split a m) (some ((q + 2 : Nat) : Int))
  have ww := split_wt a m
  generalize hL : Txt.split a m = L at *
  have mapS : ∀ (l : List Str) (lo hi : Option Int), cutA (l.map Dat.str) lo hi = (cutA l lo hi).map .str := fun l lo hi => cutA_mapF Dat.str l lo hi
  have lc : ∀ lo hi, (cutA L lo hi).length ≤ 1003 := fun lo hi => by
    have h1 := len_wt hm1 (cutA L lo hi)
    have h2 := wt_cut m.length L lo hi
    omega
  have lc1 : ∀ lo hi, wtS m.length (cutA L lo hi) ≤ 1002 := fun lo hi => by
    have h2 := wt_cut m.length L lo hi
    omega
  obtain ⟨p0, hp⟩ : ∃ p, L[q]? = some p := ⟨_, List.getElem?_eq_getElem (by omega)⟩
  have hpm := List.mem_of_getElem? hp
  have w1p := wt_one (k := m.length) hpm
  have hat : atI (L.map Dat.str) ((q : Nat) : Int) = some (.str p0) := atI_nat (by rw [List.getElem?_map, hp]; rfl)
  rcases (show wy = 0 ∨ wy = 1 ∨ wy = 2 ∨ wy = 3 ∨ wy = 4 ∨ wy = 5 by omega) with rfl | rfl | rfl | rfl | rfl | rfl
  · exact run_seq (M := fun _ => False) (run_if (b := true) (et_is (et_test (ev_op (ev_var rfl) ev_int r2_eqI)) rfl) (fun _ => run_ret (ev_op (ev_op (ev_cutS (ev_var rfl) eo_none (eo_some (ev_var rfl)) (by omega)) (ev_var rfl) (r2_catS (by rw [len_sign]; omega))) (ev_cutS (ev_var rfl) (eo_some (ev_var rfl)) eo_none (by omega)) (r2_catS (by rw [len_add, len_sign]; omega))) (fin _ _ (BentT.short (by rw [len_add, len_add, len_sign]; omega) hm1 (by rw [len_add, len_add, len_sign]; omega)) rfl)) (fun z => by cases z)) fun _ z => z.elim
  · refine run_seq1 (run_if (b := false) (et_is (et_test (ev_op (ev_var rfl) ev_int r2_eqI)) rfl) (fun z => by cases z) fun _ => run_next rfl) ?_
    exact run_seq (M := fun _ => False) (run_if (b := true) (et_is (et_test (ev_op (ev_var rfl) ev_int r2_eqI)) rfl) (fun _ => run_ret (ev_op (ev_cutS (ev_var rfl) eo_none (eo_some (ev_var rfl)) (by omega)) (ev_cutS (ev_var rfl) (eo_some (ev_op (ev_var rfl) ev_int r2_add)) eo_none (by omega)) (r2_catS (by rw [e1]; omega))) (fin _ _ (BentT.short (by rw [e1, len_add]; omega) hm1 (by rw [e1, len_add]; omega)) rfl)) (fun z => by cases z)) fun _ z => z.elim
  · refine run_seq1 (run_if (b := false) (et_is (et_test (ev_op (ev_var rfl) ev_int r2_eqI)) rfl) (fun z => by cases z) fun _ => run_next rfl) ?_
    refine run_seq1 (run_if (b := false) (et_is (et_test (ev_op (ev_var rfl) ev_int r2_eqI)) rfl) (fun z => by cases z) fun _ => run_next rfl) ?_
    exact run_seq (M := fun _ => False) (run_if (b := true) (et_is (et_test (ev_op (ev_var rfl) ev_int r2_eqI)) rfl) (fun _ => run_ret (ev_op (ev_op (ev_cutS (ev_var rfl) eo_none (eo_some (ev_var rfl)) (by omega)) (ev_var rfl) (r2_catS (by rw [len_sign]; omega))) (ev_cutS (ev_var rfl) (eo_some (ev_op (ev_var rfl) ev_int r2_add)) eo_none (by omega)) (r2_catS (by rw [len_add, len_sign, e1]; omega))) (fin _ _ (BentT.short (by rw [e1, len_add, len_add, len_sign]; omega) hm1 (by rw [e1, len_add, len_add, len_sign]; omega)) rfl)) (fun z => by cases z)) fun _ z => z.elim
  · refine run_seq1 (run_if (b := false) (et_is (et_test (ev_op (ev_var rfl) ev_int r2_eqI)) rfl) (fun z => by cases z) fun _ => run_next rfl) ?_
    refine run_seq1 (run_if (b := false) (et_is (et_test (ev_op (ev_var rfl) ev_int r2_eqI)) rfl) (fun z => by cases z) fun _ => run_next rfl) ?_
    refine run_seq1 (run_if (b := false) (et_is (et_test (ev_op (ev_var rfl) ev_int r2_eqI)) rfl) (fun z => by cases z) fun _ => run_next rfl) ?_
    exact run_seq (M := fun _ => False) (run_if (b := true) (et_is (et_test (ev_op (ev_var rfl) ev_int r2_eqI)) rfl) (fun _ => run_ret (ev_join (ys := (cutA L none (some ((q : Nat) : Int))) ++ (cutA L (some (((q : Nat) : Int) + 1)) none)) (ev_var rfl) (er_ofN (en_is (en_cat (er_ofN (en_is (en_slL (er_ofD (ev_var rfl)) eo_none (eo_some (ev_var rfl))) (mapS _ _ _))) (er_ofN (en_is (en_slL (er_ofD (ev_var rfl)) (eo_some (ev_op (ev_var rfl) ev_int r2_add)) eo_none) (mapS _ _ _))) (by rw [List.length_map, List.length_map]; (have := lc none (some ((q : Nat) : Int)); have := lc (some ((q : Nat) : Int)) none; have := lc (some (((q : Nat) : Int) + 1)) none; have := lc (some (((q : Nat) : Int) + 2)) none; have := lc (some ((q : Nat) : Int)) (some (((q : Nat) : Int) + 2)); omega))) List.map_append.symm)) (by rw [wt_sum]; rw [wt_app]; (have := lc1 none (some ((q : Nat) : Int)); have := lc1 (some ((q : Nat) : Int)) none; have := lc1 (some (((q : Nat) : Int) + 1)) none; have := lc1 (some (((q : Nat) : Int) + 2)) none; have := lc1 (some ((q : Nat) : Int)) (some (((q : Nat) : Int) + 2)); omega))) (fin _ _ (BentT.join (by rw [hL, wt_app, cutA_upto]; have := wt_cut m.length L (some (((q : Nat) : Int) + 1)) none; omega) fun p h => by rw [hL]; rcases List.mem_append.mp h with h | h; exact mem_cut h; exact mem_cut h) rfl)) (fun z => by cases z)) fun _ z => z.elim
  · refine run_seq1 (run_if (b := false) (et_is (et_test (ev_op (ev_var rfl) ev_int r2_eqI)) rfl) (fun z => by cases z) fun _ => run_next rfl) ?_
    refine run_seq1 (run_if (b := false) (et_is (et_test (ev_op (ev_var rfl) ev_int r2_eqI)) rfl) (fun z => by cases z) fun _ => run_next rfl) ?_
    refine run_seq1 (run_if (b := false) (et_is (et_test (ev_op (ev_var rfl) ev_int r2_eqI)) rfl) (fun z => by cases z) fun _ => run_next rfl) ?_
    refine run_seq1 (run_if (b := false) (et_is (et_test (ev_op (ev_var rfl) ev_int r2_eqI)) rfl) (fun z => by cases z) fun _ => run_next rfl) ?_
    exact run_seq (M := fun _ => False) (run_if (b := true) (et_is (et_test (ev_op (ev_var rfl) ev_int r2_eqI)) rfl) (fun _ => run_ret (ev_join (ys := (cutA L none (some ((q : Nat) : Int))) ++ [p0] ++ (cutA L (some ((q : Nat) : Int)) none)) (ev_var rfl) (er_ofN (en_is (en_cat (er_ofN (en_is (en_cat (er_ofN (en_is (en_slL (er_ofD (ev_var rfl)) eo_none (eo_some (ev_var rfl))) (mapS _ _ _))) (er_ofN (en_is (en_lst (ea_cons (ev_ixL (er_ofD (ev_var rfl)) (ev_var rfl) hat) ea_nil) (by show 1 ≤ sizeLine; decide)) (show [Dat.str p0] = [p0].map Dat.str from rfl))) (by rw [List.length_map, List.length_map, List.length_singleton]; (have := lc none (some ((q : Nat) : Int)); have := lc (some ((q : Nat) : Int)) none; have := lc (some (((q : Nat) : Int) + 1)) none; have := lc (some (((q : Nat) : Int) + 2)) none; have := lc (some ((q : Nat) : Int)) (some (((q : Nat) : Int) + 2)); omega))) List.map_append.symm)) (er_ofN (en_is (en_slL (er_ofD (ev_var rfl)) (eo_some (ev_var rfl)) eo_none) (mapS _ _ _))) (by rw [List.length_map, List.length_map, List.length_append, List.length_singleton]; (have := lc none (some ((q : Nat) : Int)); have := lc (some ((q : Nat) : Int)) none; have := lc (some (((q : Nat) : Int) + 1)) none; have := lc (some (((q : Nat) : Int) + 2)) none; have := lc (some ((q : Nat) : Int)) (some (((q : Nat) : Int) + 2)); omega))) List.map_append.symm)) (by rw [wt_sum]; rw [wt_app, wt_app]; (have := lc1 none (some ((q : Nat) : Int)); have := lc1 (some ((q : Nat) : Int)) none; have := lc1 (some (((q : Nat) : Int) + 1)) none; have := lc1 (some (((q : Nat) : Int) + 2)) none; have := lc1 (some ((q : Nat) : Int)) (some (((q : Nat) : Int) + 2)); omega))) (fin _ _ (BentT.join (by rw [hL, wt_app, wt_app, cutA_upto]; have := wt_from m.length q L none; omega) fun p h => by rw [hL]; rcases List.mem_append.mp h with h | h; rcases List.mem_append.mp h with h | h; exact mem_cut h; rw [List.mem_singleton.mp h]; exact hpm; exact mem_cut h) rfl)) (fun z => by cases z)) fun _ z => z.elim
  · refine run_seq1 (run_if (b := false) (et_is (et_test (ev_op (ev_var rfl) ev_int r2_eqI)) rfl) (fun z => by cases z) fun _ => run_next rfl) ?_
    refine run_seq1 (run_if (b := false) (et_is (et_test (ev_op (ev_var rfl) ev_int r2_eqI)) rfl) (fun z => by cases z) fun _ => run_next rfl) ?_
    refine run_seq1 (run_if (b := false) (et_is (et_test (ev_op (ev_var rfl) ev_int r2_eqI)) rfl) (fun z => by cases z) fun _ => run_next rfl) ?_
    refine run_seq1 (run_if (b := false) (et_is (et_test (ev_op (ev_var rfl) ev_int r2_eqI)) rfl) (fun z => by cases z) fun _ => run_next rfl) ?_
    refine run_seq1 (run_if (b := false) (et_is (et_test (ev_op (ev_var rfl) ev_int r2_eqI)) rfl) (fun z => by cases z) fun _ => run_next rfl) ?_
    exact run_ret (ev_join (ys := (cutA L none (some ((q : Nat) : Int))) ++ (cutA L (some ((q : Nat) : Int)) (some (((q : Nat) : Int) + 2))).reverse ++ (cutA L (some (((q : Nat) : Int) + 2)) none)) (ev_var rfl) (er_ofN (en_is (en_cat (er_ofN (en_is (en_cat (er_ofN (en_is (en_slL (er_ofD (ev_var rfl)) eo_none (eo_some (ev_var rfl))) (mapS _ _ _))) (er_ofN (en_is (en_revL (er_ofN (en_is (en_slL (er_ofD (ev_var rfl)) (eo_some (ev_var rfl)) (eo_some (ev_op (ev_var rfl) ev_int r2_add))) (mapS _ _ _)))) List.map_reverse.symm)) (by rw [List.length_map, List.length_map, List.length_reverse]; (have := lc none (some ((q : Nat) : Int)); have := lc (some ((q : Nat) : Int)) none; have := lc (some (((q : Nat) : Int) + 1)) none; have := lc (some (((q : Nat) : Int) + 2)) none; have := lc (some ((q : Nat) : Int)) (some (((q : Nat) : Int) + 2)); omega))) List.map_append.symm)) (er_ofN (en_is (en_slL (er_ofD (ev_var rfl)) (eo_some (ev_op (ev_var rfl) ev_int r2_add)) eo_none) (mapS _ _ _))) (by rw [List.length_map, List.length_map, List.length_append, List.length_reverse]; (have := lc none (some ((q : Nat) : Int)); have := lc (some ((q : Nat) : Int)) none; have := lc (some (((q : Nat) : Int) + 1)) none; have := lc (some (((q : Nat) : Int) + 2)) none; have := lc (some ((q : Nat) : Int)) (some (((q : Nat) : Int) + 2)); omega))) List.map_append.symm)) (by rw [wt_sum]; rw [wt_app, wt_app, wt_rev]; (have := lc1 none (some ((q : Nat) : Int)); have := lc1 (some ((q : Nat) : Int)) none; have := lc1 (some (((q : Nat) : Int) + 1)) none; have := lc1 (some (((q : Nat) : Int) + 2)) none; have := lc1 (some ((q : Nat) : Int)) (some (((q : Nat) : Int) + 2)); omega))) (fin _ _ (BentT.join (by rw [hL, wt_app, wt_app, wt_rev, cutA_upto]; have := wt_cut m.length L (some (((q : Nat) : Int) + 2)) none; have : wtS m.length (L.take q) + wtS m.length (cutA L (some ((q : Nat) : Int)) (some (((q : Nat) : Int) + 2))) ≤ wtS m.length L := wr; omega) fun p h => by rw [hL]; rcases List.mem_append.mp h with h | h; rcases List.mem_append.mp h with h | h; exact mem_cut h; exact mem_cut (List.mem_reverse.mp h); exact mem_cut h) rfl)
end
end Fr

set_option Elab.async false
set_option linter.all false
set_option maxRecDepth 100000
set_option maxHeartbeats 4000000
namespace Fr
open PySem PySem.Spec PyProof.Rows L2
open Evl (Ex)
abbrev s__law_bent_right : Stmt := topS 83
abbrev N__law_bent_right : List Str := ["crate", "way", "line", "mark", "turn", "bent", "heard", "good", "fine", "word"]
theorem sc__law_bent_right : FnScope N__law_bent_right ["crate", "way", "line", "mark"] (defScope s__law_bent_right) := ⟨rfl, rfl, rfl, by decide +kernel, rfl, by decide +kernel, by decide +kernel⟩
section
variable {c_InvalidText : Addr} {P : Program} {w0 : World} {K : PySem.W.Frag} {mg : Str → Option Value} {base : Heap}
theorem tame_row (p : List Int × Int) : Tame 2 (rowD p) := .tup fun d hd => by
  rcases List.mem_cons.mp hd with rfl | hd
  · exact tame_w _
  · rw [List.mem_singleton.mp hd]
    exact .int _
theorem tame_dat (r : Rule) : Tame 4 r.dat := .tup fun d hd => by
  rcases List.mem_cons.mp hd with rfl | hd
  · exact (tame_w _).mono.mono
  rcases List.mem_cons.mp hd with rfl | hd
  · refine .tup fun d hd => ?_
    obtain ⟨p, _, rfl⟩ := List.mem_map.mp hd
    exact tame_row p
  · rw [List.mem_singleton.mp hd]
    exact .int _
theorem tame_ws (ps : List (List Int)) : Tame 2 (.lst (ps.map w)) := .lst fun d hd => by
  obtain ⟨p, _, rfl⟩ := List.mem_map.mp hd
  exact tame_w p
theorem r2_eqStr {K : PySem.W.Frag} {n : Nat} {d : Dat} {t : Str} (h : Tame n d) (hn : n ≤ 60) (ht : PyData.strOk t = true) (e : PyData.eqv (py d) (py (.str t)) = false) : R2D (rEqD K) d (.str t) (.bl false) := by
  have k := h.ok
  have k2 := (Tame.str (n := 1) ht).ok
  have z := r2_eqD (K := K) k.1 k2.1 (k.shaped hn) (k2.shaped (by decide))
  rw [e] at z
  exact z
theorem r2_neStr {K : PySem.W.Frag} {n : Nat} {d : Dat} {t : Str} (h : Tame n d) (hn : n ≤ 60) (ht : PyData.strOk t = true) (e : PyData.eqv (py d) (py (.str t)) = false) : R2D (rNeD K) d (.str t) (.bl true) := by
  have k := h.ok
  have k2 := (Tame.str (n := 1) ht).ok
  have z := r2_neD (K := K) k.1 k2.1 (k.shaped hn) (k2.shaped (by decide))
  rw [e] at z
  exact z
theorem odd_ok : PyData.strOk ("odd" : Str) = true := by decide +kernel
theorem ref_ok : PyData.strOk ("refused" : Str) = true := by decide +kernel
theorem ref_odd : PyData.eqv (py (.str "refused")) (py (.str "odd")) = false := by decide +kernel
theorem eqv_tupS (xs : List Dat) (t : Str) : PyData.eqv (py (.tup xs)) (py (.str t)) = false := by
  show PyData.eqv (.tuple (pys xs)) (.str t) = false
  simp [PyData.eqv]
theorem eqv_lstS (xs : List Dat) (t : Str) : PyData.eqv (py (.lst xs)) (py (.str t)) = false := by
  show PyData.eqv (.list (pys xs)) (.str t) = false
  simp [PyData.eqv]
/-- a bent text is short -/
structure Kz (b : Str) : Prop where
  len : b.length ≤ 999
  tail : TailB 560 b
theorem numT_free {k : Str} (h : numT k = true) : 32 ∉ TL.tl k := fun hm => by
  have := (numT_all h).1 32 hm
  omega
theorem joinL_last (S : List Nat) : ∀ (l : List (List Nat)) (q : List Nat), ∃ pre, TL.joinL S (l ++ [q]) = pre ++ q
  | [], q => ⟨[], rfl⟩
  | [p], q => ⟨p ++ S, by rw [List.append_assoc]; rfl⟩
  | p :: r :: l, q => by
    obtain ⟨pre, e⟩ := joinL_last S (r :: l) q
    refine ⟨p ++ (S ++ pre), ?_⟩
    show p ++ (S ++ TL.joinL S ((r :: l) ++ [q])) = _
    rw [e, List.append_assoc, List.append_assoc]
theorem Kz.num {a k : Str} (h : Kz a) (hk : lastT a = "check " ++ k) (nk : numT k = true) : k.length ≤ 560 := by
  have e0 := split_back a "; "
  have e1 : Txt.split a "; " = (partsT a).dropLast ++ [lastT a] := (List.dropLast_concat_getLast (split_ne a _)).symm
  rw [e1, List.map_append, List.map_singleton] at e0
  obtain ⟨pre, e2⟩ := joinL_last (TL.tl ("; " : Str)) ((partsT a).dropLast.map TL.tl) (TL.tl (lastT a))
  rw [e2, hk, TL.tl_append, ← List.append_assoc] at e0
  rw [TL.len_tl]
  exact h.tail _ _ e0.symm (numT_free nk)
def Pre__law_bent_right (ds xs : List Dat) : Prop := ∃ (n : Nat) (t : Int) (a m : Str), CrOk ds n ∧ n < 2 ^ 58 ∧ xs = [.int t, .str a, .str m] ∧ 0 ≤ t ∧ t ≤ 2 ∧ a.length ≤ 246 ∧ 1 ≤ m.length ∧ m.length ≤ 2
def Rf__law_bent_right (ds xs : List Dat) (x : Dat) (ds' : List Dat) : Prop := x = .bl true ∧ ∀ n, CrOk ds n → CrOk ds' (n + 100)
theorem len__law_bent_right {ds xs : List Dat} (h : Pre__law_bent_right ds xs) : xs.length + 1 = 4 := by
  obtain ⟨_, _, _, _, _, _, rfl, _⟩ := h
  rfl
theorem list_heard {K : PySem.W.Frag} {cT : Addr} {bt : Str} (hl : bt.length ≤ 999) :
    (∃ ws : List (List Int), PsW ws ∧ R_parse_payloads [.str bt] (.lst (ws.map w)) ∧ listS ws = bt ∧ (decide (bt = "none") || ((Txt.split bt " ").filter fun p => !wordT p).isEmpty) = true) ∨
    (RE_parse_payloads K cT [.str bt] (.ref cT) ∧ (decide (bt = "none") || ((Txt.split bt " ").filter fun p => !wordT p).isEmpty) = false) := by
  have hF : Few bt " " := few_of (by omega) (by decide +kernel)
  rcases list_cases bt with rfl | ⟨hn, hw⟩ | ⟨hn, i0, p0, h1, h2, h3⟩
  · exact .inl ⟨[], ⟨Nat.zero_le _, fun _ h => nomatch h⟩, ⟨"none", by decide +kernel, rfl, .inl ⟨rfl, rfl⟩⟩, listS_nil, by rw [decide_eq_true rfl]; rfl⟩
  · refine .inl ⟨(Txt.split bt " ").map wordV, ⟨by rw [List.length_map]; have := split_many (a := bt) (b := " ") (by decide +kernel); omega, fun p hp => ?_⟩, ⟨bt, by omega, rfl, .inr ⟨hn, hw, ?_⟩⟩, ?_, ?_⟩
    · obtain ⟨q, hq, rfl⟩ := List.mem_map.mp hp
      obtain ⟨v1, v2, v3⟩ := wordV_of (hw q hq)
      exact ⟨v1, by have := hF.part q hq; omega⟩
    · rw [List.map_map]
      rfl
    · unfold listS
      rw [if_neg (fun z => split_ne bt " " (List.map_eq_nil_iff.mp z)), List.map_map]
      exact list_back hw
    · rw [decide_eq_false hn, Bool.false_or, List.isEmpty_iff, List.filter_eq_nil_iff]
      intro p hp
      rw [hw p hp]
      decide
  · refine .inr ⟨⟨.str bt, rfl, rfl, .inr ⟨bt, i0, p0, rfl, hF, hn, h1, h2, h3⟩⟩, ?_⟩
    rw [decide_eq_false hn, Bool.false_or]
    cases z : ((Txt.split bt " ").filter fun p => !wordT p).isEmpty with
    | false => rfl
    | true =>
      rw [List.isEmpty_iff, List.filter_eq_nil_iff] at z
      exact absurd (by rw [h2]; rfl) (z p0 (List.mem_of_getElem? h1))
theorem ok__law_bent_right {f : Addr} {fd : FuncData} (F : Fun K "_law_bent_right" "_law_bent_right" s__law_bent_right f fd) {f__law_bent_line : Addr} {d__law_bent_line : FuncData} (C__law_bent_line : CalS P w0 K mg base "_law_bent_line" ["crate", "line", "mark"] 2 (PrC Rf__law_bent_line Pre__law_bent_line) f__law_bent_line d__law_bent_line) {f__law_parsed : Addr} {d__law_parsed : FuncData} (C__law_parsed : Cal P w0 K mg base "_law_parsed" ["way", "line"] 9 (R__law_parsed K c_InvalidText) f__law_parsed d__law_parsed) {f__law_haul : Addr} {d__law_haul : FuncData} (C__law_haul : CalS P w0 K mg base "_law_haul" ["crate", "below"] 1 (PrC Rf__law_haul Pre__law_haul) f__law_haul d__law_haul) {f__law_is_word_line : Addr} {d__law_is_word_line : FuncData} (C__law_is_word_line : Cal P w0 K mg base "_law_is_word_line" ["line"] 1 R__law_is_word_line f__law_is_word_line d__law_is_word_line) {f__law_word_line : Addr} {d__law_word_line : FuncData} (C__law_word_line : Cal P w0 K mg base "_law_word_line" ["word"] 1 R__law_word_line f__law_word_line d__law_word_line) {f__law_is_rule : Addr} {d__law_is_rule : FuncData} (C__law_is_rule : Cal P w0 K mg base "_law_is_rule" ["thing"] 2 (R__law_is_rule K) f__law_is_rule d__law_is_rule) {f__law_rule_line : Addr} {d__law_rule_line : FuncData} (C__law_rule_line : Cal P w0 K mg base "_law_rule_line" ["rule_here"] 2 R__law_rule_line f__law_rule_line d__law_rule_line) {f__law_list_line : Addr} {d__law_list_line : FuncData} (C__law_list_line : Cal P w0 K mg base "_law_list_line" ["many"] 2 R__law_list_line f__law_list_line d__law_list_line) (T : Bs mg) : FnOk P w0 K mg base CX0 10 f fd ["crate", "way", "line", "mark"] (PrC Rf__law_bent_right Pre__law_bent_right) := by
  refine fn_prC F sc__law_bent_right (fun ds xs h => len__law_bent_right h) fun cdv A outer s H E hr => ⟨_, (pss_cons (ps_for PassesOwn.never rfl (pi_range1 (by rfl) T.range (pa_cons pe_int pa_nil)) (pg_name (i := 4) sc__law_bent_right.nd rfl (Or.inl rfl)) (pss_cons (ps_set (i := 5) sc__law_bent_right.nd rfl (Or.inl rfl) (pe_call C__law_bent_line.ok (hr.mono (by decide)) rfl C__law_bent_line.at_ C__law_bent_line.kp C__law_bent_line.bd .nil pass0 (pa_cons (pv 0) (pa_cons (pv 2) (pa_cons (pv 3) pa_nil)))))
      (pss_cons (ps_if (pt_cmpR op_eq (pe_call C__law_haul.ok (hr.mono (by decide)) rfl C__law_haul.at_ C__law_haul.kp C__law_haul.bd .nil pass0 (pa_cons (pv 0) (pa_cons pe_int pa_nil))) pe_int (nomark _)) (pss_one (ps_set (i := 5) sc__law_bent_right.nd rfl (Or.inl rfl) (pe_call C__law_bent_line.ok (hr.mono (by decide)) rfl C__law_bent_line.at_ C__law_bent_line.kp C__law_bent_line.bd .nil pass0 (pa_cons (pv 0) (pa_cons (pv 5) (pa_cons pe_str pa_nil)))))) pss_nil)
      (pss_cons (ps_set (i := 6) sc__law_bent_right.nd rfl (Or.inl rfl) (pe_call C__law_parsed.ok (hr.mono (by decide)) rfl C__law_parsed.at_ C__law_parsed.kp C__law_parsed.bd .nil pass0 (pa_cons (pv 1) (pa_cons (pv 5) pa_nil))))
      (pss_cons (ps_if (pt_cmpR (op_eqK (K := K) rfl hr.units) (pv 6) pe_str (nomark _)) (pss_one (ps_ret pe_bl)) pss_nil)
      (pss_cons (ps_set (i := 7) sc__law_bent_right.nd rfl (Or.inl rfl) (pe_cmpR (op_neK (K := K) rfl hr.units) (pv 6) pe_str (nomark _)))
      (pss_cons (ps_if (PW.pt (pw_and (pt_cmpR op_eq (pv 1) pe_int (nomark _)) (pw_and1 (pt_cmpR op_ne (pv 7) (pe_call C__law_is_word_line.ok (hr.mono (by decide)) rfl C__law_is_word_line.at_ C__law_is_word_line.kp C__law_is_word_line.bd .nil pass0 (pa_cons (pv 5) pa_nil)) (nomark _))))) (pss_one (ps_ret pe_bl)) pss_nil)
      (pss_cons (ps_if (PW.pt (pw_and (pt_cmpR op_eq (pv 1) pe_int (nomark _)) (pw_and (pt_val (pv 7)) (pw_and1 (pt_cmpR op_ne (pe_call C__law_word_line.ok (hr.mono (by decide)) rfl C__law_word_line.at_ C__law_word_line.kp C__law_word_line.bd .nil pass0 (pa_cons (pv 6) pa_nil)) (pv 5) (nomark _)))))) (pss_one (ps_ret pe_bl)) pss_nil)
      (pss_cons (ps_if (PW.pt (pw_and (pt_cmpR op_eq (pv 1) pe_int (nomark _)) (pw_and (pt_val (pv 7)) (pw_and1 (PW.pt (pw_or (pt_not (pt_val (pe_call C__law_is_rule.ok (hr.mono (by decide)) rfl C__law_is_rule.at_ C__law_is_rule.kp C__law_is_rule.bd .nil pass0 (pa_cons (pv 6) pa_nil)))) (pw_or1 (pt_cmpR op_ne (pe_call C__law_rule_line.ok (hr.mono (by decide)) rfl C__law_rule_line.at_ C__law_rule_line.kp C__law_rule_line.bd .nil pass0 (pa_cons (pv 6) pa_nil)) (pv 5) (nomark _))))))))) (pss_one (ps_ret pe_bl)) pss_nil)
      (pss_cons (ps_set (i := 8) sc__law_bent_right.nd rfl (Or.inl rfl) (pe_or (pe_cmpR op_eq (pv 5) pe_str (nomark _)) (pe_one (pe_cmpR (op_eqNilK (K := K) rfl hr.units0) (pe_lc (own := [("word", 9)]) rfl sc__law_bent_right.nd (pi_listK (K := K) rfl (pe_m1 PySem.F.slot_str_split PySem.F.type_str_split mt_splitS (pv 5) pe_str)) (blkOk_by (own := [("word", 9)]) (N := N__law_bent_right) (sc := defScope s__law_bent_right) (by decide +kernel)) (fun _ _ _ _ _ => (pg_name (i := 9) sc__law_bent_right.nd rfl (Or.inl rfl))) (fun _ _ _ _ _ => (pts_one (pt_not (pt_val (pe_call C__law_is_word_line.ok (hr.mono (by decide)) rfl C__law_is_word_line.at_ C__law_is_word_line.kp C__law_is_word_line.bd .nil pass0 (pa_cons (pv 9) pa_nil)))))) (fun _ _ _ _ _ => (pv 9))) (pe_lst pa_nil) (nomark _)))))
      (pss_one (ps_if (PW.pt (pw_and (pt_cmpR op_eq (pv 1) pe_int (nomark _)) (pw_and1 (PW.pt (pw_or (pt_cmpR op_ne (pv 7) (pv 8) (nomark _)) (pw_or1 (PW.pt (pw_and (pt_val (pv 7)) (pw_and1 (pt_cmpR op_ne (pe_call C__law_list_line.ok (hr.mono (by decide)) rfl C__law_list_line.at_ C__law_list_line.kp C__law_list_line.bd .nil pass0 (pa_cons (pv 6) pa_nil)) (pv 5) (nomark _))))))))))) (pss_one (ps_ret pe_bl)) pss_nil))))))))))))
      (pss_one (ps_ret pe_bl))), ?_⟩
  rintro c ds xs ⟨n, t, a, m, hc, hn, rfl, t0, t2, ha, hm1, hm2⟩
  obtain ⟨n0, hle, hc0, hmin⟩ := hc.least
  have bg := big (n := 9000) (by decide)
  refine run_seqC (run_forR (n := 9) (ea_cons ev_int ea_nil) ⟨by decide, by decide⟩ (fun i δ => ∃ ds' s4 s5 s6 s7 s8 s9, δ = [.b c ds', .d (.int t), .d (.str a), .d (.str m), s4, s5, s6, s7, s8, s9] ∧ CrOk ds' (n0 + 10 * i)) ⟨ds, _, _, _, _, _, _, rfl, hc0⟩ ?_ ?_)
  · rintro i δ hi ⟨ds1, s4, s5, s6, s7, s8, s9, rfl, k1⟩
    refine run_seqC (runx_asg (ex_lend (i := 0) (.inr ⟨c, rfl⟩) (exa_of (ea_cons (ev_var rfl) (ea_cons (ev_var rfl) ea_nil)) ⟨ds1, .inr ⟨c, rfl⟩, ⟨_, a, m, k1, by omega, rfl, by omega, hm1, hm2⟩, fun x ds2 hR => ?_⟩)))
    obtain ⟨a', m', b1, e, rfl, hb1, hk⟩ := hR
    injection e with e1 e2
    injection e2 with e2 _
    injection e1 with e1
    injection e2 with e2
    subst e1 e2
    have k2 := hk _ k1
    have l1 := hb1.len
    clear hk
    show Run _ [.b c ds2, .d (.int t), .d (.str a), .d (.str m), .d (.int (i : Nat)), .d (.str b1), s6, s7, s8, s9] _ _
    refine run_seq (M := fun δ => ∃ ds4 bt, δ = [.b c ds4, .d (.int t), .d (.str a), .d (.str m), .d (.int (i : Nat)), .d (.str bt), s6, s7, s8, s9] ∧ Kz bt ∧ CrOk ds4 (n0 + 10 * (i + 1))) (runx_ifC (ext_test (ex_opC (ex_haul (.inr ⟨c, rfl⟩) ev_int k2 (by omega) (by decide) (by decide) fun d ds3 d0 d1 k3 => ex_of ev_int ⟨_, r2_eqI, _, rfl, fun _ => ?_, fun _ => run_next ⟨ds3, b1, rfl, ⟨by omega, TailB.of (by omega)⟩, k3.mono (by omega)⟩⟩)))) ?_
    · refine runx_asg (ex_lend (i := 0) (.inr ⟨c, rfl⟩) (exa_of (ea_cons (ev_var rfl) (ea_cons ev_str ea_nil)) ⟨ds3, .inr ⟨c, rfl⟩, ⟨_, b1, " ", k3, by omega, rfl, by omega, by decide +kernel, by decide +kernel⟩, fun x ds4 hR => ?_⟩))
      obtain ⟨a', m', b2, e, rfl, hb2, hk⟩ := hR
      injection e with e1 e2
      injection e2 with e2 _
      injection e1 with e1
      injection e2 with e2
      subst e1 e2
      have l2 := hb2.len
      have l3 : (" " : Str).length = 1 := by decide +kernel
      have t2 := hb2.tail rfl
      exact ⟨ds4, b2, rfl, ⟨by omega, fun pre k e hk => by have := t2 pre k e hk; omega⟩, (hk _ k3).mono (by omega)⟩
    clear hb1 l1 k2 k1 ds1 ds2
    rintro δ ⟨ds4, bt, rfl, hz, k4⟩
    have zl := hz.len
    have sm := split_many (a := bt) (b := " ") (by decide +kernel)
    obtain (⟨rfl, hb⟩ | ⟨rfl, hb⟩) | (⟨rfl, hb⟩ | ⟨rfl, hb⟩) | (⟨rfl, hb⟩ | ⟨rfl, hb⟩) : ((t = 0 ∧ wordT bt = true) ∨ (t = 0 ∧ wordT bt = false)) ∨ ((t = 1 ∧ ∃ r : Rule, isRuleD r.dat = true ∧ R_parse_rule [.str bt] r.dat ∧ WrW r ∧ ruleS r = bt) ∨ (t = 1 ∧ BadRule bt)) ∨
        ((t = 2 ∧ ∃ ws : List (List Int), PsW ws ∧ R_parse_payloads [.str bt] (.lst (ws.map w)) ∧ listS ws = bt ∧ (decide (bt = "none") || ((Txt.split bt " ").filter fun p => !wordT p).isEmpty) = true) ∨
        (t = 2 ∧ RE_parse_payloads K c_InvalidText [.str bt] (.ref c_InvalidText) ∧ (decide (bt = "none") || ((Txt.split bt " ").filter fun p => !wordT p).isEmpty) = false)) := by
      rcases (show t = 0 ∨ t = 1 ∨ t = 2 by omega) with e | e | e
      · cases h : wordT bt with
        | true => exact .inl (.inl ⟨e, rfl⟩)
        | false => exact .inl (.inr ⟨e, rfl⟩)
      · rcases rule_told zl fun k => hz.num with h | h
        · exact .inr (.inl (.inr ⟨e, h⟩))
        · exact .inr (.inl (.inl ⟨e, h⟩))
      · rcases list_heard (K := K) (cT := c_InvalidText) zl with h | h
        · exact .inr (.inr (.inl ⟨e, h⟩))
        · exact .inr (.inr (.inr ⟨e, h⟩))
    · obtain ⟨v1, v2, v3⟩ := wordV_of hb
      refine run_seq1 (run_asg (ev_call (ea_cons (ev_var rfl) (ea_cons (ev_var rfl) ea_nil)) ⟨0, .str bt, rfl, .inl ⟨rfl, wordV bt, v1, by omega, by rw [v2], rfl⟩⟩) rfl) ?_
      refine run_seq1 (run_if (b := false) (et_test (ev_op (ev_var rfl) ev_str (r2_eqStr (tame_w _) (by decide) odd_ok (eqv_tupS _ _)))) (fun z => by cases z) fun _ => run_next rfl) ?_
      refine run_seq1 (run_asg (x := .bl true) (ev_op (ev_var rfl) ev_str (r2_neStr (tame_w _) (by decide) ref_ok (eqv_tupS _ _))) rfl) ?_
      refine run_seq1 (run_if (b := false) (et_is (et_and (a := true) (b := false) (et_is (et_test (ev_op (ev_var rfl) ev_int r2_eqI)) rfl) fun _ => (et_is (et_test (ev_op (ev_var rfl) (ev_call (ea_cons (ev_var rfl) ea_nil) ⟨bt, by omega, rfl, rfl⟩) r2_neB)) (by rw [hb]; rfl))) rfl) (fun z => by cases z) fun _ => run_next rfl) ?_
      refine run_seq1 (run_if (b := false) (et_is (et_and (a := true) (b := false) (et_is (et_test (ev_op (ev_var rfl) ev_int r2_eqI)) rfl) fun _ => (et_is (et_and (a := true) (b := false) (et_B (ev_var rfl)) fun _ => (et_is (et_test (ev_op (ev_call (ea_cons (ev_var rfl) ea_nil) ⟨wordV bt, v1, by omega, rfl, rfl⟩) (ev_var rfl) r2_neS)) (by rw [decide_eq_true (by exact v2)]; rfl))) rfl)) rfl) (fun z => by cases z) fun _ => run_next rfl) ?_
      refine run_seq1 (run_if (b := false) (et_is (et_and (a := false) (b := false) (et_is (et_test (ev_op (ev_var rfl) ev_int r2_eqI)) rfl) fun z => by cases z) rfl) (fun z => by cases z) fun _ => run_next rfl) ?_
      refine run_seq1 (run_asg (ev_or (a := decide (bt = "none")) (b := ((Txt.split bt " ").filter fun p => !wordT p).isEmpty) (ev_op (ev_var rfl) ev_str r2_eqS) fun _ => ev_is (ev_op (ev_ofN (en_lcL (js := [9]) (l := Txt.split bt " ") (enc := Dat.str) (f := fun p => !wordT p) (v := fun p => Dat.str p) (er_ofN (en_split (ev_var rfl) ev_str (by decide +kernel) (by omega))) (by decide) (by omega) fun p hp => ⟨_, tg_name 9, et_not (et_B (ev_call (ea_cons (ev_var rfl) ea_nil) ⟨p, by have := split_part hp; omega, rfl, rfl⟩)), fun _ => ev_var rfl⟩)) (ev_ofN (en_lst ea_nil (Nat.zero_le _))) r2_eqNilA) (by rw [List.isEmpty_map])) rfl) ?_
      exact run_if (b := false) (et_is (et_and (a := false) (b := false) (et_is (et_test (ev_op (ev_var rfl) ev_int r2_eqI)) rfl) fun z => by cases z) rfl) (fun z => by cases z) fun _ => run_next ⟨ds4, _, _, _, _, _, _, rfl, k4⟩
    · skip
      refine run_seq1 (run_asg (ev_call (ea_cons (ev_var rfl) (ea_cons (ev_var rfl) ea_nil)) ⟨0, .str bt, rfl, .inr (.inr (.inr (.inl ⟨rfl, ⟨.str bt, rfl, rfl, .inr ⟨bt, rfl, by omega, hb⟩⟩, rfl⟩)))⟩) rfl) ?_
      refine run_seq1 (run_if (b := false) (et_test (ev_op (ev_var rfl) ev_str (r2_eqStr (.str (n := 1) ref_ok) (by decide) odd_ok ref_odd))) (fun z => by cases z) fun _ => run_next rfl) ?_
      refine run_seq1 (run_asg (x := .bl false) (ev_op (ev_var rfl) ev_str (r2_neT (.str (n := 1) ref_ok) (by decide))) rfl) ?_
      refine run_seq1 (run_if (b := false) (et_is (et_and (a := true) (b := false) (et_is (et_test (ev_op (ev_var rfl) ev_int r2_eqI)) rfl) fun _ => (et_is (et_test (ev_op (ev_var rfl) (ev_call (ea_cons (ev_var rfl) ea_nil) ⟨bt, by omega, rfl, rfl⟩) r2_neB)) (by rw [hb]; rfl))) rfl) (fun z => by cases z) fun _ => run_next rfl) ?_
      refine run_seq1 (run_if (b := false) (et_is (et_and (a := true) (b := false) (et_is (et_test (ev_op (ev_var rfl) ev_int r2_eqI)) rfl) fun _ => (et_is (et_and (a := false) (b := false) (et_B (ev_var rfl)) fun z => by cases z) rfl)) rfl) (fun z => by cases z) fun _ => run_next rfl) ?_
      refine run_seq1 (run_if (b := false) (et_is (et_and (a := false) (b := false) (et_is (et_test (ev_op (ev_var rfl) ev_int r2_eqI)) rfl) fun z => by cases z) rfl) (fun z => by cases z) fun _ => run_next rfl) ?_
      refine run_seq1 (run_asg (ev_or (a := decide (bt = "none")) (b := ((Txt.split bt " ").filter fun p => !wordT p).isEmpty) (ev_op (ev_var rfl) ev_str r2_eqS) fun _ => ev_is (ev_op (ev_ofN (en_lcL (js := [9]) (l := Txt.split bt " ") (enc := Dat.str) (f := fun p => !wordT p) (v := fun p => Dat.str p) (er_ofN (en_split (ev_var rfl) ev_str (by decide +kernel) (by omega))) (by decide) (by omega) fun p hp => ⟨_, tg_name 9, et_not (et_B (ev_call (ea_cons (ev_var rfl) ea_nil) ⟨p, by have := split_part hp; omega, rfl, rfl⟩)), fun _ => ev_var rfl⟩)) (ev_ofN (en_lst ea_nil (Nat.zero_le _))) r2_eqNilA) (by rw [List.isEmpty_map])) rfl) ?_
      exact run_if (b := false) (et_is (et_and (a := false) (b := false) (et_is (et_test (ev_op (ev_var rfl) ev_int r2_eqI)) rfl) fun z => by cases z) rfl) (fun z => by cases z) fun _ => run_next ⟨ds4, _, _, _, _, _, _, rfl, k4⟩
    · obtain ⟨r, hr1, hr2, hW, eT⟩ := hb
      refine run_seq1 (run_asg (ev_call (ea_cons (ev_var rfl) (ea_cons (ev_var rfl) ea_nil)) ⟨1, .str bt, rfl, .inr (.inl ⟨rfl, hr2⟩)⟩) rfl) ?_
      refine run_seq1 (run_if (b := false) (et_test (ev_op (ev_var rfl) ev_str (r2_eqStr (tame_dat r) (by decide) odd_ok (eqv_tupS _ _)))) (fun z => by cases z) fun _ => run_next rfl) ?_
      refine run_seq1 (run_asg (x := .bl true) (ev_op (ev_var rfl) ev_str (r2_neStr (tame_dat r) (by decide) ref_ok (eqv_tupS _ _))) rfl) ?_
      refine run_seq1 (run_if (b := false) (et_is (et_and (a := false) (b := false) (et_is (et_test (ev_op (ev_var rfl) ev_int r2_eqI)) rfl) fun z => by cases z) rfl) (fun z => by cases z) fun _ => run_next rfl) ?_
      refine run_seq1 (run_if (b := false) (et_is (et_and (a := false) (b := false) (et_is (et_test (ev_op (ev_var rfl) ev_int r2_eqI)) rfl) fun z => by cases z) rfl) (fun z => by cases z) fun _ => run_next rfl) ?_
      refine run_seq1 (run_if (b := false) (et_is (et_and (a := true) (b := false) (et_is (et_test (ev_op (ev_var rfl) ev_int r2_eqI)) rfl) fun _ => (et_is (et_and (a := true) (b := false) (et_B (ev_var rfl)) fun _ => (et_is (et_or (a := false) (b := false) (et_not (a := true) (et_is (et_B (ev_call (ea_cons (ev_var rfl) ea_nil) ⟨r.dat, rfl, rule_sz (by have := hW.f1; omega) (by have := hW.n1; omega) (fun p hp => by have := (hW.row p hp).2.1; omega), rfl⟩)) hr1)) fun _ => (et_is (et_test (ev_op (ev_call (ea_cons (ev_var rfl) ea_nil) ⟨r, hW, rfl, rfl⟩) (ev_var rfl) r2_neS)) (by rw [decide_eq_true (by exact eT)]; rfl))) rfl)) rfl)) rfl) (fun z => by cases z) fun _ => run_next rfl) ?_
      refine run_seq1 (run_asg (ev_or (a := decide (bt = "none")) (b := ((Txt.split bt " ").filter fun p => !wordT p).isEmpty) (ev_op (ev_var rfl) ev_str r2_eqS) fun _ => ev_is (ev_op (ev_ofN (en_lcL (js := [9]) (l := Txt.split bt " ") (enc := Dat.str) (f := fun p => !wordT p) (v := fun p => Dat.str p) (er_ofN (en_split (ev_var rfl) ev_str (by decide +kernel) (by omega))) (by decide) (by omega) fun p hp => ⟨_, tg_name 9, et_not (et_B (ev_call (ea_cons (ev_var rfl) ea_nil) ⟨p, by have := split_part hp; omega, rfl, rfl⟩)), fun _ => ev_var rfl⟩)) (ev_ofN (en_lst ea_nil (Nat.zero_le _))) r2_eqNilA) (by rw [List.isEmpty_map])) rfl) ?_
      exact run_if (b := false) (et_is (et_and (a := false) (b := false) (et_is (et_test (ev_op (ev_var rfl) ev_int r2_eqI)) rfl) fun z => by cases z) rfl) (fun z => by cases z) fun _ => run_next ⟨ds4, _, _, _, _, _, _, rfl, k4⟩
    · skip
      refine run_seq1 (run_asg (ev_call (ea_cons (ev_var rfl) (ea_cons (ev_var rfl) ea_nil)) ⟨1, .str bt, rfl, .inr (.inr (.inr (.inr (.inl ⟨rfl, ⟨.str bt, rfl, rfl, .inr ⟨bt, rfl, by omega, hb⟩⟩, rfl⟩))))⟩) rfl) ?_
      refine run_seq1 (run_if (b := false) (et_test (ev_op (ev_var rfl) ev_str (r2_eqStr (.str (n := 1) ref_ok) (by decide) odd_ok ref_odd))) (fun z => by cases z) fun _ => run_next rfl) ?_
      refine run_seq1 (run_asg (x := .bl false) (ev_op (ev_var rfl) ev_str (r2_neT (.str (n := 1) ref_ok) (by decide))) rfl) ?_
      refine run_seq1 (run_if (b := false) (et_is (et_and (a := false) (b := false) (et_is (et_test (ev_op (ev_var rfl) ev_int r2_eqI)) rfl) fun z => by cases z) rfl) (fun z => by cases z) fun _ => run_next rfl) ?_
      refine run_seq1 (run_if (b := false) (et_is (et_and (a := false) (b := false) (et_is (et_test (ev_op (ev_var rfl) ev_int r2_eqI)) rfl) fun z => by cases z) rfl) (fun z => by cases z) fun _ => run_next rfl) ?_
      refine run_seq1 (run_if (b := false) (et_is (et_and (a := true) (b := false) (et_is (et_test (ev_op (ev_var rfl) ev_int r2_eqI)) rfl) fun _ => (et_is (et_and (a := false) (b := false) (et_B (ev_var rfl)) fun z => by cases z) rfl)) rfl) (fun z => by cases z) fun _ => run_next rfl) ?_
      refine run_seq1 (run_asg (ev_or (a := decide (bt = "none")) (b := ((Txt.split bt " ").filter fun p => !wordT p).isEmpty) (ev_op (ev_var rfl) ev_str r2_eqS) fun _ => ev_is (ev_op (ev_ofN (en_lcL (js := [9]) (l := Txt.split bt " ") (enc := Dat.str) (f := fun p => !wordT p) (v := fun p => Dat.str p) (er_ofN (en_split (ev_var rfl) ev_str (by decide +kernel) (by omega))) (by decide) (by omega) fun p hp => ⟨_, tg_name 9, et_not (et_B (ev_call (ea_cons (ev_var rfl) ea_nil) ⟨p, by have := split_part hp; omega, rfl, rfl⟩)), fun _ => ev_var rfl⟩)) (ev_ofN (en_lst ea_nil (Nat.zero_le _))) r2_eqNilA) (by rw [List.isEmpty_map])) rfl) ?_
      exact run_if (b := false) (et_is (et_and (a := false) (b := false) (et_is (et_test (ev_op (ev_var rfl) ev_int r2_eqI)) rfl) fun z => by cases z) rfl) (fun z => by cases z) fun _ => run_next ⟨ds4, _, _, _, _, _, _, rfl, k4⟩
    · obtain ⟨ws, hP, hR, eT, HF⟩ := hb
      refine run_seq1 (run_asg (ev_call (ea_cons (ev_var rfl) (ea_cons (ev_var rfl) ea_nil)) ⟨2, .str bt, rfl, .inr (.inr (.inl ⟨rfl, hR⟩))⟩) rfl) ?_
      refine run_seq1 (run_if (b := false) (et_test (ev_op (ev_var rfl) ev_str (r2_eqStr (tame_ws ws) (by decide) odd_ok (eqv_lstS _ _)))) (fun z => by cases z) fun _ => run_next rfl) ?_
      refine run_seq1 (run_asg (x := .bl true) (ev_op (ev_var rfl) ev_str (r2_neStr (tame_ws ws) (by decide) ref_ok (eqv_lstS _ _))) rfl) ?_
      refine run_seq1 (run_if (b := false) (et_is (et_and (a := false) (b := false) (et_is (et_test (ev_op (ev_var rfl) ev_int r2_eqI)) rfl) fun z => by cases z) rfl) (fun z => by cases z) fun _ => run_next rfl) ?_
      refine run_seq1 (run_if (b := false) (et_is (et_and (a := false) (b := false) (et_is (et_test (ev_op (ev_var rfl) ev_int r2_eqI)) rfl) fun z => by cases z) rfl) (fun z => by cases z) fun _ => run_next rfl) ?_
      refine run_seq1 (run_if (b := false) (et_is (et_and (a := false) (b := false) (et_is (et_test (ev_op (ev_var rfl) ev_int r2_eqI)) rfl) fun z => by cases z) rfl) (fun z => by cases z) fun _ => run_next rfl) ?_
      refine run_seq1 (run_asg (ev_or (a := decide (bt = "none")) (b := ((Txt.split bt " ").filter fun p => !wordT p).isEmpty) (ev_op (ev_var rfl) ev_str r2_eqS) fun _ => ev_is (ev_op (ev_ofN (en_lcL (js := [9]) (l := Txt.split bt " ") (enc := Dat.str) (f := fun p => !wordT p) (v := fun p => Dat.str p) (er_ofN (en_split (ev_var rfl) ev_str (by decide +kernel) (by omega))) (by decide) (by omega) fun p hp => ⟨_, tg_name 9, et_not (et_B (ev_call (ea_cons (ev_var rfl) ea_nil) ⟨p, by have := split_part hp; omega, rfl, rfl⟩)), fun _ => ev_var rfl⟩)) (ev_ofN (en_lst ea_nil (Nat.zero_le _))) r2_eqNilA) (by rw [List.isEmpty_map])) rfl) ?_
      exact run_if (b := false) (et_is (et_and (a := true) (b := false) (et_is (et_test (ev_op (ev_var rfl) ev_int r2_eqI)) rfl) fun _ => (et_is (et_or (a := false) (b := false) (et_is (et_test (ev_op (ev_var rfl) (ev_var rfl) r2_neB)) (by rw [HF]; rfl)) fun _ => (et_is (et_and (a := true) (b := false) (et_B (ev_var rfl)) fun _ => (et_is (et_test (ev_op (ev_call (ea_cons (ev_var rfl) ea_nil) ⟨ws, hP, rfl, rfl⟩) (ev_var rfl) r2_neS)) (by rw [decide_eq_true eT]; rfl))) rfl)) rfl)) rfl) (fun z => by cases z) fun _ => run_next ⟨ds4, _, _, _, _, _, _, rfl, k4⟩
    · obtain ⟨hB, HF⟩ := hb
      refine run_seq1 (run_asg (ev_call (ea_cons (ev_var rfl) (ea_cons (ev_var rfl) ea_nil)) ⟨2, .str bt, rfl, .inr (.inr (.inr (.inr (.inr ⟨rfl, hB, rfl⟩))))⟩) rfl) ?_
      refine run_seq1 (run_if (b := false) (et_test (ev_op (ev_var rfl) ev_str (r2_eqStr (.str (n := 1) ref_ok) (by decide) odd_ok ref_odd))) (fun z => by cases z) fun _ => run_next rfl) ?_
      refine run_seq1 (run_asg (x := .bl false) (ev_op (ev_var rfl) ev_str (r2_neT (.str (n := 1) ref_ok) (by decide))) rfl) ?_
      refine run_seq1 (run_if (b := false) (et_is (et_and (a := false) (b := false) (et_is (et_test (ev_op (ev_var rfl) ev_int r2_eqI)) rfl) fun z => by cases z) rfl) (fun z => by cases z) fun _ => run_next rfl) ?_
      refine run_seq1 (run_if (b := false) (et_is (et_and (a := false) (b := false) (et_is (et_test (ev_op (ev_var rfl) ev_int r2_eqI)) rfl) fun z => by cases z) rfl) (fun z => by cases z) fun _ => run_next rfl) ?_
      refine run_seq1 (run_if (b := false) (et_is (et_and (a := false) (b := false) (et_is (et_test (ev_op (ev_var rfl) ev_int r2_eqI)) rfl) fun z => by cases z) rfl) (fun z => by cases z) fun _ => run_next rfl) ?_
      refine run_seq1 (run_asg (ev_or (a := decide (bt = "none")) (b := ((Txt.split bt " ").filter fun p => !wordT p).isEmpty) (ev_op (ev_var rfl) ev_str r2_eqS) fun _ => ev_is (ev_op (ev_ofN (en_lcL (js := [9]) (l := Txt.split bt " ") (enc := Dat.str) (f := fun p => !wordT p) (v := fun p => Dat.str p) (er_ofN (en_split (ev_var rfl) ev_str (by decide +kernel) (by omega))) (by decide) (by omega) fun p hp => ⟨_, tg_name 9, et_not (et_B (ev_call (ea_cons (ev_var rfl) ea_nil) ⟨p, by have := split_part hp; omega, rfl, rfl⟩)), fun _ => ev_var rfl⟩)) (ev_ofN (en_lst ea_nil (Nat.zero_le _))) r2_eqNilA) (by rw [List.isEmpty_map])) rfl) ?_
      exact run_if (b := false) (et_is (et_and (a := true) (b := false) (et_is (et_test (ev_op (ev_var rfl) ev_int r2_eqI)) rfl) fun _ => (et_is (et_or (a := false) (b := false) (et_is (et_test (ev_op (ev_var rfl) (ev_var rfl) r2_neB)) (by rw [HF]; rfl)) fun _ => (et_is (et_and (a := false) (b := false) (et_B (ev_var rfl)) fun z => by cases z) rfl)) rfl)) rfl) (fun z => by cases z) fun _ => run_next ⟨ds4, _, _, _, _, _, _, rfl, k4⟩
  · rintro δ ⟨ds', s4, s5, s6, s7, s8, s9, rfl, k⟩
    exact run_ret ev_bl ⟨ds', rfl, rfl, fun n' h' => k.mono (by have := hmin n' h'; omega)⟩
end
end Fr

set_option Elab.async false
set_option linter.all false
set_option maxRecDepth 100000
set_option maxHeartbeats 4000000
namespace Fr
open PySem PySem.Spec PyProof.Rows L2
open Evl (Ex)
/-! # for a, b in (written pairs of texts): .. f(1, text.replace(a, b)) ..: whether a is b is asked, so the tokens are told -/
/-- a pair of texts whose objects are known to be two -/
def Two (H : Hp) (a : Addr) (y z : Str) : Prop := ∃ o t u n, H a = some (.frz o (.tup [.str y, .str z])) ∧ o.cls = .type "tuple" ∧ o.data = .seq #[.str y t, .str z u] n ∧ t ≠ 0 ∧ u ≠ 0 ∧ t ≠ u
inductive Twos (H : Hp) : List Addr → List (Str × Str) → Prop
  | nil : Twos H [] []
  | cons {a as p ps} : Two H a p.1 p.2 → Twos H as ps → Twos H (a :: as) (p :: ps)
theorem Two.mono {H G : Hp} {a : Addr} {y z : Str} (h : Two H a y z) (e : Ex H G) : Two G a y z := by
  obtain ⟨o, t, u, n, h1, r⟩ := h
  exact ⟨o, t, u, n, e _ _ h1, r⟩
theorem Twos.mono {H G : Hp} (e : Ex H G) : ∀ {as : List Addr} {ps : List (Str × Str)}, Twos H as ps → Twos G as ps
  | _, _, .nil => .nil
  | _, _, .cons h r => .cons (h.mono e) (Twos.mono e r)
theorem Twos.app {H : Hp} : ∀ {as bs : List Addr} {ps qs : List (Str × Str)}, Twos H as ps → Twos H bs qs → Twos H (as ++ bs) (ps ++ qs)
  | _, _, _, _, .nil, h => h
  | _, _, _, _, .cons h r, q => .cons h (Twos.app r q)
theorem Twos.len {H : Hp} : ∀ {as : List Addr} {ps : List (Str × Str)}, Twos H as ps → as.length = ps.length
  | _, _, .nil => rfl
  | _, _, .cons _ r => congrArg (· + 1) (Twos.len r)
theorem Twos.get {H : Hp} : ∀ {as : List Addr} {ps : List (Str × Str)}, Twos H as ps → ∀ {i : Nat} {a : Addr}, as[i]? = some a → ∃ p, ps[i]? = some p ∧ Two H a p.1 p.2
  | _, _, .cons h _, 0, _, e => by
    cases e
    exact ⟨_, rfl, h⟩
  | _, _, .cons _ r, i + 1, _, e => Twos.get r (i := i) e
def tTwo (y z : Str) : TE := fun _ H Q => ∀ a o, H a = none → Two (upd H a (.frz o (.tup [.str y, .str z]))) a y z → Q (.ref a) (upd H a (.frz o (.tup [.str y, .str z])))
def tTwos : List (Str × Str) → TA
  | [] => tNil
  | p :: ps => tCons (tTwo p.1 p.2) (tTwos ps)
theorem upd_at {H : Hp} {a : Addr} {o : HO} : upd H a o a = some o := upd_same
section
variable {X : Cx} {pins : List (Addr × Obj)} {σ : L2.St} {H : Hp} {s : Shared}
theorem pet_two {y z : Str} {j0 j1 k : Nat} {c0 c1 pos : Pos} : PET X (.Tuple [.Constant (.str y) j0 c0, .Constant (.str z) j1 c1] k pos) (tTwo y z) := fun pins s σ H Q h0 I h => by
  have fresh : H s.heap.objs.size = none := I.hok.fresh (Nat.le_refl _)
  have two : 2 ≤ sizeLine := by decide
  refine wpAny_Tuple_spliced (show wpAny _ _ (spliced ((false, eval (.Constant (.str y) j0 c0) X.env) :: [(false, eval (.Constant (.str z) j1 c1) X.env)])) _ _ s from Calls.spliced_cons (Calls.Constant_str (Calls.spliced_cons (Calls.Constant_str (Calls.spliced_nil ⟨two, ?_⟩)))))
  refine ⟨.ref s.heap.objs.size, _, I.laid (t' := s.toks + 1 + 1) (o := .frz { cls := .type "tuple", data := .seq #[.str y s.toks, .str z (s.toks + 1)] } (.tup [.str y, .str z])) (fun b u e => Heap.get?_push_of_some _ e) (Nat.le_refl _) ⟨Heap.get?_push_size _ rfl, two, [.str y s.toks, .str z (s.toks + 1)], ?_, _, Heap.get?_push_size _ rfl, rfl, _, rfl⟩, rfl, ?_⟩
  · exact .cons ⟨_, rfl⟩ (.cons ⟨_, rfl⟩ .nil)
  · exact h _ _ fresh ⟨_, s.toks, s.toks + 1, _, upd_at, rfl, rfl, by show s.toks ≠ 0; omega, by show s.toks + 1 ≠ 0; omega, by show s.toks ≠ s.toks + 1; omega⟩
theorem pst_set {i : Nat} {x : Str} {e : Expr} {te : TE} {pos pos' : Pos} (hN : X.N.Nodup) (hi : X.N[i]? = some x) (hx : Loc X.env.scope x) (he : PET X e te) (hs : swapsWith e (some (.Name x pos')) pos.line X.env = pure false := by rfl)
    (hf : X.fn x = true ∨ X.env.scope.names.lookup x = some .local := by first | exact .inl rfl | exact .inr rfl | assumption) : PST X (.Assign [.Name x pos'] e pos) (tAsg te (gName i)) := fun pins s σ H D h0 I h =>
  wpAny_Assign_Name (thn (he pins s σ H _ h0 I h) fun v s1 ⟨y, H1, I1, r1, q1⟩ => store_ok I1 hN hi hx r1 (fun s2 I2 => ⟨_, H1, I2, q1⟩) hf) hs
/-- the map of the frame -/
def MapIs (X : Cx) (σ : L2.St) (s : Shared) (m : Str → Option Value) : Prop := s.heap.Ns X.env.locals m ∧ ∀ (j : Nat) (y : Str) (v : V), X.N[j]? = some y → σ[j]? = some (some v) → Vis X.env.scope y → ∃ u, RelV v u ∧ Look X.env s.heap m y u
theorem store_map {M : Model} {A : Around} {E : Value → Shared → Prop} {i : Nat} {x : Str} {v : V} {u : Value} {m : Str → Option Value} {Q : Unit → Shared → Prop} (I : Inv X pins σ H s) (hN : X.N.Nodup) (hi : X.N[i]? = some x) (hk : X.env.kindOf x = some .local) (r : RelV v u) (L : MapIs X σ s m)
    (h : ∀ s', Inv X pins (σ.set i (some v)) H s' → (∀ b, b ≠ X.env.locals → s'.heap.get? b = s.heap.get? b) → MapIs X (σ.set i (some v)) s' (fun y => if y = x then some u else m y) → Q () s') : wpAny M A (storeName X.env x u) Q E s := by
  obtain ⟨hn, hl⟩ := L
  have young : ∀ b o, X.s_0.heap.get? b = some o → b ≠ X.env.locals := fun b o e z => by
    subst z
    exact Nat.lt_irrefl _ (Nat.lt_of_lt_of_le (Heap.lt_size e) I.ok.above)
  have apart : ∀ y c, X.env.cells.lookup y = some c → c ≠ X.env.locals := fun y c e => I.cne y c e
  have isz : i < σ.length := I.len ▸ (List.getElem?_eq_some_iff.mp hi).1
  refine wpAny_storeName_local hk hn (fun h' hn' hs => ?_) (by rw [I.ok.kind]; rfl)
  have same : ∀ b, b ≠ X.env.locals → h'.get? b = s.heap.get? b := hs.2
  have look : MapIs X (σ.set i (some v)) { s with heap := h', toks := s.toks + 1 } (fun y => if y = x then some u else m y) := by
    refine ⟨hn', fun j y v' a b c => ?_⟩
    rcases Nat.decEq j i with ne | e
    · rw [List.getElem?_set_ne (Ne.symm ne)] at b
      obtain ⟨u', r', q⟩ := hl j y v' a b c
      have yx : y ≠ x := fun z => ne (nodup_ix hN a (z ▸ hi))
      refine ⟨u', r', q.elim (fun ⟨k1, k2⟩ => .inl ⟨k1, (if_neg yx).trans k2⟩) fun ⟨k1, c', k2, k3⟩ => .inr ⟨k1, c', k2, k3.sameBut hs (apart y c' k2)⟩⟩
    · subst e
      rw [List.getElem?_set_self isz] at b
      rw [hi] at a
      cases a
      cases b
      exact ⟨u, r, .inl ⟨hk, if_pos rfl⟩⟩
  refine h { s with heap := h', toks := s.toks + 1 } ?_ same look
  constructor
  case ok => exact I.ok
  case os => exact I.os
  case bare => exact I.bare
  case base => exact { keep := fun b o e n p q => (same b (young b o e)).trans (I.base.keep b o e n p q), slot := fun b o e n p q => (I.base.slot b o e n p q).imp fun sl z => (same b (young b o e)).trans z, free := I.base.free, there := fun b o e q => (I.base.there b o e q).imp fun o' z => (same b (young b o e)).trans z, tups := I.base.tups, frzs := I.base.frzs, tbls := I.base.tbls }
  case loc => exact ⟨_, look.1, look.2⟩
  case cell => exact fun y c e => (I.cell y c e).imp fun v z => z.sameBut hs (apart y c e)
  case free => exact I.free
  case freeC => exact I.freeC
  case pin => exact fun p hp => (I.pin p hp).imp (fun z => (same p.1 (I.pin p hp).2.2.1).trans z) id
  case hok => exact fun b o e => (I.hok b o e).stay (fun c w' hc q => (same c fun z => by
    subst z
    rcases hc with rfl | hc
    · rw [I.free] at e
      cases e
    · rw [I.free] at hc
      cases hc).trans q) (fun _ q => q) fun _ _ q => q
  case len => exact (List.length_set ..).trans I.len
/-- both names hold texts that are two objects -/
def Apart2 (X : Cx) (s : Shared) (a b y z : Str) : Prop := ∃ m t u, s.heap.Ns X.env.locals m ∧ m a = some (.str y t) ∧ m b = some (.str z u) ∧ t ≠ 0 ∧ u ≠ 0 ∧ t ≠ u
/-- a, b = a pair -/
theorem unpack_map {i j : Nat} {a b : Str} {pa pb pos : Pos} {k : Nat} {t : Addr} {y z : Str} {Q : Unit → Shared → Prop} (hc : X.calm = true) (I : Inv X pins σ H s) (hN : X.N.Nodup) (hi : X.N[i]? = some a) (hj : X.N[j]? = some b) (ka : X.env.kindOf a = some .local) (kb : X.env.kindOf b = some .local) (ne : b ≠ a) (hT : Two H t y z)
    (h : ∀ s', Inv X pins ((σ.set i (some (.str y))).set j (some (.str z))) H s' → (∀ c, c ≠ X.env.locals → ∀ o, s.heap.get? c = some o → s'.heap.get? c = some o) → Apart2 X s' a b y z → Q () s') : wpAny (model X.prog X.w) X.A (assign (.Tuple [.Name a pa, .Name b pb] k pos) X.env (.ref t)) Q X.xe s := by
  obtain ⟨o, tk, uk, n, e1, e2, e3, n1, n2, n3⟩ := hT
  have ok := I.hok t _ e1
  obtain ⟨g1, g2⟩ := ok
  refine assign_Tuple_tuple (I.ok.hd hc) (items := #[.str y tk, .str z uk]) ⟨o, g1, e2, n, e3⟩ rfl rfl fun h' hx => ?_
  have I1 : Inv X pins σ H { s with heap := h' } := I.kept (t' := s.toks) fun b o e => hx b o (Nat.ne_of_lt (Heap.lt_size e)) e
  obtain ⟨m, L⟩ := I1.loc
  show wpAny _ _ (assignInOrder [assign (.Name a pa) X.env, assign (.Name b pb) X.env] [.str y tk, .str z uk]) _ _ _
  refine assignInOrder_cons (wpAny_assign_Name (store_map I1 hN hi ka (v := .str y) ⟨tk, rfl⟩ L fun s2 I2 k2 L2 => ?_))
  refine assignInOrder_cons (wpAny_assign_Name (store_map I2 hN hj kb (v := .str z) ⟨uk, rfl⟩ L2 fun s3 I3 k3 L3 => ?_))
  refine assignInOrder_nil (h s3 I3 (fun c hc' o e => ((k3 c hc').trans (k2 c hc')).trans (hx c o (Nat.ne_of_lt (Heap.lt_size e)) e)) ⟨_, tk, uk, L3.1, ?_, ?_, n1, n2, n3⟩)
  · show (if a = b then _ else if a = a then _ else _) = _
    rw [if_neg (Ne.symm ne), if_pos rfl]
  · show (if b = b then _ else _) = _
    rw [if_pos rfl]
/-- f(1, text.replace(a, b)) -/
theorem call_repl {CX : CXT} {kk : Nat} {f : Addr} {fd : FuncData} {ps : List Str} {sp : Sp} {E : XK} {fx tx a b x y z : Str} {il j0 : Nat} {i0 : Int} {pf c0 pt pa pb apos pos pos2 : Pos} {Q : VK} (F : FnOk X.prog X.w X.K X.mg X.base CX kk f fd ps sp) (hr : Room kk X.A) (hg : Gl X fx) (hm : X.mg fx = some (.ref f)) (hk : PySem.W.keepIn X.K (.ref f) = true) (hb : Binds X.K fd ps []) (hx : Passes CX X E)
    (I : Inv X pins σ H s) (hil : X.N[il]? = some tx) (hv : Vis X.env.scope tx) (hσ : σ[il]? = some (some (.str x))) (ka : X.env.kindOf a = some .local) (kb : X.env.kindOf b = some .local) (hA : Apart2 X s a b y z) (hyz : (y == z) = false) (hz : x.length + (x.length + 1) * z.length ≤ 16777216)
    (h : sp ([.int i0, .str (Txt.replace x y z)] ++ []) H Q E)
    (hdb : (fx == ("__debug__" : Str)) = false := by decide) (hdt : (tx == ("__debug__" : Str)) = false := by decide) (hct : (tx == ("__classdict__" : Str)) = false := by decide) (hda : (a == ("__debug__" : Str)) = false := by decide) (hdc : (b == ("__debug__" : Str)) = false := by decide)
    (he : starEach [.Constant (.int i0) j0 c0, .Call (.Attribute (.Name tx pt) "replace" apos) [.Name a pa, .Name b pb] [] pos2] X.env = (false, eval (.Constant (.int i0) j0 c0) X.env) :: [(false, eval (.Call (.Attribute (.Name tx pt) "replace" apos) [.Name a pa, .Name b pb] [] pos2) X.env)] := by rfl)
    (hst : starEach [.Name a pa, .Name b pb] X.env = [(false, eval (.Name a pa) X.env), (false, eval (.Name b pb) X.env)] := by rfl)
    (hbase : attributeBase (.Name tx pt) "replace" X.env (eval (.Name tx pt) X.env) = eval (.Name tx pt) X.env := by rfl) (hline : (apos.endLine == pos2.line) = true := by rfl) :
    wpAny (model X.prog X.w) X.A (eval (.Call (.Name fx pf) [.Constant (.int i0) j0 c0, .Call (.Attribute (.Name tx pt) "replace" apos) [.Name a pa, .Name b pb] [] pos2] [] pos) X.env) (EP X pins σ Q) X.xe s := by
  obtain ⟨m, t, u, hn, ea, eb, t0, u0, tu⟩ := hA
  refine wpAny_Call_Name_kw (ld_glob I hg hm ?_ hdb)
  refine PySem.W.callWith_K (h₀ := X.base) I.ok.mod.kin hk ?_ rfl rfl
  rw [he]
  show wpAny _ _ (spliced ((false, eval (.Constant (.int i0) j0 c0) X.env) :: [(false, eval (.Call (.Attribute (.Name tx pt) "replace" apos) [.Name a pa, .Name b pb] [] pos2) X.env)])) _ _ _
  refine Calls.spliced_cons (wpAny_Constant_int (Calls.spliced_cons (PySem.Call_method2 hbase hst hline (raw_name hil hv (I.tok _) hσ (fun v r => ?_) hdt hct))))
  obtain ⟨tt, e⟩ := r
  subst e
  refine ⟨"str", _, PySem.F.plainAttrs_str, PySem.F.slot_str_replace, PySem.F.type_str_replace, typeIs_str _ _ _, nofun, Calls.callWith_builtin rfl (Calls.evalArgs_plain (Calls.spliced_cons (wpAny_Name (wpAny_loadName_local I.ok.kind ka hn ea (Calls.spliced_cons (wpAny_Name (wpAny_loadName_local I.ok.kind kb hn eb (Calls.spliced_nil ?_)) hdc))) hda)))⟩
  refine PySem.SC.replace t0 u0 tu hyz hz fun t' k => Calls.spliced_nil ⟨(I.tok k).kIn, ?_⟩
  exact run_fn F hr hb .nil hx (I.tok k) (vs := [.int i0, .str (Txt.replace x y z)]) (.cons ⟨_, rfl⟩ (.cons ⟨t', rfl⟩ .nil)) h
/-- the loop whose test is never true: what it reads -/
def tForRp (K : PySem.W.Frag) (sp : Sp) (E : XK) (il ip ia ib : Nat) (wd : Str) (i0 : Int) : TS := fun D σ H => ∃ (x : Str) (l : Addr) (as : List Addr) (ps : List (Str × Str)) (Pv : Nat → L2.St → Hp → Prop), Pv 0 σ H ∧
  (∀ i σ H, Pv i σ H → σ[il]? = some (some (.str x)) ∧ σ[ip]? = some (some (.ref l)) ∧ H l = some (.lst (as.map V.ref)) ∧ Twos H as ps) ∧
  (∀ p ∈ ps, (p.1 == p.2) = false ∧ x.length + (x.length + 1) * p.2.length ≤ 16777216) ∧
  (∀ i p σ H, ps[i]? = some p → Pv i σ H → sp ([.int i0, .str (Txt.replace x p.1 p.2)] ++ []) H (fun v H1 => rNeD K v (.str wd) H1 fun z H2 => z = .bl false ∧ Pv (i + 1) ((σ.set ia (some (.str p.1))).set ib (some (.str p.2))) H2) E) ∧
  ∀ σ H, Pv ps.length σ H → D.nx σ H
theorem ps_forRp {CX : CXT} {kk : Nat} {f : Addr} {fd : FuncData} {qs : List Str} {sp : Sp} {E : XK} {fx tx px a b wd : Str} {il ip ia ib j0 j1 k : Nat} {i0 : Int} {pf c0 c1 pt pp pa pb qa qb apos pos pos2 pos3 cpos ipos tp : Pos} {ret : List Stmt} (hp : PassesOwn (model X.prog X.w) X.A X.env X.xe) (hc : X.calm = true)
    (F : FnOk X.prog X.w X.K X.mg X.base CX kk f fd qs sp) (hr : Room kk X.A) (hg : Gl X fx) (hm : X.mg fx = some (.ref f)) (hk : PySem.W.keepIn X.K (.ref f) = true) (hb : Binds X.K fd qs []) (hx : Passes CX X E) (hu : X.A.units + 64 < cLine)
    (hN : X.N.Nodup) (hil : X.N[il]? = some tx) (hip : X.N[ip]? = some px) (hia : X.N[ia]? = some a) (hib : X.N[ib]? = some b) (vl : Vis X.env.scope tx) (vp : PE X (.Name px pp) (tVar ip)) (ka : X.env.kindOf a = some .local) (kb : X.env.kindOf b = some .local) (ne : b ≠ a) (la : il ≠ ia) (lb : il ≠ ib)
    (hdb : (fx == ("__debug__" : Str)) = false := by decide) (hdt : (tx == ("__debug__" : Str)) = false := by decide) (hct : (tx == ("__classdict__" : Str)) = false := by decide) (hda : (a == ("__debug__" : Str)) = false := by decide) (hdc : (b == ("__debug__" : Str)) = false := by decide)
    (he : starEach [.Constant (.int i0) j0 c0, .Call (.Attribute (.Name tx pt) "replace" apos) [.Name a qa, .Name b qb] [] pos2] X.env = (false, eval (.Constant (.int i0) j0 c0) X.env) :: [(false, eval (.Call (.Attribute (.Name tx pt) "replace" apos) [.Name a qa, .Name b qb] [] pos2) X.env)] := by rfl)
    (hst : starEach [.Name a qa, .Name b qb] X.env = [(false, eval (.Name a qa) X.env), (false, eval (.Name b qb) X.env)] := by rfl)
    (hbase : attributeBase (.Name tx pt) "replace" X.env (eval (.Name tx pt) X.env) = eval (.Name tx pt) X.env := by rfl) (hline : (apos.endLine == pos2.line) = true := by rfl) (hmk : behindInMarks .NotEq (.Constant (.str wd) j1 c1) = false := by exact nomark _)
    (hs : ∀ x, foldedSetIterable (.Name px pp) X.env x = pure x := by intro _; rfl) :
    PS X (.For (.Tuple [.Name a pa, .Name b pb] k tp) (.Name px pp) [.If (.Compare (.Call (.Name fx pf) [.Constant (.int i0) j0 c0, .Call (.Attribute (.Name tx pt) "replace" apos) [.Name a qa, .Name b qb] [] pos2] [] pos3) [.NotEq] [.Constant (.str wd) j1 c1] cpos) ret [] ipos] [] pos) (tForRp X.K sp E il ip ia ib wd i0) := by
  refine ⟨fun pins s σ H D I ⟨x, l, as, ps, Pv, p0, hP, hq, step, fin⟩ => ?_⟩
  obtain ⟨_, sp0, hl0, _⟩ := hP 0 σ H p0
  have ho : OpR X (compareOp .NotEq) (rNeD X.K) := op_neD hu
  refine wpAny_For (thn ((pi_list (tg := .Tuple [.Name a pa, .Name b pb] k tp) vp).run pins s σ H (fun J G => J = Itl X.K l ∧ G = H) I ⟨_, sp0, l, rfl, ⟨_, SqL.of hl0⟩, rfl, rfl⟩) fun v s1 h1 => thn h1 fun itv s2 ⟨it, fp, tn, J, G, ei, I2, T, st2, f2, eJ, eG⟩ => ?_) hs
  subst ei eJ eG
  refine codeAny_forLoop_any (fun n s' => ∃ i σ' H', n = ps.length - i ∧ i ≤ ps.length ∧ Inv X pins σ' H' s' ∧ tn i s'.heap ∧ (∀ b ∈ fp, H' b = none) ∧ Pv i σ' H') ?_ ps.length ⟨0, σ, _, rfl, Nat.zero_le _, I2, st2, fun b hb => (f2 b hb).1, p0⟩
  rintro n s3 ⟨i, σ3, H3, rfl, hi, I3, st3, fr3, p3⟩
  have stat : ∀ b ∈ fp, FpOk X pins H3 b := fun b hb => ⟨fr3 b hb, (f2 b hb).2⟩
  obtain ⟨hx3, _, hl3, hT3⟩ := hP i σ3 H3 p3
  rcases Nat.lt_or_ge i ps.length with lt | ge
  · obtain ⟨t, ht⟩ : ∃ t, as[i]? = some t := ⟨_, List.getElem?_eq_getElem (by rw [hT3.len]; exact lt)⟩
    have hm' : (as.map V.ref)[i]? = some (.ref t) := by rw [List.getElem?_map, ht]; rfl
    obtain ⟨p, hpp, two⟩ := hT3.get ht
    obtain ⟨pn, pz⟩ := hq p (List.mem_of_getElem? hpp)
    refine wpAny_passesOwn hp (thn (T.item X rfl rfl rfl hc i pins s3 σ3 H3 X.xe I3 stat st3 ⟨_, _, SqL.of hl3, hm'⟩) fun r s4 ⟨u, er, h4⟩ => ?_)
    subst er
    refine wpAny_passesOwn hp (thn h4 fun _ s5 ⟨v, H5, I5, r5, ⟨e5, y5⟩, st5, fr5⟩ => ?_)
    subst e5
    have ev := y5 _ (SqL.of hl3)
    rw [hm'] at ev
    cases ev
    cases r5
    have I6 := I5.pinned (fun b hb => ⟨fr5 b hb, (f2 b hb).2⟩) (T.obj _ _ st5)
    refine wpAny_passesOwn hp (unpack_map hc I6 hN hia hib ka kb ne two fun s6 I7 _ A7 => ?_)
    have hx7 : ((σ3.set ia (some (.str p.1))).set ib (some (.str p.2)))[il]? = some (some (.str x)) := by rw [List.getElem?_set_ne (Ne.symm lb), List.getElem?_set_ne (Ne.symm la)]; exact hx3
    refine wpAny_passesOwn hp (wpAny_mono (Q := fun fl s7 => fl = .next ∧ ∃ H7, Inv X (pins ++ pinsAt fp s5.heap) ((σ3.set ia (some (.str p.1))).set ib (some (.str p.2))) H7 s7 ∧ Pv (i + 1) ((σ3.set ia (some (.str p.1))).set ib (some (.str p.2))) H7) ?_ (fun fl s7 ⟨ef, H7, I8, p7⟩ => ?_) fun _ _ z => z)
    · refine wpAny_execs_cons (wpAny_If (wpAny_isTrue_Compare1 (thn (call_repl F hr hg hm hk hb hx I7 hil vl hx7 ka kb A7 pn pz (step i p _ _ hpp p3) hdb hdt hct hda hdc he hst hbase hline) fun v s8 ⟨v1, H8, I8, r8, q8⟩ => Calls.Constant_str (thn (ho _ _ _ _ v1 (.str wd) v _ _ (I8.tok _) r8 ⟨_, rfl⟩ q8) fun c s9 ⟨z, H9, I9, r9, ez, p9⟩ => ?_)) hmk))
      subst ez
      cases r9
      exact wpAny_truthy_bool (wpAny_execs_nil (wpAny_execs_nil ⟨rfl, H9, I9, p9⟩))
    · subst ef
      exact ⟨ps.length - (i + 1), by omega, i + 1, _, H7, rfl, lt, I8.unpinned, T.keep _ _ _ st5 fun b hb o e => (I8.pin (b, o) (List.mem_append_right _ (List.mem_append_right _ (mem_pinsAt hb e)))).1, fun b hb => by
        obtain ⟨o, e, _⟩ := T.obj _ _ st5 b hb
        exact (I8.pin (b, o) (List.mem_append_right _ (List.mem_append_right _ (mem_pinsAt hb e)))).2.1, p7⟩
  · have e : i = ps.length := Nat.le_antisymm hi ge
    subst e
    refine wpAny_passesOwn hp (thn (T.done X rfl rfl rfl hc _ pins s3 σ3 H3 X.xe I3 stat st3 ⟨_, SqL.of hl3, by rw [List.length_map, hT3.len]; exact Nat.le_refl _⟩) fun r s4 ⟨er, I4⟩ => ?_)
    subst er
    exact wpAny_execs_nil ⟨σ3, H3, I4, fin _ _ p3⟩
theorem ps_forRpK {K : PySem.W.Frag} (ek : X.K = K) {CX : CXT} {kk : Nat} {f : Addr} {fd : FuncData} {qs : List Str} {sp : Sp} {E : XK} {fx tx px a b wd : Str} {il ip ia ib j0 j1 k : Nat} {i0 : Int} {pf c0 c1 pt pp pa pb qa qb apos pos pos2 pos3 cpos ipos tp : Pos} {ret : List Stmt} (hp : PassesOwn (model X.prog X.w) X.A X.env X.xe) (hc : X.calm = true)
    (F : FnOk X.prog X.w X.K X.mg X.base CX kk f fd qs sp) (hr : Room kk X.A) (hg : Gl X fx) (hm : X.mg fx = some (.ref f)) (hk : PySem.W.keepIn X.K (.ref f) = true) (hb : Binds X.K fd qs []) (hx : Passes CX X E) (hu : X.A.units + 64 < cLine)
    (hN : X.N.Nodup) (hil : X.N[il]? = some tx) (hip : X.N[ip]? = some px) (hia : X.N[ia]? = some a) (hib : X.N[ib]? = some b) (vl : Vis X.env.scope tx) (vp : PE X (.Name px pp) (tVar ip)) (ka : X.env.kindOf a = some .local) (kb : X.env.kindOf b = some .local) (ne : b ≠ a) (la : il ≠ ia) (lb : il ≠ ib)
    (hdb : (fx == ("__debug__" : Str)) = false := by decide) (hdt : (tx == ("__debug__" : Str)) = false := by decide) (hct : (tx == ("__classdict__" : Str)) = false := by decide) (hda : (a == ("__debug__" : Str)) = false := by decide) (hdc : (b == ("__debug__" : Str)) = false := by decide)
    (he : starEach [.Constant (.int i0) j0 c0, .Call (.Attribute (.Name tx pt) "replace" apos) [.Name a qa, .Name b qb] [] pos2] X.env = (false, eval (.Constant (.int i0) j0 c0) X.env) :: [(false, eval (.Call (.Attribute (.Name tx pt) "replace" apos) [.Name a qa, .Name b qb] [] pos2) X.env)] := by rfl)
    (hst : starEach [.Name a qa, .Name b qb] X.env = [(false, eval (.Name a qa) X.env), (false, eval (.Name b qb) X.env)] := by rfl)
    (hbase : attributeBase (.Name tx pt) "replace" X.env (eval (.Name tx pt) X.env) = eval (.Name tx pt) X.env := by rfl) (hline : (apos.endLine == pos2.line) = true := by rfl) (hmk : behindInMarks .NotEq (.Constant (.str wd) j1 c1) = false := by exact nomark _)
    (hs : ∀ x, foldedSetIterable (.Name px pp) X.env x = pure x := by intro _; rfl) :
    PS X (.For (.Tuple [.Name a pa, .Name b pb] k tp) (.Name px pp) [.If (.Compare (.Call (.Name fx pf) [.Constant (.int i0) j0 c0, .Call (.Attribute (.Name tx pt) "replace" apos) [.Name a qa, .Name b qb] [] pos2] [] pos3) [.NotEq] [.Constant (.str wd) j1 c1] cpos) ret [] ipos] [] pos) (tForRp K sp E il ip ia ib wd i0) := by
  subst ek
  exact ps_forRp hp hc F hr hg hm hk hb hx hu hN hil hip hia hib vl vp ka kb ne la lb hdb hdt hct hda hdc he hst hbase hline hmk hs
/-! the rules with a token told, as structures: so that a printed derivation is found quickly -/
structure QSs (X : Cx) (st : List Stmt) (t : TS) : Prop where
  run : PSsT X st t
structure QS (X : Cx) (st : Stmt) (t : TS) : Prop where
  run : PST X st t
structure QE (X : Cx) (e : Expr) (t : TE) : Prop where
  run : PET X e t
structure QA (X : Cx) (es : List Expr) (t : TA) : Prop where
  run : PAT X es t
theorem QSs.of {st : List Stmt} {t : TS} (h : PSs X st t) : QSs X st t := ⟨PSsT.of h⟩
theorem QS.of {st : Stmt} {t : TS} (h : PS X st t) : QS X st t := ⟨PST.of h⟩
theorem QE.of {e : Expr} {t : TE} (h : PE X e t) : QE X e t := ⟨CwR.PET.of h⟩
theorem qss_cons {st : Stmt} {rest : List Stmt} {t u : TS} (h1 : QS X st t) (h2 : QSs X rest u) : QSs X (st :: rest) (tSeq t u) := ⟨psst_cons h1.run h2.run⟩
theorem qss_str {i j : Nat} {x c : Str} {cpos pos' pos : Pos} {rest : List Stmt} {u : TS} (hN : X.N.Nodup) (hi : X.N[i]? = some x) (hx : Loc X.env.scope x) (h2 : QSs X rest u)
    (hs : swapsWith (.Constant (.str c) j cpos) (some (.Name x pos')) pos.line X.env = pure false := by rfl) (hf : X.fn x = true ∨ X.env.scope.names.lookup x = some .local := by first | exact .inl rfl | exact .inr rfl | assumption) :
    PSs X (.Assign [.Name x pos'] (.Constant (.str c) j cpos) pos :: rest) (tSeq (tAsg (tC (.str c)) (gName i)) u) := pss_str hN hi hx h2.run hs hf
theorem qs_set {i : Nat} {x : Str} {e : Expr} {te : TE} {pos pos' : Pos} (hN : X.N.Nodup) (hi : X.N[i]? = some x) (hx : Loc X.env.scope x) (he : QE X e te) (hs : swapsWith e (some (.Name x pos')) pos.line X.env = pure false := by rfl)
    (hf : X.fn x = true ∨ X.env.scope.names.lookup x = some .local := by first | exact .inl rfl | exact .inr rfl | assumption) : QS X (.Assign [.Name x pos'] e pos) (tAsg te (gName i)) := ⟨pst_set hN hi hx he.run hs hf⟩
theorem qa_nil : QA X [] tNil := ⟨pat_nil⟩
theorem qa_two {y z : Str} {j0 j1 k : Nat} {c0 c1 pos : Pos} {es : List Expr} {ta : TA} (hr : QA X es ta)
    (hs : starEach (.Tuple [.Constant (.str y) j0 c0, .Constant (.str z) j1 c1] k pos :: es) X.env = (false, eval (.Tuple [.Constant (.str y) j0 c0, .Constant (.str z) j1 c1] k pos) X.env) :: starEach es X.env := by rfl) : QA X (.Tuple [.Constant (.str y) j0 c0, .Constant (.str z) j1 c1] k pos :: es) (tCons (tTwo y z) ta) := ⟨pat_cons pet_two hr.run hs⟩
theorem qe_lst {es : List Expr} {ta : TA} {pos : Pos} (h : QA X es ta) : QE X (.List es pos) (tLst ta) := ⟨pet_lst h.run⟩
theorem qe_cat {e f : Expr} {te tf : TE} {pos : Pos} (ha : QE X e te) (hb : QE X f tf) : QE X (.BinOp e .Add f pos) (tOp rCat te tf) := ⟨CwR.pet_op op_cat ha.run hb.run⟩
end
/-! ## over data -/
/-- a statement run where a slot holds such pairs -/
def RunP (ip : Nat) (ps : List (Str × Str)) (ts : TS) (γ : Gam) (N : Gam → Prop) (R : Dat → Gam → Prop) : Prop := ∀ A0 H0 A H σ, Gr A0 H0 A H → Ok H0 A H σ γ → (∃ l as, σ[ip]? = some (some (.ref l)) ∧ H l = some (.lst (as.map V.ref)) ∧ Twos H as ps) → ∀ D : Ends,
  (∀ δ B H' σ', N δ → Gr A0 H0 B H' → Ex A B → Ok H0 B H' σ' δ → D.nx σ' H') → (∀ v B H' x σ' δ, R x δ → Gr A0 H0 B H' → Ok H0 B H' σ' δ → Rep B v x → D.rt v H') → ts D σ H
theorem twos_run {A : Hp} {σ : L2.St} : ∀ (ps : List (Str × Str)) (H : Hp) (Q : List V → Hp → Prop), Ex A H → (∀ as H', Gr A H A H' → Twos H' as ps → Q (as.map V.ref) H') → tTwos ps σ H Q
  | [], H, Q, s, q => q [] H (Gr.refl s) .nil
  | p :: ps, H, Q, s, q => fun a o ha two => by
    have g := Gr.newU (A := A) (o := HO.frz o (.tup [.str p.1, .str p.2])) s ha
    refine twos_run ps _ _ g.sub fun as H' g' t => ?_
    exact q (a :: as) H' (g.trans g') (.cons (two.mono g'.up) t)
section
variable {K : PySem.W.Frag} {γ : Gam} {N : Gam → Prop} {R : Dat → Gam → Prop} {tw : TS} {i : Nat} {ps qs : List (Str × Str)}
theorem runP_new (hz : ps.length ≤ sizeLine) (hi : i < γ.length) (h : RunP i ps tw (γ.set i .no) N R) : Run (tSeq (tAsg (tLst (tTwos ps)) (gName i)) tw) γ N R := fun A0 H0 A H σ g0 k D dn dr =>
  twos_run ps H _ k.sub fun as H1 g1 t1 => ⟨by rw [List.length_map, t1.len]; exact hz, fun l hl => by
    have g2 := Gr.newU (A := A) (o := HO.lst (as.map V.ref)) g1.sub hl
    have g := g1.trans g2
    exact h A0 H0 A _ _ (g0.trans g) ((k.mono g).forget i _) ⟨l, as, List.getElem?_set_self (by rw [k.len]; exact hi), upd_same, t1.mono g2.up⟩ D dn dr⟩
theorem runP_more (hz : qs.length + ps.length ≤ sizeLine) (hi : γ[i]? = some .no) (h : RunP i (qs ++ ps) tw γ N R) : RunP i qs (tSeq (tAsg (tOp rCat (tVar i) (tLst (tTwos ps))) (gName i)) tw) γ N R := fun A0 H0 A H σ g0 k ⟨l, as, e1, e2, t⟩ D dn dr =>
  ⟨.ref l, e1, twos_run ps H _ k.sub fun bs H1 g1 t1 => ⟨by rw [List.length_map, t1.len]; omega, fun b hb => by
    have g2 := Gr.newU (A := A) (o := HO.lst (bs.map V.ref)) g1.sub hb
    refine ⟨l, b, as.map V.ref, bs.map V.ref, rfl, rfl, g2.up _ _ (g1.up _ _ e2), upd_same, by rw [List.length_map, List.length_map, t1.len, t.len]; exact hz, fun c hc => ?_⟩
    have g3 := Gr.newU (A := A) (o := HO.lst (as.map V.ref ++ bs.map V.ref)) g2.sub hc
    have g := (g1.trans g2).trans g3
    have isz : i < σ.length := (List.getElem?_eq_some_iff.mp e1).1
    have kk := (k.mono g).forget i (some (.ref c))
    have eγ : γ.set i .no = γ := by
      refine List.ext_getElem? fun j => ?_
      by_cases z : j = i
      · subst z
        rw [List.getElem?_set_self (by rw [← k.len]; exact isz), hi]
      · rw [List.getElem?_set_ne (Ne.symm z)]
    rw [eγ] at kk
    exact h A0 H0 A _ _ (g0.trans g) kk ⟨c, as ++ bs, List.getElem?_set_self isz, by rw [List.map_append]; exact upd_same, (t.mono g.up).app ((t1.mono g2.up).mono g3.up)⟩ D dn dr⟩⟩
theorem runP_for {RR : List Dat → Dat → Prop} {E : XK} {il ia ib : Nat} {wd x : Str} {i0 : Int} (hl : γ[il]? = some (.d (.str x))) (ha : γ[ia]? = some .no) (hb : γ[ib]? = some .no) (la : il ≠ ia) (lb : il ≠ ib) (pa : i ≠ ia) (pb : i ≠ ib) (hw : PyData.strOk wd = true)
    (hq : ∀ p ∈ ps, (p.1 == p.2) = false ∧ x.length + (x.length + 1) * p.2.length ≤ 16777216) (hR : ∀ p ∈ ps, RR [.int i0, .str (Txt.replace x p.1 p.2)] (.str wd)) (h : Run tw γ N R) : RunP i ps (tSeq (tForRp K (Pr RR) E il i ia ib wd i0) tw) γ N R := fun A0 H0 A H σ g0 k ⟨l, as, e1, e2, t⟩ D dn dr => by
  obtain ⟨v, hv, rv⟩ := k.get il _ hl
  cases rv
  have same : ∀ {j : Nat}, γ[j]? = some .no → γ.set j .no = γ := fun {j} hj => by
    refine List.ext_getElem? fun m => ?_
    by_cases z : m = j
    · subst z
      rw [List.getElem?_set_self (List.getElem?_eq_some_iff.mp hj).1, hj]
    · rw [List.getElem?_set_ne (Ne.symm z)]
  refine ⟨x, l, as, ps, fun _ σ' H' => ∃ B, Gr A0 H0 B H' ∧ Ex A B ∧ Ok H0 B H' σ' γ ∧ Ex H H' ∧ σ'[il]? = some (some (.str x)) ∧ σ'[i]? = some (some (.ref l)), ⟨A, g0, Ex.refl A, k, Ex.refl H, hv, e1⟩, ?_, hq, ?_, ?_⟩
  · rintro _ σ' H' ⟨B, _, _, _, up, h1, h2⟩
    exact ⟨h1, h2, up _ _ e2, t.mono up⟩
  · rintro j p σ' H' hp ⟨B, g, vw, kk, up, h1, h2⟩
    refine ⟨B, _, _, kk.sub, .cons (.int i0) (.cons (.str _) .nil), hR p (List.mem_of_getElem? hp), fun v C H2 g2 r2 => ?_⟩
    cases r2
    refine r2_neT (K := K) (.str (n := 1) hw) (by decide) C H2 _ _ g2.sub (.str wd) (.str wd) _ fun v3 C3 H3 g3 r3 => ?_
    cases r3
    have gg := g2.trans g3
    have k2 := ((kk.mono gg).forget ia (some (.str p.1))).forget ib (some (.str p.2))
    rw [same ha, same hb] at k2
    exact ⟨rfl, C3, g.trans gg, vw.trans gg.view, k2, up.trans gg.up, by rw [List.getElem?_set_ne (Ne.symm lb), List.getElem?_set_ne (Ne.symm la)]; exact h1, by rw [List.getElem?_set_ne (Ne.symm pb), List.getElem?_set_ne (Ne.symm pa)]; exact h2⟩
  · rintro σ' H' ⟨B, g, vw, kk, _⟩
    exact h A0 H0 B H' σ' g kk D (fun δ C H2 σ2 n g2 v2 k2 => dn δ C H2 σ2 n g2 (vw.trans v2) k2) dr
end
end Fr

set_option Elab.async false
set_option linter.all false
set_option maxRecDepth 100000
set_option maxHeartbeats 4000000
namespace Fr
open PySem PySem.Spec PyProof.Rows L2
open Evl (Ex)
abbrev s_Framing_init : Stmt := inClass (topS 66) 0
abbrev N_Framing_init : List Str := ["self", "rule"]
theorem sc_Framing_init : FnScope N_Framing_init ["self", "rule"] (defScope s_Framing_init) := ⟨rfl, rfl, rfl, by decide +kernel, rfl, by decide +kernel, by decide +kernel⟩
section
variable {P : Program} {w0 : World} {K : PySem.W.Frag} {mg : Str → Option Value} {base : Heap}
def RI_Framing_init (xs : List Dat) (fs : List (Str × Dat)) : Prop := ∃ r : Rule, Good r ∧ xs = [r.dat] ∧ fs = (putD "_rule" r.dat [])
theorem len_Framing_init {xs : List Dat} {fs : List (Str × Dat)} (h : RI_Framing_init xs fs) : xs.length + 1 = 2 := by
  obtain ⟨_, _, rfl, _⟩ := h
  rfl
theorem ok_Framing_init {f : Addr} {fd : FuncData} (F : Fun K "__init__" "Framing.__init__" s_Framing_init f fd) {cls_Framing : Addr} (OC : Cls K cls_Framing) (ON : ∀ n ∈ (["_rule"] : List Str), NoAttr K cls_Framing n) {f_need_rule : Addr} {d_need_rule : FuncData} (C_need_rule : Cal P w0 K mg base "need_rule" ["value"] 8 R_need_rule f_need_rule d_need_rule) : FnOk P w0 K mg base CX0 9 f fd ["self", "rule"] (PrI cls_Framing RI_Framing_init) := by
  refine fn_prI F sc_Framing_init (fun xs fs h => len_Framing_init h) fun cdv A outer s H E hr => ⟨_, (pss_cons (ps_expr (pe_call C_need_rule.ok (hr.mono (by decide)) rfl C_need_rule.at_ C_need_rule.kp C_need_rule.bd .nil pass0 (pa_cons (pv 1) pa_nil)))
      (pss_one (ps_fld (pv 0) (pv 1) rfl))), ?_⟩
  rintro p xs fs ⟨r, G, rfl, rfl⟩
  exact init_drop (ev_call (ea_cons (ev_var rfl) ea_nil) ⟨r, G, rfl, rfl⟩) (init_fld1 (noMine_entry _ _) OC (ON _ (by simp)) (ev_var rfl) (Nat.lt_of_le_of_lt (Nat.le_refl 0) (by decide)))
end
end Fr

set_option Elab.async false
set_option linter.all false
set_option maxRecDepth 100000
set_option maxHeartbeats 4000000
namespace Fr
open PySem PySem.Spec PyProof.Rows L2
open Evl (Ex)
section
variable {P : Program} {w0 : World} {K : PySem.W.Frag} {mg : Str → Option Value} {base : Heap}
def lineT : Str := "flag 0110; 1 puts 0; 10 puts 1; check 2"
def dueR : Rule := ⟨[0, 1, 1, 0], [([1], 0), ([1, 0], 1)], 2⟩
theorem due_order : ∀ (i : Nat) (p q : List Int × Int), dueR.ins[i]? = some p → dueR.ins[i + 1]? = some q → HT.lexLt p.1 q.1 = true := fun i p q h1 h2 => by
  match i, h1, h2 with
  | 0, h1, h2 =>
    cases h1
    cases h2
    decide
  | 1, h1, h2 => cases h2
  | i + 2, h1, h2 => cases h2
theorem due_good : Good dueR := ⟨rfl, by decide, by decide, by decide, by decide, due_order, by decide, by decide +kernel⟩
/-- whether a text tells a rule -/
def goodB (a : Str) : Bool := (midT a).all insT && (Txt.startswith (headT a) "flag " && (wordT (cutS (headT a) (some 5) none) && (Txt.startswith (lastT a) "check " && (numT (cutS (lastT a) (some 6) none) && isRuleD (ruleD (cutS (headT a) (some 5) none) (midT a) ((PySem.intText? (cutS (lastT a) (some 6) none)).getD 0).toNat)))))
theorem good_of {a : Str} (hl : a.length ≤ 560) : BadRule a ∨ goodB a = true := by
  rcases rule_cases (a := a) fun k hk _ => by
    have h1 : (lastT a).length ≤ a.length := split_part (List.getLast_mem _)
    rw [hk, len_add] at h1
    omega with hb | ⟨f, k, n, kl, hm, hf, wf, hk, nk, n1, ek, ik, hr⟩
  · exact .inl hb
  · refine .inr ?_
    have c1 : cutS (headT a) (some 5) none = f := by
      rw [hf]
      exact cut_app "flag " f
    have c2 : cutS (lastT a) (some 6) none = k := by
      rw [hk]
      exact cut_app "check " k
    have s1 : Txt.startswith (headT a) "flag " = true := by
      rw [hf]
      exact starts_of _ _
    have s2 : Txt.startswith (lastT a) "check " = true := by
      rw [hk]
      exact starts_of _ _
    unfold goodB
    rw [c1, c2, s1, s2, wf, nk, ik, List.all_eq_true.mpr hm]
    exact hr
section
variable {K : PySem.W.Frag} {cT : Addr}
theorem rule_refused {a : Str} (h : (decide (a.length ≤ 560) && !goodB a) = true) : R__law_parsed K cT [.int 1, .str a] (.str "refused") := by
  obtain ⟨h1, h2⟩ := Bool.and_eq_true_iff.mp h
  have hl := of_decide_eq_true h1
  rcases good_of hl with hb | hg
  · exact ⟨1, .str a, rfl, .inr (.inr (.inr (.inr (.inl ⟨rfl, ⟨.str a, rfl, rfl, .inr ⟨a, rfl, by omega, hb⟩⟩, rfl⟩))))⟩
  · rw [hg] at h2
    cases h2
theorem word_refused {a : Str} (h : (decide (a.length ≤ 560) && !wordT a) = true) : R__law_parsed K cT [.int 0, .str a] (.str "refused") := by
  obtain ⟨h1, h2⟩ := Bool.and_eq_true_iff.mp h
  have hl := of_decide_eq_true h1
  have hw : wordT a = false := by
    cases z : wordT a with
    | false => rfl
    | true =>
      rw [z] at h2
      cases h2
  exact ⟨0, .str a, rfl, .inr (.inr (.inr (.inl ⟨rfl, ⟨.str a, rfl, rfl, .inr ⟨a, rfl, by omega, hw⟩⟩, rfl⟩)))⟩
theorem list_refused {a : Str} (h : (decide (a.length ≤ 560) && !(decide (a = "none") || ((Txt.split a " ").filter fun p => !wordT p).isEmpty)) = true) : R__law_parsed K cT [.int 2, .str a] (.str "refused") := by
  obtain ⟨h1, h2⟩ := Bool.and_eq_true_iff.mp h
  have hl := of_decide_eq_true h1
  rcases list_heard (K := K) (cT := cT) (bt := a) (by omega) with ⟨_, _, _, _, z⟩ | ⟨hB, _⟩
  · rw [z] at h2
    cases h2
  · exact ⟨2, .str a, rfl, .inr (.inr (.inr (.inr (.inr ⟨rfl, hB, rfl⟩))))⟩
theorem none_refused {t : Int} {d : Dat} (ht : t = 0 ∨ t = 1 ∨ t = 2) (hf : Fine K d) (hs : isaStr d = false) : R__law_parsed K cT [.int t, d] (.str "refused") := by
  rcases ht with rfl | rfl | rfl
  · exact ⟨0, d, rfl, .inr (.inr (.inr (.inl ⟨rfl, ⟨d, rfl, rfl, .inl ⟨hf, hs⟩⟩, rfl⟩)))⟩
  · exact ⟨1, d, rfl, .inr (.inr (.inr (.inr (.inl ⟨rfl, ⟨d, rfl, rfl, .inl ⟨hf, hs⟩⟩, rfl⟩))))⟩
  · exact ⟨2, d, rfl, .inr (.inr (.inr (.inr (.inr ⟨rfl, ⟨d, rfl, rfl, .inl ⟨hf, hs⟩⟩, rfl⟩))))⟩
theorem line_heard : R__law_parsed K cT [.int 1, .str lineT] dueR.dat := ⟨1, .str lineT, rfl, .inr (.inl ⟨rfl, lineT, "0110", "2", 2, by decide +kernel, by decide +kernel, List.all_eq_true.mp (by decide +kernel), by decide +kernel, by decide +kernel, by decide +kernel, by decide +kernel, by decide +kernel, by decide +kernel, rfl, by
  show dueR.dat = Dat.tup [w (wordV "0110"), .tup ((midT lineT).map fun q => rowD (insV q)), .int 2]
  rw [show wordV "0110" = [0, 1, 1, 0] from by decide +kernel, show ((midT lineT).map fun q => rowD (insV q)) = ((midT lineT).map insV).map rowD from by rw [List.map_map]; rfl, show (midT lineT).map insV = [([1], 0), ([1, 0], 1)] from by decide +kernel]
  rfl⟩)⟩
end
theorem all_nil {α : Type} {p : α → Prop} : ∀ d ∈ ([] : List α), p d := fun _ h => nomatch h
theorem all_cons {α : Type} {p : α → Prop} {a : α} {l : List α} (h : p a) (r : ∀ d ∈ l, p d) : ∀ d ∈ a :: l, p d := fun d hd => by
  rcases List.mem_cons.mp hd with rfl | hd
  · exact h
  · exact r d hd
def pairsT : List (Str × Str) := ((((((((((([(("0110" : Str), ("-" : Str)), (("0110" : Str), ("" : Str)), (("0110" : Str), ("0120" : Str)), (("0110" : Str), ("01 10" : Str)), (("flag" : Str), ("FLAG" : Str))] ++ [(("flag" : Str), ("flags" : Str)), (("flag " : Str), ("" : Str))]) ++ [(("1 puts 0; 10 puts 1" : Str), ("10 puts 1; 1 puts 0" : Str)), (("1 puts 0" : Str), ("1 puts 2" : Str))]) ++ [(("1 puts 0" : Str), ("1 puts" : Str))]) ++ [(("1 puts 0" : Str), ("1 put 0" : Str)), (("1 puts 0" : Str), ("- puts 0" : Str)), (("1 puts 0" : Str), ("1 puts 00" : Str))]) ++ [(("1 puts 0" : Str), ("1  puts 0" : Str))]) ++ [(("10 puts 1" : Str), ("1 puts 1" : Str)), (("10 puts 1" : Str), ("10 puts 1 1" : Str)), (("check 2" : Str), ("check 0" : Str))]) ++ [(("check 2" : Str), ("check 02" : Str))]) ++ [(("check 2" : Str), ("check" : Str)), (("check 2" : Str), ("check -2" : Str)), (("check 2" : Str), ("Check 2" : Str))]) ++ [(("; check 2" : Str), ("" : Str)), (("; " : Str), (";" : Str))]) ++ [(("; check 2" : Str), ("; check 2; check 2" : Str)), (("flag" : Str), (" flag" : Str)), (("check 2" : Str), ("check 2 " : Str))]) ++ [(("; " : Str), (";  " : Str))])
def pairB (p : Str × Str) : Bool := !(p.1 == p.2) && (decide (lineT.length + (lineT.length + 1) * p.2.length ≤ 16777216) && (decide ((Txt.replace lineT p.1 p.2).length ≤ 560) && !goodB (Txt.replace lineT p.1 p.2)))
theorem pairs_ok : pairsT.all pairB = true := by decide +kernel
theorem pair_ok {p : Str × Str} (h : p ∈ pairsT) : (p.1 == p.2) = false ∧ lineT.length + (lineT.length + 1) * p.2.length ≤ 16777216 ∧ (decide ((Txt.replace lineT p.1 p.2).length ≤ 560) && !goodB (Txt.replace lineT p.1 p.2)) = true := by
  obtain ⟨h1, h2⟩ := Bool.and_eq_true_iff.mp (List.all_eq_true.mp pairs_ok p h)
  obtain ⟨h3, h4⟩ := Bool.and_eq_true_iff.mp h2
  exact ⟨by simpa using h1, of_decide_eq_true h3, h4⟩
def R__law_fixed_right (xs : List Dat) (y : Dat) : Prop := xs = [] ∧ y = .bl true
theorem len__law_fixed_right {xs : List Dat} {y : Dat} (h : R__law_fixed_right xs y) : xs.length = 0 := by
  rw [h.1]
  rfl
end
end Fr

set_option Elab.async false
set_option linter.all false
set_option maxRecDepth 100000
set_option maxHeartbeats 4000000
namespace Fr
open PySem PySem.Spec PyProof.Rows L2
open Evl (Ex)
abbrev s__law_fixed_right : Stmt := topS 84
abbrev N__law_fixed_right : List Str := ["line", "due", "pairs_here", "old", "new", "some", "thing"]
theorem sc__law_fixed_right : FnScope N__law_fixed_right [] (defScope s__law_fixed_right) := ⟨rfl, rfl, rfl, by decide +kernel, rfl, by decide +kernel, by decide +kernel⟩
section
variable {c_InvalidText : Addr} {P : Program} {w0 : World} {K : PySem.W.Frag} {mg : Str → Option Value} {base : Heap}
theorem ok__law_fixed_right {f : Addr} {fd : FuncData} (F : Fun K "_law_fixed_right" "_law_fixed_right" s__law_fixed_right f fd) {f__law_parsed : Addr} {d__law_parsed : FuncData} (C__law_parsed : Cal P w0 K mg base "_law_parsed" ["way", "line"] 9 (R__law_parsed K c_InvalidText) f__law_parsed d__law_parsed) {cls_Framing f_Framing_init : Addr} {d_Framing_init : FuncData} (O_Framing : ClsOk K mg "Framing" cls_Framing f_Framing_init ["_rule"]) (C_Framing_init : CalI P w0 K mg base ["self", "rule"] 9 (PrI cls_Framing RI_Framing_init) f_Framing_init d_Framing_init) : FnOk P w0 K mg base CX0 11 f fd [] (Pr R__law_fixed_right) := by
  refine fn_pr F sc__law_fixed_right (fun xs y h => len__law_fixed_right h) fun cdv A outer s H E hr => ⟨_, (qss_str (i := 0) sc__law_fixed_right.nd rfl (Or.inl rfl) (qss_cons (QS.of (ps_set (i := 1) sc__law_fixed_right.nd rfl (Or.inl rfl) (pe_tup (pa_cons (pe_tup (pa_cons pe_int (pa_cons pe_int (pa_cons pe_int (pa_cons pe_int pa_nil))))) (pa_cons (pe_tup (pa_cons (pe_tup (pa_cons (pe_tup (pa_cons pe_int pa_nil)) (pa_cons pe_int pa_nil))) (pa_cons (pe_tup (pa_cons (pe_tup (pa_cons pe_int (pa_cons pe_int pa_nil))) (pa_cons pe_int pa_nil))) pa_nil))) (pa_cons pe_int pa_nil))))))
      (qss_cons (QS.of (ps_if (pt_cmpR (op_neK (K := K) rfl hr.units) (pe_call C__law_parsed.ok (hr.mono (by decide)) rfl C__law_parsed.at_ C__law_parsed.kp C__law_parsed.bd .nil pass0 (pa_cons pe_int (pa_cons (pv 0) pa_nil))) (pv 1) (nomark _)) (pss_one (ps_ret pe_bl)) pss_nil))
      (qss_cons (qs_set (i := 2) sc__law_fixed_right.nd rfl (Or.inl rfl) (qe_lst (qa_two (qa_two (qa_two (qa_two (qa_two qa_nil)))))))
      (qss_cons (qs_set (i := 2) sc__law_fixed_right.nd rfl (Or.inl rfl) (qe_cat (QE.of (pv 2)) (qe_lst (qa_two (qa_two qa_nil)))))
      (qss_cons (qs_set (i := 2) sc__law_fixed_right.nd rfl (Or.inl rfl) (qe_cat (QE.of (pv 2)) (qe_lst (qa_two (qa_two qa_nil)))))
      (qss_cons (qs_set (i := 2) sc__law_fixed_right.nd rfl (Or.inl rfl) (qe_cat (QE.of (pv 2)) (qe_lst (qa_two qa_nil))))
      (qss_cons (qs_set (i := 2) sc__law_fixed_right.nd rfl (Or.inl rfl) (qe_cat (QE.of (pv 2)) (qe_lst (qa_two (qa_two (qa_two qa_nil))))))
      (qss_cons (qs_set (i := 2) sc__law_fixed_right.nd rfl (Or.inl rfl) (qe_cat (QE.of (pv 2)) (qe_lst (qa_two qa_nil))))
      (qss_cons (qs_set (i := 2) sc__law_fixed_right.nd rfl (Or.inl rfl) (qe_cat (QE.of (pv 2)) (qe_lst (qa_two (qa_two (qa_two qa_nil))))))
      (qss_cons (qs_set (i := 2) sc__law_fixed_right.nd rfl (Or.inl rfl) (qe_cat (QE.of (pv 2)) (qe_lst (qa_two qa_nil))))
      (qss_cons (qs_set (i := 2) sc__law_fixed_right.nd rfl (Or.inl rfl) (qe_cat (QE.of (pv 2)) (qe_lst (qa_two (qa_two (qa_two qa_nil))))))
      (qss_cons (qs_set (i := 2) sc__law_fixed_right.nd rfl (Or.inl rfl) (qe_cat (QE.of (pv 2)) (qe_lst (qa_two (qa_two qa_nil)))))
      (qss_cons (qs_set (i := 2) sc__law_fixed_right.nd rfl (Or.inl rfl) (qe_cat (QE.of (pv 2)) (qe_lst (qa_two (qa_two (qa_two qa_nil))))))
      (qss_cons (qs_set (i := 2) sc__law_fixed_right.nd rfl (Or.inl rfl) (qe_cat (QE.of (pv 2)) (qe_lst (qa_two qa_nil))))
      (qss_cons (QS.of (ps_forRpK (il := 0) (ip := 2) (ia := 3) (ib := 4) (K := K) rfl PassesOwn.never rfl C__law_parsed.ok (hr.mono (by decide)) rfl C__law_parsed.at_ C__law_parsed.kp C__law_parsed.bd pass0 hr.units sc__law_fixed_right.nd rfl rfl rfl rfl (.inl rfl) (pv 2) rfl rfl (by decide) (by decide) (by decide))) (QSs.of (pss_cons (ps_set (i := 5) sc__law_fixed_right.nd rfl (Or.inl rfl) (pe_lst (pa_cons pe_str (pa_cons pe_str (pa_cons pe_str (pa_cons pe_non (pa_cons pe_int (pa_cons (pv 1) (pa_cons (pe_lst (pa_cons (pv 0) pa_nil)) (pa_cons (pe_op op_catS2 (pv 0) pe_str) (pa_cons pe_dnewT (pa_cons (pe_make O_Framing.mkk C_Framing_init.ok (hr.mono (by decide)) rfl O_Framing.at_ C_Framing_init.bd .nil pass0 (pa_cons (pv 1) pa_nil)) pa_nil))))))))))))
      (pss_cons (ps_if (pt_cmpR (op_neK (K := K) rfl hr.units) (pe_lc (own := [("thing", 6)]) rfl sc__law_fixed_right.nd (pi_listK (K := K) rfl (pv 5)) (blkOk_by (own := [("thing", 6)]) (N := N__law_fixed_right) (sc := defScope s__law_fixed_right) (by decide +kernel)) (fun _ _ _ _ _ => (pg_name (i := 6) sc__law_fixed_right.nd rfl (Or.inl rfl))) (fun _ _ _ _ _ => (pts_one (pt_cmpR (op_neK (K := K) rfl hr.units) (pe_call C__law_parsed.ok (hr.mono (by decide)) rfl C__law_parsed.at_ C__law_parsed.kp C__law_parsed.bd .nil pass0 (pa_cons pe_int (pa_cons (pv 6) pa_nil))) pe_str (nomark _)))) (fun _ _ _ _ _ => (pv 6))) (pe_lst pa_nil) (nomark _)) (pss_one (ps_ret pe_bl)) pss_nil)
      (pss_cons (ps_set (i := 5) sc__law_fixed_right.nd rfl (Or.inl rfl) (pe_lst (pa_cons pe_str (pa_cons pe_str (pa_cons pe_str (pa_cons pe_str (pa_cons pe_str (pa_cons pe_str (pa_cons pe_str (pa_cons pe_str (pa_cons pe_str (pa_cons pe_str (pa_cons pe_non (pa_cons pe_int (pa_cons (pe_tup (pa_cons pe_int (pa_cons pe_int pa_nil))) (pa_cons (pe_lst pa_nil) (pa_cons pe_dnewT pa_nil)))))))))))))))))
      (pss_cons (ps_if (pt_cmpR (op_neK (K := K) rfl hr.units) (pe_lc (own := [("thing", 6)]) rfl sc__law_fixed_right.nd (pi_listK (K := K) rfl (pv 5)) (blkOk_by (own := [("thing", 6)]) (N := N__law_fixed_right) (sc := defScope s__law_fixed_right) (by decide +kernel)) (fun _ _ _ _ _ => (pg_name (i := 6) sc__law_fixed_right.nd rfl (Or.inl rfl))) (fun _ _ _ _ _ => (pts_one (pt_cmpR (op_neK (K := K) rfl hr.units) (pe_call C__law_parsed.ok (hr.mono (by decide)) rfl C__law_parsed.at_ C__law_parsed.kp C__law_parsed.bd .nil pass0 (pa_cons pe_int (pa_cons (pv 6) pa_nil))) pe_str (nomark _)))) (fun _ _ _ _ _ => (pv 6))) (pe_lst pa_nil) (nomark _)) (pss_one (ps_ret pe_bl)) pss_nil)
      (pss_cons (ps_set (i := 5) sc__law_fixed_right.nd rfl (Or.inl rfl) (pe_lst (pa_cons pe_str (pa_cons pe_str (pa_cons pe_str (pa_cons pe_str (pa_cons pe_str (pa_cons pe_str (pa_cons pe_str (pa_cons pe_str (pa_cons pe_str (pa_cons pe_str (pa_cons pe_str (pa_cons pe_non (pa_cons pe_int (pa_cons (pe_lst (pa_cons (pe_tup (pa_cons pe_int pa_nil)) pa_nil)) (pa_cons (pe_tup pa_nil) (pa_cons pe_dnewT pa_nil))))))))))))))))))
      (pss_one (ps_ret (pe_cmpR (op_eqNilK (K := K) rfl hr.units0) (pe_lc (own := [("thing", 6)]) rfl sc__law_fixed_right.nd (pi_listK (K := K) rfl (pv 5)) (blkOk_by (own := [("thing", 6)]) (N := N__law_fixed_right) (sc := defScope s__law_fixed_right) (by decide +kernel)) (fun _ _ _ _ _ => (pg_name (i := 6) sc__law_fixed_right.nd rfl (Or.inl rfl))) (fun _ _ _ _ _ => (pts_one (pt_cmpR (op_neK (K := K) rfl hr.units) (pe_call C__law_parsed.ok (hr.mono (by decide)) rfl C__law_parsed.at_ C__law_parsed.kp C__law_parsed.bd .nil pass0 (pa_cons pe_int (pa_cons (pv 6) pa_nil))) pe_str (nomark _)))) (fun _ _ _ _ _ => (pv 6))) (pe_lst pa_nil) (nomark _)))))))))))))))))))))))))), ?_⟩
  rintro xs y ⟨rfl, rfl⟩
  show Run _ [.no, .no, .no, .no, .no, .no, .no] _ _
  refine run_seq1 (run_asg ev_str rfl) ?_
  refine run_seq1 (run_asg (x := dueR.dat) (ev_tup (ea_cons (ev_tup (ea_cons ev_int (ea_cons ev_int (ea_cons ev_int (ea_cons ev_int ea_nil)))) (by show 4 ≤ sizeLine; decide)) (ea_cons (ev_tup (ea_cons (ev_tup (ea_cons (ev_tup (ea_cons ev_int ea_nil) (by show 1 ≤ sizeLine; decide)) (ea_cons ev_int ea_nil)) (by show 2 ≤ sizeLine; decide)) (ea_cons (ev_tup (ea_cons (ev_tup (ea_cons ev_int (ea_cons ev_int ea_nil)) (by show 2 ≤ sizeLine; decide)) (ea_cons ev_int ea_nil)) (by show 2 ≤ sizeLine; decide)) ea_nil)) (by show 2 ≤ sizeLine; decide)) (ea_cons ev_int ea_nil))) (by show 3 ≤ sizeLine; decide)) rfl) ?_
  show Run _ [.d (.str lineT), .d dueR.dat, .no, .no, .no, .no, .no] _ _
  refine run_seq1 (run_if (b := false) (et_is (et_test (ev_op (ev_call (ea_cons ev_int (ea_cons (ev_var rfl) ea_nil)) line_heard) (ev_var rfl) (r2_neT (tame_dat dueR) (by decide)))) rfl) (fun z => by cases z) fun _ => run_next rfl) ?_
  refine runP_new (ps := [(("0110" : Str), ("-" : Str)), (("0110" : Str), ("" : Str)), (("0110" : Str), ("0120" : Str)), (("0110" : Str), ("01 10" : Str)), (("flag" : Str), ("FLAG" : Str))]) (by decide) (by show 2 < 7; decide) ?_
  refine runP_more (ps := [(("flag" : Str), ("flags" : Str)), (("flag " : Str), ("" : Str))]) (by decide) rfl ?_
  refine runP_more (ps := [(("1 puts 0; 10 puts 1" : Str), ("10 puts 1; 1 puts 0" : Str)), (("1 puts 0" : Str), ("1 puts 2" : Str))]) (by decide) rfl ?_
  refine runP_more (ps := [(("1 puts 0" : Str), ("1 puts" : Str))]) (by decide) rfl ?_
  refine runP_more (ps := [(("1 puts 0" : Str), ("1 put 0" : Str)), (("1 puts 0" : Str), ("- puts 0" : Str)), (("1 puts 0" : Str), ("1 puts 00" : Str))]) (by decide) rfl ?_
  refine runP_more (ps := [(("1 puts 0" : Str), ("1  puts 0" : Str))]) (by decide) rfl ?_
  refine runP_more (ps := [(("10 puts 1" : Str), ("1 puts 1" : Str)), (("10 puts 1" : Str), ("10 puts 1 1" : Str)), (("check 2" : Str), ("check 0" : Str))]) (by decide) rfl ?_
  refine runP_more (ps := [(("check 2" : Str), ("check 02" : Str))]) (by decide) rfl ?_
  refine runP_more (ps := [(("check 2" : Str), ("check" : Str)), (("check 2" : Str), ("check -2" : Str)), (("check 2" : Str), ("Check 2" : Str))]) (by decide) rfl ?_
  refine runP_more (ps := [(("; check 2" : Str), ("" : Str)), (("; " : Str), (";" : Str))]) (by decide) rfl ?_
  refine runP_more (ps := [(("; check 2" : Str), ("; check 2; check 2" : Str)), (("flag" : Str), (" flag" : Str)), (("check 2" : Str), ("check 2 " : Str))]) (by decide) rfl ?_
  refine runP_more (ps := [(("; " : Str), (";  " : Str))]) (by decide) rfl ?_
  refine runP_for (il := 0) (ia := 3) (ib := 4) (x := lineT) rfl rfl rfl (by decide) (by decide) (by decide) (by decide) ref_ok (fun p hp => ⟨(pair_ok hp).1, (pair_ok hp).2.1⟩) (fun p hp => rule_refused (pair_ok hp).2.2) ?_
  show Run _ [.d (.str lineT), .d dueR.dat, .no, .no, .no, .no, .no] _ _
  have H0 : ∀ d ∈ ([.str "", .str "flag 1", .str "check 1", .non, .int 5, dueR.dat, .lst [.str lineT], .str (lineT ++ "; "), .dic [], .obj cls_Framing (putD "_rule" dueR.dat [])] : List Dat), R__law_parsed K c_InvalidText [.int 1, d] (.str "refused") := (all_cons (rule_refused (by decide +kernel)) ((all_cons (rule_refused (by decide +kernel)) ((all_cons (rule_refused (by decide +kernel)) ((all_cons (none_refused (t := 1) (by decide) trivial rfl) ((all_cons (none_refused (t := 1) (by decide) trivial rfl) ((all_cons (none_refused (t := 1) (by decide) trivial rfl) ((all_cons (none_refused (t := 1) (by decide) trivial rfl) ((all_cons (rule_refused (by decide +kernel)) ((all_cons (none_refused (t := 1) (by decide) trivial rfl) ((all_cons (none_refused (t := 1) (by decide) O_Framing.fine rfl) all_nil)))))))))))))))))))
  refine run_seq1 (run_asg (x := .lst ([.str "", .str "flag 1", .str "check 1", .non, .int 5, dueR.dat, .lst [.str lineT], .str (lineT ++ "; "), .dic [], .obj cls_Framing (putD "_rule" dueR.dat [])] : List Dat)) (ev_ofN (en_lst (ea_cons ev_str (ea_cons ev_str (ea_cons ev_str (ea_cons ev_non (ea_cons ev_int (ea_cons (ev_var rfl) (ea_cons (ev_ofN (en_lst (ea_cons (ev_var rfl) ea_nil) (by show 1 ≤ sizeLine; decide))) (ea_cons (ev_op (ev_var rfl) ev_str (r2_catS (by decide +kernel))) (ea_cons (ev_ofM em_new) (ea_cons (ev_make (ea_cons (ev_var rfl) ea_nil) ⟨dueR, due_good, rfl, rfl⟩) ea_nil)))))))))) (by show 10 ≤ sizeLine; decide))) rfl) ?_
  show Run _ [.d (.str lineT), .d dueR.dat, .no, .no, .no, .d (.lst ([.str "", .str "flag 1", .str "check 1", .non, .int 5, dueR.dat, .lst [.str lineT], .str (lineT ++ "; "), .dic [], .obj cls_Framing (putD "_rule" dueR.dat [])] : List Dat)), _] _ _
  refine run_seq1 (run_if (b := false) (et_is (et_test (ev_op (ev_ofN (en_is (en_lcL (js := [6]) (l := ([.str "", .str "flag 1", .str "check 1", .non, .int 5, dueR.dat, .lst [.str lineT], .str (lineT ++ "; "), .dic [], .obj cls_Framing (putD "_rule" dueR.dat [])] : List Dat)) (enc := fun d => d) (f := fun _ => false) (v := fun d => d) (er_is (er_ofD (ev_var rfl)) rfl) (by decide) (big (by show 10 ≤ 1000000; decide)) fun d hd => ⟨_, tg_name 6, et_is (et_test (ev_op (ev_call (ea_cons ev_int (ea_cons (ev_var rfl) ea_nil)) (H0 d hd)) ev_str (r2_neT (.str (n := 1) ref_ok) (by decide)))) rfl, fun z => by cases z⟩) (ys := []) rfl)) (ev_ofN (en_lst ea_nil (Nat.zero_le _))) (r2_neT (.lst (n := 1) all_nil) (by decide)))) rfl) (fun z => by cases z) fun _ => run_next rfl) ?_
  have H1 : ∀ d ∈ ([.str "", .str " ", .str "0 ", .str " 1", .str "--", .str "-1", .str "2", .str "0-", .str "01\n", .str "none", .non, .int 0, .tup [.int 0, .int 1], .lst [], .dic []] : List Dat), R__law_parsed K c_InvalidText [.int 0, d] (.str "refused") := (all_cons (word_refused (by decide +kernel)) ((all_cons (word_refused (by decide +kernel)) ((all_cons (word_refused (by decide +kernel)) ((all_cons (word_refused (by decide +kernel)) ((all_cons (word_refused (by decide +kernel)) ((all_cons (word_refused (by decide +kernel)) ((all_cons (word_refused (by decide +kernel)) ((all_cons (word_refused (by decide +kernel)) ((all_cons (word_refused (by decide +kernel)) ((all_cons (word_refused (by decide +kernel)) ((all_cons (none_refused (t := 0) (by decide) trivial rfl) ((all_cons (none_refused (t := 0) (by decide) trivial rfl) ((all_cons (none_refused (t := 0) (by decide) trivial rfl) ((all_cons (none_refused (t := 0) (by decide) trivial rfl) ((all_cons (none_refused (t := 0) (by decide) trivial rfl) all_nil)))))))))))))))))))))))))))))
  refine run_seq1 (run_asg (x := .lst ([.str "", .str " ", .str "0 ", .str " 1", .str "--", .str "-1", .str "2", .str "0-", .str "01\n", .str "none", .non, .int 0, .tup [.int 0, .int 1], .lst [], .dic []] : List Dat)) (ev_ofN (en_lst (ea_cons ev_str (ea_cons ev_str (ea_cons ev_str (ea_cons ev_str (ea_cons ev_str (ea_cons ev_str (ea_cons ev_str (ea_cons ev_str (ea_cons ev_str (ea_cons ev_str (ea_cons ev_non (ea_cons ev_int (ea_cons (ev_tup (ea_cons ev_int (ea_cons ev_int ea_nil)) (by show 2 ≤ sizeLine; decide)) (ea_cons (ev_ofN (en_lst ea_nil (Nat.zero_le _))) (ea_cons (ev_ofM em_new) ea_nil))))))))))))))) (by show 15 ≤ sizeLine; decide))) rfl) ?_
  show Run _ [.d (.str lineT), .d dueR.dat, .no, .no, .no, .d (.lst ([.str "", .str " ", .str "0 ", .str " 1", .str "--", .str "-1", .str "2", .str "0-", .str "01\n", .str "none", .non, .int 0, .tup [.int 0, .int 1], .lst [], .dic []] : List Dat)), _] _ _
  refine run_seq1 (run_if (b := false) (et_is (et_test (ev_op (ev_ofN (en_is (en_lcL (js := [6]) (l := ([.str "", .str " ", .str "0 ", .str " 1", .str "--", .str "-1", .str "2", .str "0-", .str "01\n", .str "none", .non, .int 0, .tup [.int 0, .int 1], .lst [], .dic []] : List Dat)) (enc := fun d => d) (f := fun _ => false) (v := fun d => d) (er_is (er_ofD (ev_var rfl)) rfl) (by decide) (big (by show 15 ≤ 1000000; decide)) fun d hd => ⟨_, tg_name 6, et_is (et_test (ev_op (ev_call (ea_cons ev_int (ea_cons (ev_var rfl) ea_nil)) (H1 d hd)) ev_str (r2_neT (.str (n := 1) ref_ok) (by decide)))) rfl, fun z => by cases z⟩) (ys := []) rfl)) (ev_ofN (en_lst ea_nil (Nat.zero_le _))) (r2_neT (.lst (n := 1) all_nil) (by decide)))) rfl) (fun z => by cases z) fun _ => run_next rfl) ?_
  have H2 : ∀ d ∈ ([.str "", .str " ", .str "0  1", .str " 0", .str "1 ", .str "None", .str "none 1", .str "1 none", .str "0,1", .str "-- 1", .str "0;1", .non, .int 0, .lst [.tup [.int 0]], .tup [], .dic []] : List Dat), R__law_parsed K c_InvalidText [.int 2, d] (.str "refused") := (all_cons (list_refused (by decide +kernel)) ((all_cons (list_refused (by decide +kernel)) ((all_cons (list_refused (by decide +kernel)) ((all_cons (list_refused (by decide +kernel)) ((all_cons (list_refused (by decide +kernel)) ((all_cons (list_refused (by decide +kernel)) ((all_cons (list_refused (by decide +kernel)) ((all_cons (list_refused (by decide +kernel)) ((all_cons (list_refused (by decide +kernel)) ((all_cons (list_refused (by decide +kernel)) ((all_cons (list_refused (by decide +kernel)) ((all_cons (none_refused (t := 2) (by decide) trivial rfl) ((all_cons (none_refused (t := 2) (by decide) trivial rfl) ((all_cons (none_refused (t := 2) (by decide) trivial rfl) ((all_cons (none_refused (t := 2) (by decide) trivial rfl) ((all_cons (none_refused (t := 2) (by decide) trivial rfl) all_nil)))))))))))))))))))))))))))))))
  refine run_seq1 (run_asg (x := .lst ([.str "", .str " ", .str "0  1", .str " 0", .str "1 ", .str "None", .str "none 1", .str "1 none", .str "0,1", .str "-- 1", .str "0;1", .non, .int 0, .lst [.tup [.int 0]], .tup [], .dic []] : List Dat)) (ev_ofN (en_lst (ea_cons ev_str (ea_cons ev_str (ea_cons ev_str (ea_cons ev_str (ea_cons ev_str (ea_cons ev_str (ea_cons ev_str (ea_cons ev_str (ea_cons ev_str (ea_cons ev_str (ea_cons ev_str (ea_cons ev_non (ea_cons ev_int (ea_cons (ev_ofN (en_lst (ea_cons (ev_tup (ea_cons ev_int ea_nil) (by show 1 ≤ sizeLine; decide)) ea_nil) (by show 1 ≤ sizeLine; decide))) (ea_cons (ev_tup ea_nil (by show 0 ≤ sizeLine; decide)) (ea_cons (ev_ofM em_new) ea_nil)))))))))))))))) (by show 16 ≤ sizeLine; decide))) rfl) ?_
  show Run _ [.d (.str lineT), .d dueR.dat, .no, .no, .no, .d (.lst ([.str "", .str " ", .str "0  1", .str " 0", .str "1 ", .str "None", .str "none 1", .str "1 none", .str "0,1", .str "-- 1", .str "0;1", .non, .int 0, .lst [.tup [.int 0]], .tup [], .dic []] : List Dat)), _] _ _
  exact run_ret (ev_op (ev_ofN (en_is (en_lcL (js := [6]) (l := ([.str "", .str " ", .str "0  1", .str " 0", .str "1 ", .str "None", .str "none 1", .str "1 none", .str "0,1", .str "-- 1", .str "0;1", .non, .int 0, .lst [.tup [.int 0]], .tup [], .dic []] : List Dat)) (enc := fun d => d) (f := fun _ => false) (v := fun d => d) (er_is (er_ofD (ev_var rfl)) rfl) (by decide) (big (by show 16 ≤ 1000000; decide)) fun d hd => ⟨_, tg_name 6, et_is (et_test (ev_op (ev_call (ea_cons ev_int (ea_cons (ev_var rfl) ea_nil)) (H2 d hd)) ev_str (r2_neT (.str (n := 1) ref_ok) (by decide)))) rfl, fun z => by cases z⟩) (ys := []) rfl)) (ev_ofN (en_lst ea_nil (Nat.zero_le _))) r2_eqNilA) rfl
end
end Fr

set_option Elab.async false
set_option linter.all false
set_option maxRecDepth 100000
set_option maxHeartbeats 4000000
namespace Fr
open PySem PySem.Spec PyProof.Rows L2
open Evl (Ex)
abbrev s__law_crate : Stmt := topS 69
abbrev N__law_crate : List Str := ["script", "at", "cell"]
theorem sc__law_crate : FnScope N__law_crate ["script", "at"] (defScope s__law_crate) := ⟨rfl, rfl, rfl, by decide +kernel, rfl, by decide +kernel, by decide +kernel⟩
abbrev s_law : Stmt := topS 85
abbrev N_law : List Str := ["script", "at", "crate", "rule_here", "many", "mark", "word"]
theorem sc_law : FnScope N_law ["script"] (defScope s_law) := ⟨rfl, rfl, rfl, by decide +kernel, rfl, by decide +kernel, by decide +kernel⟩
section
variable {P : Program} {w0 : World} {K : PySem.W.Frag} {mg : Str → Option Value} {base : Heap}
/-- the law's promise -/
def spLaw (K : PySem.W.Frag) : Sp := fun vs H Q _ => ∃ (a : Addr) (ns : List Int), vs = [V.ref a] ∧ SqL K H a (ns.map V.int) ∧ ns.length ≤ 63 ∧ ∀ H', Q (.bl true) H'
/-- the crate's: a new list -/
def PrS (K : PySem.W.Frag) : Sp := fun vs H Q _ => ∃ (A : Hp) (a : Addr) (ns : List Int) (at_ : Int), vs = [V.ref a, V.int at_] ∧ Ex A H ∧ SqL K A a (ns.map V.int) ∧ 0 ≤ at_ ∧ at_ ≤ 100 ∧
  ∀ l us B H' ys, CrOk ys 0 → Gr A H B H' → H l = none → B l = none → H' l = some (.lst us) → Reps B us ys → Q (.ref l) H'
section
variable {K : PySem.W.Frag} {γ : Gam} {ta tb te : TE} {N : Gam → Prop} {R : Dat → Gam → Prop} {tu tw : TS}
theorem ev_lenScr {i : Nat} {ns : List Int} (h : γ[i]? = some (Slot.scr K ns)) : EvD (tCB (Evl.rLenS K) (tCons (tVar i) tNil)) γ (.int (ns.length : Int)) := fun H0 A H σ k Q q => by
  obtain ⟨a, h1, h2⟩ := k.scr i K ns h
  refine ⟨_, h1, a, ns.map V.int, rfl, .inl (Evl.ex_l k.sub h2), ?_⟩
  rw [List.length_map]
  exact q _ A H (Gr.refl k.sub) (.int _)
theorem atI_map {ns : List Int} {j z : Int} (e : atI ns j = some z) : atI (ns.map V.int) j = some (V.int z) := by
  unfold atI at e ⊢
  rw [List.length_map]
  cases q : ixN ns.length j with
  | none =>
    rw [q] at e
    cases e
  | some n =>
    rw [q] at e
    show (ns.map V.int)[n]? = _
    have e' : ns[n]? = some z := e
    rw [List.getElem?_map, e']
    rfl
theorem ev_ixScr {i : Nat} {ns : List Int} {j z : Int} (h : γ[i]? = some (Slot.scr K ns)) (hb : EvD tb γ (.int j)) (e : atI ns j = some z) : EvD (tOp (rIxL K) (tVar i) tb) γ (.int z) := fun H0 A H σ k Q q => by
  obtain ⟨a, h1, h2⟩ := k.scr i K ns h
  refine ⟨_, h1, hb H0 A H σ k _ fun v B H1 g1 r1 => ?_⟩
  cases r1
  exact ⟨a, ns.map V.int, j, V.int z, rfl, rfl, Evl.ex_l g1.up (Evl.ex_l k.sub h2), atI_map e, q _ B H1 g1 (.int _)⟩
/-- crate = _law_crate(script, at) -/
theorem run_crate {i j t : Nat} {ns : List Int} {at_ : Int} {E : XK} (h : γ[i]? = some (Slot.scr K ns)) (h2 : γ[j]? = some (Slot.d (.int at_))) (a0 : 0 ≤ at_) (a1 : at_ ≤ 100) (hn : ∀ ys, CrOk ys 0 → N (γ.set t (.o ys))) : Run (tAsg (tCall (PrS K) [] E (tCons (tVar i) (tCons (tVar j) tNil))) (gName t)) γ N R := fun A0 H0 A H σ g0 k D dn dr => by
  obtain ⟨a, h1, h3⟩ := k.scr i K ns h
  obtain ⟨v, h4, r4⟩ := k.get j _ h2
  cases r4
  refine ⟨_, h1, _, h4, A, a, ns, at_, rfl, k.sub, h3, a0, a1, fun l us B H1 ys hc g1 hl hB hl1 ru => ?_⟩
  have k1 := k.mono g1
  refine dn _ B H1 _ (hn ys hc) (g0.trans g1) g1.view (k1.setM t (fun b u hj mt e => ?_) (fun _ z => nomatch z) (fun _ _ z => nomatch z) (fun _ _ z => nomatch z) (fun _ z => by cases z; exact ⟨us, Evl.fresh_back g0.up hl, hB, hl1, ru⟩) fun _ z => nomatch z)
  obtain ⟨c, o, e2, _, _, e3⟩ := k.addr hj mt
  rw [e2] at e
  cases e
  rw [hl] at e3
  cases e3
end
theorem ok_entryS {A H : Hp} {K : PySem.W.Frag} {a : Addr} {ns : List Int} (s : Ex A H) (hS : SqL K A a (ns.map V.int)) (N : List Str) {vs : List V} {xs : List Dat} (r : Reps A vs xs) (hN : vs.length < N.length) :
    Ok H A H (L2.start N (V.ref a :: vs)) (Slot.scr K ns :: entry (N.drop 1) xs) := by
  have q := ok_entry s (N.drop 1) r
  have e1 : L2.start N (V.ref a :: vs) = some (V.ref a) :: L2.start (N.drop 1) vs := by
    unfold L2.start
    rw [List.map_cons, List.cons_append, List.length_cons, List.length_drop]
    congr 3
    omega
  rw [e1]
  have no : ∀ (i : Nat) (t : Slot), (entry (N.drop 1) xs)[i]? = some t → t.mine = false ∧ ∀ K m, t ≠ .scr K m := fun i t h => by
    unfold entry at h
    by_cases hi : i < xs.length
    · rw [List.getElem?_append_left (by simpa using hi), List.getElem?_map] at h
      cases e : xs[i]? with
      | none => rw [e] at h; cases h
      | some a => rw [e] at h; cases h; exact ⟨rfl, fun _ _ z => nomatch z⟩
    · rw [List.getElem?_append_right (by simpa using hi), List.getElem?_replicate] at h
      split at h <;> cases h
      exact ⟨rfl, fun _ _ z => nomatch z⟩
  have nm : ∀ (i : Nat) (t : Slot), (Slot.scr K ns :: entry (N.drop 1) xs)[i]? = some t → t.mine = false := fun i t h => by
    cases i with
    | zero => cases h; rfl
    | succ i => exact (no i t h).1
  refine ⟨s, by rw [List.length_cons, List.length_cons, q.len], fun i x h => ?_, fun i ys h => ?_, fun i ys h => ?_, fun i d ys h => ?_, fun i K' m h => ?_, fun i j l t u h1 h2 h3 h4 h5 h6 => ?_⟩
  · cases i with
    | zero => cases h
    | succ i => exact q.get i x h
  · have := nm i _ h
    cases this
  · have := nm i _ h
    cases this
  · have := nm i _ h
    cases this
  · cases i with
    | zero =>
      cases h
      exact ⟨a, rfl, hS⟩
    | succ i => exact absurd rfl ((no i _ h).2 K' m)
  · rw [nm i t h1] at h3
    cases h3
theorem ok__law_crate {f : Addr} {fd : FuncData} (F : Fun K "_law_crate" "_law_crate" s__law_crate f fd) (T : Bs mg) : FnOk P w0 K mg base CX0 1 f fd ["script", "at"] (PrS K) := by
  refine F.ok sc__law_crate (fun vs H Q E h => ?_) fun cdv A outer s H vs Q E hr h => ?_
  · obtain ⟨_, _, _, _, rfl, _⟩ := h
    rfl
  · obtain ⟨B, a, ns, at_, rfl, sub, hS, a0, a1, q⟩ := h
    refine ⟨_, (pss_cons (ps_set (i := 2) sc__law_crate.nd rfl (Or.inl rfl) (pe_ifExp (pt_cmpR op_lt (pv 1) (pe_callB (call_lenK (K := K) rfl) (by rfl) T.len PySem.boot_len (pa_cons (pv 0) pa_nil)) (nomark _)) (pe_ix (ix_listK (K := K) rfl) (pv 0) (pv 1) (fun _ _ => rfl)) pe_int))
      (pss_one (ps_ret (pe_lst (pa_cons (pe_callB (call_max2 rfl) (by rfl) T.max (by decide +kernel) (pa_cons pe_int (pa_cons (pe_op op_sub (pe_callB call_abs (by rfl) T.abs (by decide +kernel) (pa_cons (pv 2) pa_nil)) (pe_op op_pow pe_int pe_int)) pa_nil))) (pa_cons (pe_op op_add (pe_op op_add (pe_op op_mul (pe_op op_modN (pe_callTy call_int1 (by rfl) T.int (by decide +kernel) (pa_cons (pv 2) pa_nil)) (pe_op op_add (pe_op op_pow pe_int pe_int) pe_int)) pe_int) (pe_op op_mul pe_int (pv 1))) pe_int) (pa_cons pe_int pa_nil))))))), ?_⟩
    have k0 := ok_entryS sub hS N__law_crate (vs := [V.int at_]) (xs := [.int at_]) (.cons (.int _) .nil) (by show 1 < 3; decide)
    obtain ⟨cell, hcell⟩ : ∃ c : Int, at_ < (ns.length : Int) → atI ns at_ = some c := by
      by_cases z : at_ < (ns.length : Int)
      · obtain ⟨n, rfl⟩ := Int.eq_ofNat_of_zero_le a0
        have hn : n < ns.length := by omega
        exact ⟨ns[n], fun _ => atI_nat (List.getElem?_eq_getElem hn)⟩
      · exact ⟨0, fun h => absurd h z⟩
    refine run_asg (x := .int (if at_ < (ns.length : Int) then cell else 0)) (N := fun δ => ∃ c, δ = [.scr K ns, .d (.int at_), .d (.int c)]) (R := fun _ _ => False) (γ := [.scr K ns, .d (.int at_), .no]) ?_ ⟨_, rfl⟩ B H B H _ (Gr.refl sub) k0 _ (fun δ C H' σ' hn g v k' => ?_) fun _ _ _ _ _ _ z => z.elim
    · by_cases z : at_ < (ns.length : Int)
      · rw [if_pos z]
        exact ev_is (ev_if (b := true) (y := .non) (et_test (ev_is (ev_op (ev_var rfl) (ev_lenScr rfl) r2_lt) (congrArg Dat.bl (decide_eq_true z)))) (fun _ => ev_ixScr rfl (ev_var rfl) (hcell z)) fun z => by cases z) rfl
      · rw [if_neg z]
        exact ev_is (ev_if (b := false) (x := .non) (et_test (ev_is (ev_op (ev_var rfl) (ev_lenScr rfl) r2_lt) (congrArg Dat.bl (decide_eq_false z)))) (fun z => by cases z) fun _ => ev_int) rfl
    · obtain ⟨c, rfl⟩ := hn
      have f0 := fmod_in (x := c) (m := 10 ^ 37 + 91) (by decide)
      refine (en_lst (ea_cons (ev_cb (ea_cons ev_int (ea_cons (ev_op (ev_cb (ea_cons (ev_var rfl) ea_nil) rc_abs1) (ev_op ev_int ev_int (r2_pow ⟨by decide, by decide, by decide⟩)) r2_sub) ea_nil)) rc_max2) (ea_cons (ev_op (ev_op (ev_op (ev_op (ev_int1 (ev_var rfl)) (ev_op (ev_op ev_int ev_int (r2_pow ⟨by decide, by decide, by decide⟩)) ev_int r2_add) (r2_modN (by decide))) ev_int (r2_mul (.inr ⟨by decide, by decide⟩))) (ev_op ev_int (ev_var rfl) (r2_mul (.inl ⟨by decide, by decide⟩))) r2_add) ev_int r2_add) (ea_cons ev_int ea_nil))) (by show 3 ≤ sizeLine; decide)) H C H' σ' k' _ fun l us D H2 g2 hl hD h2 r2 => ?_
      refine q l us D H2 _ ⟨_, _, 0, rfl, ?_, ?_, ?_, by decide, by decide⟩ (g.trans g2) (Evl.fresh_back g.up hl) hD h2 r2
      · split <;> omega
      · have : 0 ≤ c.fmod (10 ^ 37 + 91) := f0.1
        show 0 ≤ c.fmod (10 ^ 37 + 91) * 83 + 59 * at_ + 47
        omega
      · have : c.fmod (10 ^ 37 + 91) < 10 ^ 37 + 91 := f0.2
        show c.fmod (10 ^ 37 + 91) * 83 + 59 * at_ + 47 < 2 ^ 140
        omega

section
variable {γ : Gam} {t u : TT}
theorem ext_not {S : Bool → Gam → Prop} (h : EvXT t γ (fun b δ => S (!b) δ)) : EvXT (tNot t) γ S := fun A0 H0 A H σ g0 k Q q => h A0 H0 A H σ g0 k _ fun b B H' δ hs g1 v1 k1 => q (!b) B H' δ hs g1 v1 k1
theorem ext_or {S S1 : Bool → Gam → Prop} (h : EvXT t γ S1) (h1 : ∀ δ, S1 false δ → EvXT u δ S) (h2 : ∀ δ, S1 true δ → S true δ) : EvXT (tOr t u) γ S := fun A0 H0 A H σ g0 k Q q => h A0 H0 A H σ g0 k _ fun b B H' δ hs g1 v1 k1 => by
  cases b with
  | false => exact h1 δ hs A0 H0 B H' σ g1 k1 Q fun b2 C H2 ε hs2 g2 v2 k2 => q b2 C H2 ε hs2 g2 (v1.trans v2) k2
  | true => exact q true B H' δ (h2 δ hs) g1 v1 k1
end
theorem wt_le {k m : Nat} : ∀ l : List Str, (∀ p ∈ l, p.length ≤ m) → wtS k l ≤ l.length * (m + k)
  | [], _ => Nat.zero_le _
  | p :: l, h => by
    have h1 := h p List.mem_cons_self
    have h2 := wt_le (k := k) l fun q hq => h q (List.mem_cons_of_mem _ hq)
    have e : wtS k (p :: l) = (p.length + k) + wtS k l := rfl
    rw [List.length_cons, Nat.succ_mul]
    omega
theorem Drawn.wr {r : Rule} (h : Drawn r) : Wr r := ⟨h.good, h.small.flag1, h.n8, h.w16, by have := h.small.chk1; omega⟩
theorem Drawn.short {r : Rule} (h : Drawn r) : (ruleS r).length ≤ 246 := by
  have W := h.wr
  have e := join_wt sepR (partsS r) (by unfold partsS; exact List.cons_ne_nil _ _)
  have G := W.g
  have fl := word_len (b01 G.flag)
  have f16 := W.f16
  have n8 := W.n8
  obtain ⟨n, en⟩ := Int.eq_ofNat_of_zero_le (show 0 ≤ r.chk by have := h.small.chk0; omega)
  have nl := (num_read (n := n) (by have := h.small.chk1; omega)).2
  have hi := wt_le (k := 2) (m := 24) (r.ins.map insS) fun s hs => by
    obtain ⟨p, hp, rfl⟩ := List.mem_map.mp hs
    obtain ⟨h1, h2, h3⟩ := W.wide.row p hp
    unfold insS
    rw [len_add, len_add, l_puts, bit_len h3]
    have := word_len (b01 h1)
    have := W.w16 p hp
    omega
  rw [List.length_map] at hi
  rw [l_sepR] at e
  have ew : wtS 2 (partsS r) = (("flag " ++ wordS r.flag).length + 2) + (wtS 2 (r.ins.map insS) + (("check " ++ strI r.chk).length + 2)) := by
    unfold partsS
    rw [show ("flag " ++ wordS r.flag) :: (r.ins.map insS ++ ["check " ++ strI r.chk]) = ["flag " ++ wordS r.flag] ++ (r.ins.map insS ++ ["check " ++ strI r.chk]) from rfl, wt_app, wt_app]
    simp [wtS]
  rw [ew, len_add, len_add, l_flag, l_check, en] at e
  unfold ruleS
  omega
theorem list_short {ps : List (List Int)} (hn : ps.length ≤ 25) (hb : ∀ p ∈ ps, Bits p ∧ p.length ≤ 6) : (listS ps).length ≤ 246 := by
  by_cases z : ps = []
  · subst z
    rw [listS_nil]
    decide +kernel
  · have e := join_wt sepW (ps.map wordS) (fun q => z (List.map_eq_nil_iff.mp q))
    have h1 := wt_le (k := 1) (m := 7) (ps.map wordS) fun s hs => by
      obtain ⟨p, hp, rfl⟩ := List.mem_map.mp hs
      have := word_len (b01 (bits_all (hb p hp).1))
      have := (hb p hp).2
      omega
    rw [List.length_map] at h1
    rw [l_sepW] at e
    unfold listS
    rw [if_neg z]
    omega
theorem l_m1 : ("; " : Str).length = 2 := by decide +kernel
theorem l_m2 : (" " : Str).length = 1 := by decide +kernel
theorem l_m3 : ("1" : Str).length = 1 := by decide +kernel
theorem ok_law {f : Addr} {fd : FuncData} (F : Fun K "law" "law" s_law f fd) {f__law_crate : Addr} {d__law_crate : FuncData} (C__law_crate : CalS P w0 K mg base "_law_crate" ["script", "at"] 1 (PrS K) f__law_crate d__law_crate) {f__law_bits : Addr} {d__law_bits : FuncData} (C__law_bits : CalS P w0 K mg base "_law_bits" ["crate", "size"] 2 (PrC Rf__law_bits Pre__law_bits) f__law_bits d__law_bits) {f__law_any_rule : Addr} {d__law_any_rule : FuncData} (C__law_any_rule : CalS P w0 K mg base "_law_any_rule" ["crate", "great"] 4 (PrC Rf__law_any_rule Pre__law_any_rule) f__law_any_rule d__law_any_rule) {f__law_payloads : Addr} {d__law_payloads : FuncData} (C__law_payloads : CalS P w0 K mg base "_law_payloads" ["crate", "many", "size"] 3 (PrC Rf__law_payloads Pre__law_payloads) f__law_payloads d__law_payloads) {f__law_haul : Addr} {d__law_haul : FuncData} (C__law_haul : CalS P w0 K mg base "_law_haul" ["crate", "below"] 1 (PrC Rf__law_haul Pre__law_haul) f__law_haul d__law_haul) {f__law_bent_right : Addr} {d__law_bent_right : FuncData} (C__law_bent_right : CalS P w0 K mg base "_law_bent_right" ["crate", "way", "line", "mark"] 10 (PrC Rf__law_bent_right Pre__law_bent_right) f__law_bent_right d__law_bent_right) {f__law_word_line : Addr} {d__law_word_line : FuncData} (C__law_word_line : Cal P w0 K mg base "_law_word_line" ["word"] 1 R__law_word_line f__law_word_line d__law_word_line) {f__law_fixed_right : Addr} {d__law_fixed_right : FuncData} (C__law_fixed_right : Cal P w0 K mg base "_law_fixed_right" [] 11 R__law_fixed_right f__law_fixed_right d__law_fixed_right) {f__law_rule_line : Addr} {d__law_rule_line : FuncData} (C__law_rule_line : Cal P w0 K mg base "_law_rule_line" ["rule_here"] 2 R__law_rule_line f__law_rule_line d__law_rule_line) {f__law_list_line : Addr} {d__law_list_line : FuncData} (C__law_list_line : Cal P w0 K mg base "_law_list_line" ["many"] 2 R__law_list_line f__law_list_line d__law_list_line) (T : Bs mg) : FnOk P w0 K mg base CX0 16 f fd ["script"] (spLaw K) := by
  refine F.ok sc_law (fun vs H Q E h => ?_) fun cdv A outer s H vs Q E hr h => ?_
  · obtain ⟨_, _, rfl, _⟩ := h
    rfl
  · obtain ⟨a, ns, rfl, hS, hl, q⟩ := h
    refine ⟨_, (pss_cons (ps_for PassesOwn.never rfl (pi_range1 (by rfl) T.range (pa_cons (pe_callB (call_max2 rfl) (by rfl) T.max (by decide +kernel) (pa_cons pe_int (pa_cons (pe_callB (call_min2 rfl) (by rfl) T.min (by decide +kernel) (pa_cons pe_int (pa_cons (pe_callB (call_lenK (K := K) rfl) (by rfl) T.len PySem.boot_len (pa_cons (pv 0) pa_nil)) pa_nil))) pa_nil))) pa_nil)) (pg_name (i := 1) sc_law.nd rfl (Or.inl rfl)) (pss_cons (ps_set (i := 2) sc_law.nd rfl (Or.inl rfl) (pe_call C__law_crate.ok (hr.mono (by decide)) rfl C__law_crate.at_ C__law_crate.kp C__law_crate.bd .nil pass0 (pa_cons (pv 0) (pa_cons (pv 1) pa_nil))))
      (pss_cons (ps_par (i := 3) (j := 4) (by rfl) sc_law.nd rfl rfl (by decide) rfl rfl (pa_cons (pe_call C__law_any_rule.ok (hr.mono (by decide)) rfl C__law_any_rule.at_ C__law_any_rule.kp C__law_any_rule.bd .nil pass0 (pa_cons (pv 2) (pa_cons pe_bl pa_nil))) (pa_cons (pe_call C__law_payloads.ok (hr.mono (by decide)) rfl C__law_payloads.at_ C__law_payloads.kp C__law_payloads.bd .nil pass0 (pa_cons (pv 2) (pa_cons (pe_ix (ix_listK (K := K) rfl) (pe_lst (pa_cons pe_int (pa_cons pe_int pa_nil))) (pe_call C__law_haul.ok (hr.mono (by decide)) rfl C__law_haul.at_ C__law_haul.kp C__law_haul.bd .nil pass0 (pa_cons (pv 2) (pa_cons pe_int pa_nil))) (fun _ _ => rfl)) (pa_cons pe_int pa_nil)))) pa_nil)) (by rfl))
      (pss_cons (ps_for PassesOwn.never rfl (pi_tupK (K := K) rfl (pe_tup (pa_cons pe_str (pa_cons pe_str pa_nil)))) (pg_name (i := 5) sc_law.nd rfl (Or.inl rfl)) (pss_one (ps_if (pt_not (pt_val (pe_call C__law_bent_right.ok (hr.mono (by decide)) rfl C__law_bent_right.at_ C__law_bent_right.kp C__law_bent_right.bd .nil pass0 (pa_cons (pv 2) (pa_cons pe_int (pa_cons (pe_call C__law_rule_line.ok (hr.mono (by decide)) rfl C__law_rule_line.at_ C__law_rule_line.kp C__law_rule_line.bd .nil pass0 (pa_cons (pv 3) pa_nil)) (pa_cons (pv 5) pa_nil))))))) (pss_one (ps_ret pe_bl)) pss_nil)))
      (pss_cons (ps_set (i := 6) sc_law.nd rfl (Or.inl rfl) (pe_call C__law_bits.ok (hr.mono (by decide)) rfl C__law_bits.at_ C__law_bits.kp C__law_bits.bd .nil pass0 (pa_cons (pv 2) (pa_cons (pe_call C__law_haul.ok (hr.mono (by decide)) rfl C__law_haul.at_ C__law_haul.kp C__law_haul.bd .nil pass0 (pa_cons (pv 2) (pa_cons (pe_ix (ix_listK (K := K) rfl) (pe_lst (pa_cons pe_int (pa_cons pe_int pa_nil))) (pe_call C__law_haul.ok (hr.mono (by decide)) rfl C__law_haul.at_ C__law_haul.kp C__law_haul.bd .nil pass0 (pa_cons (pv 2) (pa_cons pe_int pa_nil))) (fun _ _ => rfl)) pa_nil))) pa_nil))))
      (pss_cons (ps_if (pt_not (pt_val (pe_call C__law_bent_right.ok (hr.mono (by decide)) rfl C__law_bent_right.at_ C__law_bent_right.kp C__law_bent_right.bd .nil pass0 (pa_cons (pv 2) (pa_cons pe_int (pa_cons (pe_call C__law_word_line.ok (hr.mono (by decide)) rfl C__law_word_line.at_ C__law_word_line.kp C__law_word_line.bd .nil pass0 (pa_cons (pv 6) pa_nil)) (pa_cons pe_str pa_nil))))))) (pss_one (ps_ret pe_bl)) pss_nil)
      (pss_one (ps_if (PW.pt (pw_or (pt_not (pt_val (pe_call C__law_bent_right.ok (hr.mono (by decide)) rfl C__law_bent_right.at_ C__law_bent_right.kp C__law_bent_right.bd .nil pass0 (pa_cons (pv 2) (pa_cons pe_int (pa_cons (pe_call C__law_list_line.ok (hr.mono (by decide)) rfl C__law_list_line.at_ C__law_list_line.kp C__law_list_line.bd .nil pass0 (pa_cons (pv 4) pa_nil)) (pa_cons pe_str pa_nil))))))) (pw_or1 (pt_not (pt_val (pe_call0 C__law_fixed_right.ok (hr.mono (by decide)) rfl C__law_fixed_right.at_ C__law_fixed_right.kp C__law_fixed_right.bd .nil pass0)))))) (pss_one (ps_ret pe_bl)) pss_nil))))))))
      (pss_one (ps_ret pe_bl))), ?_⟩
    have k0 := ok_entryS (Ex.refl H) hS N_law (vs := []) (xs := []) .nil (by show 0 < 7; decide)
    refine (?_ : Run _ (Slot.scr K ns :: entry (N_law.drop 1) []) (fun _ => False) (fun x _ => x = .bl true)) H H H H _ (Gr.refl (Ex.refl H)) k0 _ (fun _ _ _ _ z => z.elim) fun v C H' x σ' δ hx g _ rx => ?_
    case refine_2 =>
      subst hx
      cases rx
      exact q _
    have m1l := l_m1
    have m2l := l_m2
    have m3l := l_m3
    obtain ⟨m, hm, m1, m6⟩ : ∃ m : Int, (if (if (ns.length : Int) < 5 then (ns.length : Int) else 5) > 1 then (if (ns.length : Int) < 5 then (ns.length : Int) else 5) else 1) = m ∧ 1 ≤ m ∧ m ≤ 5 := ⟨_, rfl, by split <;> omega, by split <;> (try split) <;> omega⟩
    refine run_seqC (run_forR (n := m) (ea_cons (ev_is (ev_cb (ea_cons ev_int (ea_cons (ev_cb (ea_cons ev_int (ea_cons (ev_lenScr rfl) ea_nil)) rc_min2) ea_nil)) rc_max2) (congrArg Dat.int hm)) ea_nil) ⟨by omega, by omega⟩
      (fun i δ => ∃ s1 s2 s3 s4 s5 s6 : Slot, δ = [.scr K ns, s1, s2, s3, s4, s5, s6] ∧ (s6 = .no ∨ True)) ⟨_, _, _, _, _, _, rfl, .inr trivial⟩ ?_ ?_)
    · rintro i δ hi ⟨s1, s2, s3, s4, s5, s6, rfl, _⟩
      refine run_seqC (run_crate (i := 0) (j := 1) (t := 2) rfl rfl (by omega) (by omega) fun ys hc => ?_)
      refine run_seqC (runx_par (exa_consC (ex_lend (i := 2) (.inl rfl) (exa_of (ea_cons ev_bl ea_nil) ⟨ys, .inl rfl, ⟨0, true, hc, by decide, rfl⟩, fun x ds1 hR => ?_⟩))))
      obtain ⟨r, rfl, Dr, hk⟩ := hR
      have h1 := hk _ hc
      clear hk hc
      refine exa_consC (ex_lend (i := 2) (.inl rfl) (exa_consC (ex_opC (ex_of (ev_ofN (en_lst (ea_cons ev_int (ea_cons ev_int ea_nil)) (by show 2 ≤ sizeLine; decide))) (ex_haul (i := 2) (.inl rfl) ev_int h1 (by omega) (by decide) (by decide) fun d ds2 d0 d1 h2 => ?_)))))
      obtain ⟨zq, hz, z0, z1⟩ : ∃ zq : Int, atI [Dat.int 5, Dat.int 25] d = some (.int zq) ∧ 0 ≤ zq ∧ zq ≤ 25 := by
        rcases (show d = 0 ∨ d = 1 by omega) with rfl | rfl
        · exact ⟨5, rfl, by decide, by decide⟩
        · exact ⟨25, rfl, by decide, by decide⟩
      refine ⟨_, r2_ixL hz, exa_of (ea_cons ev_int ea_nil) ⟨ds2, .inl rfl, ⟨_, zq, 6, h2, by omega, rfl, z0, by omega, by decide, by decide⟩, fun x ds3 hR => ?_⟩⟩
      obtain ⟨zq', m', ps, e, rfl, pn, pb, hk⟩ := hR
      injection e with e1 e2
      injection e2 with e2 _
      injection e1 with e1
      injection e2 with e2
      subst e1 e2
      have h3 := hk _ h2
      clear hk h1 h2
      refine exa_nil ⟨_, _, rfl, ?_⟩
      show Run _ [.scr K ns, .d (.int (i : Nat)), .o ds3, .d r.dat, .d (.lst (ps.map w)), s5, s6] _ _
      have W := Dr.wr.wide
      have rs := Dr.short
      have ls := list_short (ps := ps) (by omega) fun p hp => ⟨(pb p hp).1, by have := (pb p hp).2; omega⟩
      have hPs : PsW ps := ⟨by omega, fun p hp => ⟨bits_all (pb p hp).1, by have := (pb p hp).2; omega⟩⟩
      -- rules
      refine run_seq (M := fun δ => ∃ ds s5 s6, δ = [.scr K ns, .d (.int (i : Nat)), .o ds, .d r.dat, .d (.lst (ps.map w)), s5, s6] ∧ CrOk ds 200000) (run_forT (xs := [.str "; ", .str " "]) (ev_tup (ea_cons ev_str (ea_cons ev_str ea_nil)) (by show 2 ≤ sizeLine; decide)) (fun i' δ => ∃ ds s5 s6, δ = [.scr K ns, .d (.int (i : Nat)), .o ds, .d r.dat, .d (.lst (ps.map w)), s5, s6] ∧ CrOk ds (160001 + 100 * i')) ⟨ds3, s5, s6, rfl, h3.mono (by omega)⟩ ?_ ?_) ?_
      · rintro i' x δ hx ⟨ds, s5, s6, rfl, hk⟩
        obtain ⟨mk, rfl, k1, k2, i2⟩ : ∃ mk : Str, x = .str mk ∧ 1 ≤ mk.length ∧ mk.length ≤ 2 ∧ i' < 2 := by
          rcases i' with _ | _ | i'
          · cases hx
            exact ⟨_, rfl, by omega, by omega, by decide⟩
          · cases hx
            exact ⟨_, rfl, by omega, by omega, by decide⟩
          · cases hx
        refine ⟨_, _, tg_name 5, ?_⟩
        refine runx_ifC (ext_not (ext_B (ex_lend (i := 2) (.inl rfl) (exa_of (ea_cons ev_int (ea_cons (ev_call (ea_cons (ev_var rfl) ea_nil) ⟨r, W, rfl, rfl⟩) (ea_cons (ev_var rfl) ea_nil))) ⟨ds, .inl rfl, ⟨_, 1, ruleS r, mk, hk, by omega, rfl, by decide, by decide, rs, k1, k2⟩, fun x ds9 hR => ?_⟩))))
        obtain ⟨rfl, hk9⟩ := hR
        exact ⟨true, rfl, (fun z => by cases z), fun _ => run_next ⟨ds9, _, s6, rfl, (hk9 _ hk).mono (by omega)⟩⟩
      · rintro δ ⟨ds, s5, s6, rfl, hk⟩
        exact ⟨ds, s5, s6, rfl, hk.mono (by show 160001 + 100 * 2 ≤ 200000; decide)⟩
      clear h3 ds3
      rintro δ ⟨ds3, s5, s6, rfl, h3⟩
      -- words
      refine run_seqC (runx_asg (ex_bits (i := 2) (ds0 := ds3) (.inl rfl) (ex_lend (i := 2) (.inl rfl) (exa_consC (ex_opC (ex_of (ev_ofN (en_lst (ea_cons ev_int (ea_cons ev_int ea_nil)) (by show 2 ≤ sizeLine; decide))) (ex_haul (i := 2) (.inl rfl) ev_int h3 (by omega) (by decide) (by decide) fun d ds4 d0 d1 h4 => ?_)))))))
      obtain ⟨zw, hz, w0, w1⟩ : ∃ zw : Int, atI [Dat.int 9, Dat.int 90] d = some (.int zw) ∧ 9 ≤ zw ∧ zw ≤ 90 := by
        rcases (show d = 0 ∨ d = 1 by omega) with rfl | rfl
        · exact ⟨9, rfl, by decide, by decide⟩
        · exact ⟨90, rfl, by decide, by decide⟩
      refine ⟨_, r2_ixL hz, exa_of ea_nil ⟨ds4, .inl rfl, ⟨_, zw, h4, by omega, rfl, by omega, by omega⟩, fun x ds5 hR => ?_⟩⟩
      obtain ⟨mm, v, e, rfl, v0, v1, hk⟩ := hR
      injection e with e1
      injection e1 with e1
      subst e1
      have h5 := hk _ h4
      clear hk h4
      refine ⟨v, ds5, _, rfl, .inl rfl, h5, by omega, v0, by omega, fun wd ds6 wl wb h6 => ?_⟩
      show Run _ [.scr K ns, .d (.int (i : Nat)), .o ds6, .d r.dat, .d (.lst (ps.map w)), s5, .d (w wd)] _ _
      have w01 := bits_all wb
      have wl2 := word_len (b01 w01)
      refine run_seqC (runx_ifC (ext_not (ext_B (ex_lend (i := 2) (.inl rfl) (exa_of (ea_cons ev_int (ea_cons (ev_call (ea_cons (ev_var rfl) ea_nil) ⟨wd, w01, by omega, rfl, rfl⟩) (ea_cons ev_str ea_nil))) ⟨ds6, .inl rfl, ⟨_, 0, wordS wd, "1", h6, by omega, rfl, by decide, by decide, by omega, by omega, by omega⟩, fun x ds7 hR => ?_⟩)))))
      obtain ⟨rfl, hk7⟩ := hR
      have h7 := hk7 _ h6
      refine ⟨true, rfl, (fun z => by cases z), fun _ => run_next ?_⟩
      show Run _ [.scr K ns, .d (.int (i : Nat)), .o ds7, .d r.dat, .d (.lst (ps.map w)), s5, .d (w wd)] _ _
      -- lists, and fixed texts
      refine runx_ifC (ext_or (S1 := fun b δ => b = false ∧ ∃ ds8, δ = [.scr K ns, .d (.int (i : Nat)), .o ds8, .d r.dat, .d (.lst (ps.map w)), s5, .d (w wd)]) (ext_not (ext_B (ex_lend (i := 2) (.inl rfl) (exa_of (ea_cons ev_int (ea_cons (ev_call (ea_cons (ev_var rfl) ea_nil) ⟨ps, hPs, rfl, rfl⟩) (ea_cons ev_str ea_nil))) ⟨ds7, .inl rfl, ⟨_, 2, listS ps, " ", h7, by omega, rfl, by decide, by decide, ls, by omega, by omega⟩, fun x ds8 hR => ?_⟩)))) ?_ ?_)
      · obtain ⟨rfl, hk8⟩ := hR
        exact ⟨true, rfl, rfl, ds8, rfl⟩
      · rintro δ ⟨_, ds8, rfl⟩
        exact ext_not (ext_of (et_B (ev_call ea_nil ⟨rfl, rfl⟩)) ⟨(fun z => by cases z), fun _ => run_next ⟨_, _, _, _, _, _, rfl, .inr trivial⟩⟩)
      · rintro δ ⟨z, _⟩
        cases z
    · rintro δ ⟨s1, s2, s3, s4, s5, s6, rfl, _⟩
      exact run_ret ev_bl rfl

end
end Fr

set_option Elab.async false
set_option linter.all false
set_option maxRecDepth 100000
set_option maxHeartbeats 0
namespace Fr
open PySem PySem.Spec PyProof.Rows L2
open Evl (Ex)
/-! # the end -/
theorem b__law_crate : ∀ (kV doc pm : Value) (an : Option Addr) (cdv ct : Value) (us : List Value), us.length = (["script", "at"] : List Str).length → bindArgs (PySem.W.fnOf "_law_crate" "_law_crate" (defArgs s__law_crate) (defBody s__law_crate) (defScope s__law_crate) .none kV doc pm an cdv ct) ⟨us, []⟩ = pure ((["script", "at"] : List Str).zip us) :=
  fun _ _ _ _ _ _ us hl => match us, hl with | [_, _], _ => rfl
theorem b__law_haul : ∀ (kV doc pm : Value) (an : Option Addr) (cdv ct : Value) (us : List Value), us.length = (["crate", "below"] : List Str).length → bindArgs (PySem.W.fnOf "_law_haul" "_law_haul" (defArgs s__law_haul) (defBody s__law_haul) (defScope s__law_haul) .none kV doc pm an cdv ct) ⟨us, []⟩ = pure ((["crate", "below"] : List Str).zip us) :=
  fun _ _ _ _ _ _ us hl => match us, hl with | [_, _], _ => rfl
theorem b__law_bits : ∀ (kV doc pm : Value) (an : Option Addr) (cdv ct : Value) (us : List Value), us.length = (["crate", "size"] : List Str).length → bindArgs (PySem.W.fnOf "_law_bits" "_law_bits" (defArgs s__law_bits) (defBody s__law_bits) (defScope s__law_bits) .none kV doc pm an cdv ct) ⟨us, []⟩ = pure ((["crate", "size"] : List Str).zip us) :=
  fun _ _ _ _ _ _ us hl => match us, hl with | [_, _], _ => rfl
theorem b__law_drawn_rule : ∀ (kV doc pm : Value) (an : Option Addr) (cdv ct : Value) (us : List Value), us.length = (["crate", "flag_here", "word_here", "many_here", "top"] : List Str).length → bindArgs (PySem.W.fnOf "_law_drawn_rule" "_law_drawn_rule" (defArgs s__law_drawn_rule) (defBody s__law_drawn_rule) (defScope s__law_drawn_rule) .none kV doc pm an cdv ct) ⟨us, []⟩ = pure ((["crate", "flag_here", "word_here", "many_here", "top"] : List Str).zip us) :=
  fun _ _ _ _ _ _ us hl => match us, hl with | [_, _, _, _, _], _ => rfl
theorem b__law_any_rule : ∀ (kV doc pm : Value) (an : Option Addr) (cdv ct : Value) (us : List Value), us.length = (["crate", "great"] : List Str).length → bindArgs (PySem.W.fnOf "_law_any_rule" "_law_any_rule" (defArgs s__law_any_rule) (defBody s__law_any_rule) (defScope s__law_any_rule) .none kV doc pm an cdv ct) ⟨us, []⟩ = pure ((["crate", "great"] : List Str).zip us) :=
  fun _ _ _ _ _ _ us hl => match us, hl with | [_, _], _ => rfl
theorem b__law_payloads : ∀ (kV doc pm : Value) (an : Option Addr) (cdv ct : Value) (us : List Value), us.length = (["crate", "many", "size"] : List Str).length → bindArgs (PySem.W.fnOf "_law_payloads" "_law_payloads" (defArgs s__law_payloads) (defBody s__law_payloads) (defScope s__law_payloads) .none kV doc pm an cdv ct) ⟨us, []⟩ = pure ((["crate", "many", "size"] : List Str).zip us) :=
  fun _ _ _ _ _ _ us hl => match us, hl with | [_, _, _], _ => rfl
theorem b__law_bent_line : ∀ (kV doc pm : Value) (an : Option Addr) (cdv ct : Value) (us : List Value), us.length = (["crate", "line", "mark"] : List Str).length → bindArgs (PySem.W.fnOf "_law_bent_line" "_law_bent_line" (defArgs s__law_bent_line) (defBody s__law_bent_line) (defScope s__law_bent_line) .none kV doc pm an cdv ct) ⟨us, []⟩ = pure ((["crate", "line", "mark"] : List Str).zip us) :=
  fun _ _ _ _ _ _ us hl => match us, hl with | [_, _, _], _ => rfl
theorem b__need_text : ∀ (kV doc pm : Value) (an : Option Addr) (cdv ct : Value) (us : List Value), us.length = (["value"] : List Str).length → bindArgs (PySem.W.fnOf "_need_text" "_need_text" (defArgs s__need_text) (defBody s__need_text) (defScope s__need_text) .none kV doc pm an cdv ct) ⟨us, []⟩ = pure ((["value"] : List Str).zip us) :=
  fun _ _ _ _ _ _ us hl => match us, hl with | [_], _ => rfl
theorem b_parse_word : ∀ (kV doc pm : Value) (an : Option Addr) (cdv ct : Value) (us : List Value), us.length = (["text"] : List Str).length → bindArgs (PySem.W.fnOf "parse_word" "parse_word" (defArgs s_parse_word) (defBody s_parse_word) (defScope s_parse_word) .none kV doc pm an cdv ct) ⟨us, []⟩ = pure ((["text"] : List Str).zip us) :=
  fun _ _ _ _ _ _ us hl => match us, hl with | [_], _ => rfl
theorem b__parse_number : ∀ (kV doc pm : Value) (an : Option Addr) (cdv ct : Value) (us : List Value), us.length = (["text"] : List Str).length → bindArgs (PySem.W.fnOf "_parse_number" "_parse_number" (defArgs s__parse_number) (defBody s__parse_number) (defScope s__parse_number) .none kV doc pm an cdv ct) ⟨us, []⟩ = pure ((["text"] : List Str).zip us) :=
  fun _ _ _ _ _ _ us hl => match us, hl with | [_], _ => rfl
theorem b_is_number : ∀ (kV doc pm : Value) (an : Option Addr) (cdv ct : Value) (us : List Value), us.length = (["value"] : List Str).length → bindArgs (PySem.W.fnOf "is_number" "is_number" (defArgs s_is_number) (defBody s_is_number) (defScope s_is_number) .none kV doc pm an cdv ct) ⟨us, []⟩ = pure ((["value"] : List Str).zip us) :=
  fun _ _ _ _ _ _ us hl => match us, hl with | [_], _ => rfl
theorem b_is_bit : ∀ (kV doc pm : Value) (an : Option Addr) (cdv ct : Value) (us : List Value), us.length = (["value"] : List Str).length → bindArgs (PySem.W.fnOf "is_bit" "is_bit" (defArgs s_is_bit) (defBody s_is_bit) (defScope s_is_bit) .none kV doc pm an cdv ct) ⟨us, []⟩ = pure ((["value"] : List Str).zip us) :=
  fun _ _ _ _ _ _ us hl => match us, hl with | [_], _ => rfl
theorem b_is_word : ∀ (kV doc pm : Value) (an : Option Addr) (cdv ct : Value) (us : List Value), us.length = (["value"] : List Str).length → bindArgs (PySem.W.fnOf "is_word" "is_word" (defArgs s_is_word) (defBody s_is_word) (defScope s_is_word) .none kV doc pm an cdv ct) ⟨us, []⟩ = pure ((["value"] : List Str).zip us) :=
  fun _ _ _ _ _ _ us hl => match us, hl with | [_], _ => rfl
theorem b_is_full_word : ∀ (kV doc pm : Value) (an : Option Addr) (cdv ct : Value) (us : List Value), us.length = (["value"] : List Str).length → bindArgs (PySem.W.fnOf "is_full_word" "is_full_word" (defArgs s_is_full_word) (defBody s_is_full_word) (defScope s_is_full_word) .none kV doc pm an cdv ct) ⟨us, []⟩ = pure ((["value"] : List Str).zip us) :=
  fun _ _ _ _ _ _ us hl => match us, hl with | [_], _ => rfl
theorem b_is_insert : ∀ (kV doc pm : Value) (an : Option Addr) (cdv ct : Value) (us : List Value), us.length = (["value"] : List Str).length → bindArgs (PySem.W.fnOf "is_insert" "is_insert" (defArgs s_is_insert) (defBody s_is_insert) (defScope s_is_insert) .none kV doc pm an cdv ct) ⟨us, []⟩ = pure ((["value"] : List Str).zip us) :=
  fun _ _ _ _ _ _ us hl => match us, hl with | [_], _ => rfl
theorem b__are_inserts : ∀ (kV doc pm : Value) (an : Option Addr) (cdv ct : Value) (us : List Value), us.length = (["value"] : List Str).length → bindArgs (PySem.W.fnOf "_are_inserts" "_are_inserts" (defArgs s__are_inserts) (defBody s__are_inserts) (defScope s__are_inserts) .none kV doc pm an cdv ct) ⟨us, []⟩ = pure ((["value"] : List Str).zip us) :=
  fun _ _ _ _ _ _ us hl => match us, hl with | [_], _ => rfl
theorem b_is_rule : ∀ (kV doc pm : Value) (an : Option Addr) (cdv ct : Value) (us : List Value), us.length = (["value"] : List Str).length → bindArgs (PySem.W.fnOf "is_rule" "is_rule" (defArgs s_is_rule) (defBody s_is_rule) (defScope s_is_rule) .none kV doc pm an cdv ct) ⟨us, []⟩ = pure ((["value"] : List Str).zip us) :=
  fun _ _ _ _ _ _ us hl => match us, hl with | [_], _ => rfl
theorem b__parse_insert : ∀ (kV doc pm : Value) (an : Option Addr) (cdv ct : Value) (us : List Value), us.length = (["part"] : List Str).length → bindArgs (PySem.W.fnOf "_parse_insert" "_parse_insert" (defArgs s__parse_insert) (defBody s__parse_insert) (defScope s__parse_insert) .none kV doc pm an cdv ct) ⟨us, []⟩ = pure ((["part"] : List Str).zip us) :=
  fun _ _ _ _ _ _ us hl => match us, hl with | [_], _ => rfl
theorem b__behind : ∀ (kV doc pm : Value) (an : Option Addr) (cdv ct : Value) (us : List Value), us.length = (["name", "part"] : List Str).length → bindArgs (PySem.W.fnOf "_behind" "_behind" (defArgs s__behind) (defBody s__behind) (defScope s__behind) .none kV doc pm an cdv ct) ⟨us, []⟩ = pure ((["name", "part"] : List Str).zip us) :=
  fun _ _ _ _ _ _ us hl => match us, hl with | [_, _], _ => rfl
theorem b_parse_rule : ∀ (kV doc pm : Value) (an : Option Addr) (cdv ct : Value) (us : List Value), us.length = (["text"] : List Str).length → bindArgs (PySem.W.fnOf "parse_rule" "parse_rule" (defArgs s_parse_rule) (defBody s_parse_rule) (defScope s_parse_rule) .none kV doc pm an cdv ct) ⟨us, []⟩ = pure ((["text"] : List Str).zip us) :=
  fun _ _ _ _ _ _ us hl => match us, hl with | [_], _ => rfl
theorem b_parse_payloads : ∀ (kV doc pm : Value) (an : Option Addr) (cdv ct : Value) (us : List Value), us.length = (["text"] : List Str).length → bindArgs (PySem.W.fnOf "parse_payloads" "parse_payloads" (defArgs s_parse_payloads) (defBody s_parse_payloads) (defScope s_parse_payloads) .none kV doc pm an cdv ct) ⟨us, []⟩ = pure ((["text"] : List Str).zip us) :=
  fun _ _ _ _ _ _ us hl => match us, hl with | [_], _ => rfl
theorem b__law_parsed : ∀ (kV doc pm : Value) (an : Option Addr) (cdv ct : Value) (us : List Value), us.length = (["way", "line"] : List Str).length → bindArgs (PySem.W.fnOf "_law_parsed" "_law_parsed" (defArgs s__law_parsed) (defBody s__law_parsed) (defScope s__law_parsed) .none kV doc pm an cdv ct) ⟨us, []⟩ = pure ((["way", "line"] : List Str).zip us) :=
  fun _ _ _ _ _ _ us hl => match us, hl with | [_, _], _ => rfl
theorem b__law_is_word_line : ∀ (kV doc pm : Value) (an : Option Addr) (cdv ct : Value) (us : List Value), us.length = (["line"] : List Str).length → bindArgs (PySem.W.fnOf "_law_is_word_line" "_law_is_word_line" (defArgs s__law_is_word_line) (defBody s__law_is_word_line) (defScope s__law_is_word_line) .none kV doc pm an cdv ct) ⟨us, []⟩ = pure ((["line"] : List Str).zip us) :=
  fun _ _ _ _ _ _ us hl => match us, hl with | [_], _ => rfl
theorem b__law_word_line : ∀ (kV doc pm : Value) (an : Option Addr) (cdv ct : Value) (us : List Value), us.length = (["word"] : List Str).length → bindArgs (PySem.W.fnOf "_law_word_line" "_law_word_line" (defArgs s__law_word_line) (defBody s__law_word_line) (defScope s__law_word_line) .none kV doc pm an cdv ct) ⟨us, []⟩ = pure ((["word"] : List Str).zip us) :=
  fun _ _ _ _ _ _ us hl => match us, hl with | [_], _ => rfl
theorem b__law_is_word : ∀ (kV doc pm : Value) (an : Option Addr) (cdv ct : Value) (us : List Value), us.length = (["thing", "least"] : List Str).length → bindArgs (PySem.W.fnOf "_law_is_word" "_law_is_word" (defArgs s__law_is_word) (defBody s__law_is_word) (defScope s__law_is_word) .none kV doc pm an cdv ct) ⟨us, []⟩ = pure ((["thing", "least"] : List Str).zip us) :=
  fun _ _ _ _ _ _ us hl => match us, hl with | [_, _], _ => rfl
theorem b__law_is_rule : ∀ (kV doc pm : Value) (an : Option Addr) (cdv ct : Value) (us : List Value), us.length = (["thing"] : List Str).length → bindArgs (PySem.W.fnOf "_law_is_rule" "_law_is_rule" (defArgs s__law_is_rule) (defBody s__law_is_rule) (defScope s__law_is_rule) .none kV doc pm an cdv ct) ⟨us, []⟩ = pure ((["thing"] : List Str).zip us) :=
  fun _ _ _ _ _ _ us hl => match us, hl with | [_], _ => rfl
theorem b__law_rule_line : ∀ (kV doc pm : Value) (an : Option Addr) (cdv ct : Value) (us : List Value), us.length = (["rule_here"] : List Str).length → bindArgs (PySem.W.fnOf "_law_rule_line" "_law_rule_line" (defArgs s__law_rule_line) (defBody s__law_rule_line) (defScope s__law_rule_line) .none kV doc pm an cdv ct) ⟨us, []⟩ = pure ((["rule_here"] : List Str).zip us) :=
  fun _ _ _ _ _ _ us hl => match us, hl with | [_], _ => rfl
theorem b__law_list_line : ∀ (kV doc pm : Value) (an : Option Addr) (cdv ct : Value) (us : List Value), us.length = (["many"] : List Str).length → bindArgs (PySem.W.fnOf "_law_list_line" "_law_list_line" (defArgs s__law_list_line) (defBody s__law_list_line) (defScope s__law_list_line) .none kV doc pm an cdv ct) ⟨us, []⟩ = pure ((["many"] : List Str).zip us) :=
  fun _ _ _ _ _ _ us hl => match us, hl with | [_], _ => rfl
theorem b__law_bent_right : ∀ (kV doc pm : Value) (an : Option Addr) (cdv ct : Value) (us : List Value), us.length = (["crate", "way", "line", "mark"] : List Str).length → bindArgs (PySem.W.fnOf "_law_bent_right" "_law_bent_right" (defArgs s__law_bent_right) (defBody s__law_bent_right) (defScope s__law_bent_right) .none kV doc pm an cdv ct) ⟨us, []⟩ = pure ((["crate", "way", "line", "mark"] : List Str).zip us) :=
  fun _ _ _ _ _ _ us hl => match us, hl with | [_, _, _, _], _ => rfl
theorem b_need_rule : ∀ (kV doc pm : Value) (an : Option Addr) (cdv ct : Value) (us : List Value), us.length = (["value"] : List Str).length → bindArgs (PySem.W.fnOf "need_rule" "need_rule" (defArgs s_need_rule) (defBody s_need_rule) (defScope s_need_rule) .none kV doc pm an cdv ct) ⟨us, []⟩ = pure ((["value"] : List Str).zip us) :=
  fun _ _ _ _ _ _ us hl => match us, hl with | [_], _ => rfl
theorem b__law_fixed_right : ∀ (kV doc pm : Value) (an : Option Addr) (cdv ct : Value) (us : List Value), us.length = ([] : List Str).length → bindArgs (PySem.W.fnOf "_law_fixed_right" "_law_fixed_right" (defArgs s__law_fixed_right) (defBody s__law_fixed_right) (defScope s__law_fixed_right) .none kV doc pm an cdv ct) ⟨us, []⟩ = pure (([] : List Str).zip us) :=
  fun _ _ _ _ _ _ us hl => match us, hl with | [], _ => rfl
theorem b_Framing_init : ∀ (kV doc pm : Value) (an : Option Addr) (cdv ct : Value) (us : List Value), us.length = (["self", "rule"] : List Str).length → bindArgs (PySem.W.fnOf "__init__" "Framing.__init__" (defArgs s_Framing_init) (defBody s_Framing_init) (defScope s_Framing_init) .none kV doc pm an cdv ct) ⟨us, []⟩ = pure ((["self", "rule"] : List Str).zip us) :=
  fun _ _ _ _ _ _ us hl => match us, hl with | [_, _], _ => rfl
theorem all_mk {P : Program} {w0 : World} {K : PySem.W.Frag} {h : Heap} {mg : Str → Option Value} {fa : Addr} (X : K.In h) (G : h.Ns mainGlobals mg) (hfa : mg "law" = some (.ref fa)) (cz : SaysZ zfa zfn zex K) :
    ∃ fd : FuncData, (∀ (s : Shared) (v : Value), BindsTo s fd ⟨[v], []⟩ [("script", v)]) ∧ ∀ base : Heap, K.In base → base.Ns mainGlobals mg → FnOk P w0 K mg base CX0 16 fa fd ["script"] (spLaw K) := by
  have c := cz.d
  have e := hfa.symm.trans (He.glo_ok X G (c.fact 31 (f := .glo "law") rfl))
  cases e
  have T : Bs mg := ⟨He.free_ok X G (c.fact 32 (f := .free "isinstance") rfl), He.free_ok X G (c.fact 33 (f := .free "int") rfl), He.free_ok X G (c.fact 34 (f := .free "bool") rfl), He.free_ok X G (c.fact 35 (f := .free "tuple") rfl), He.free_ok X G (c.fact 36 (f := .free "list") rfl), He.free_ok X G (c.fact 37 (f := .free "str") rfl), He.free_ok X G (c.fact 38 (f := .free "all") rfl), He.free_ok X G (c.fact 39 (f := .free "len") rfl), He.free_ok X G (c.fact 40 (f := .free "range") rfl), He.free_ok X G (c.fact 41 (f := .free "reversed") rfl), He.free_ok X G (c.fact 42 (f := .free "zip") rfl), He.free_ok X G (c.fact 43 (f := .free "sum") rfl), He.free_ok X G (c.fact 44 (f := .free "max") rfl), He.free_ok X G (c.fact 45 (f := .free "min") rfl), He.free_ok X G (c.fact 46 (f := .free "abs") rfl), He.free_ok X G (c.fact 47 (f := .free "sorted") rfl)⟩
  have ze : ((excCB K "InvalidText") && (decide (PySem.W.kitOne K (.ref (He.ga K "InvalidText")) (.ref (He.ga K "InvalidText")) = some true)) && (decide (PySem.W.kitOne K (.ref (He.ga K "InvalidText")) (.type "ValueError") = some true)) && (decide (PySem.W.kitAny K (.ref (He.ga K "InvalidText")) [.ref (He.ga K "InvalidRule"), .ref (He.ga K "InvalidBits"), .ref (He.ga K "InvalidPayloads")] = some false)) && (obB K "Framing")) = true := cz.e
  obtain ⟨ze, ze4⟩ := He.ba ze
  obtain ⟨ze, ze3⟩ := He.ba ze
  obtain ⟨ze, ze2⟩ := He.ba ze
  obtain ⟨ze, ze1⟩ := He.ba ze
  have ze0 := ze
  obtain ⟨d__law_crate, FD__law_crate⟩ := c.def_ 0 (d := dd__law_crate) rfl
  have F__law_crate : Fun K "_law_crate" "_law_crate" s__law_crate _ d__law_crate := fun_ofD FD__law_crate
  have B__law_crate : Binds K d__law_crate ["script", "at"] [] := F__law_crate.binds b__law_crate
  have A__law_crate : mg "_law_crate" = some (.ref (He.ga K "_law_crate")) := He.glo_ok X G (c.fact 0 (f := .glo "_law_crate") rfl)
  obtain ⟨d__law_haul, FD__law_haul⟩ := c.def_ 1 (d := dd__law_haul) rfl
  have F__law_haul : Fun K "_law_haul" "_law_haul" s__law_haul _ d__law_haul := fun_ofD FD__law_haul
  have B__law_haul : Binds K d__law_haul ["crate", "below"] [] := F__law_haul.binds b__law_haul
  have A__law_haul : mg "_law_haul" = some (.ref (He.ga K "_law_haul")) := He.glo_ok X G (c.fact 1 (f := .glo "_law_haul") rfl)
  obtain ⟨d__law_bits, FD__law_bits⟩ := c.def_ 2 (d := dd__law_bits) rfl
  have F__law_bits : Fun K "_law_bits" "_law_bits" s__law_bits _ d__law_bits := fun_ofD FD__law_bits
  have B__law_bits : Binds K d__law_bits ["crate", "size"] [] := F__law_bits.binds b__law_bits
  have A__law_bits : mg "_law_bits" = some (.ref (He.ga K "_law_bits")) := He.glo_ok X G (c.fact 2 (f := .glo "_law_bits") rfl)
  obtain ⟨d__law_drawn_rule, FD__law_drawn_rule⟩ := c.def_ 3 (d := dd__law_drawn_rule) rfl
  have F__law_drawn_rule : Fun K "_law_drawn_rule" "_law_drawn_rule" s__law_drawn_rule _ d__law_drawn_rule := fun_ofD FD__law_drawn_rule
  have B__law_drawn_rule : Binds K d__law_drawn_rule ["crate", "flag_here", "word_here", "many_here", "top"] [] := F__law_drawn_rule.binds b__law_drawn_rule
  have A__law_drawn_rule : mg "_law_drawn_rule" = some (.ref (He.ga K "_law_drawn_rule")) := He.glo_ok X G (c.fact 3 (f := .glo "_law_drawn_rule") rfl)
  obtain ⟨d__law_any_rule, FD__law_any_rule⟩ := c.def_ 4 (d := dd__law_any_rule) rfl
  have F__law_any_rule : Fun K "_law_any_rule" "_law_any_rule" s__law_any_rule _ d__law_any_rule := fun_ofD FD__law_any_rule
  have B__law_any_rule : Binds K d__law_any_rule ["crate", "great"] [] := F__law_any_rule.binds b__law_any_rule
  have A__law_any_rule : mg "_law_any_rule" = some (.ref (He.ga K "_law_any_rule")) := He.glo_ok X G (c.fact 4 (f := .glo "_law_any_rule") rfl)
  obtain ⟨d__law_payloads, FD__law_payloads⟩ := c.def_ 5 (d := dd__law_payloads) rfl
  have F__law_payloads : Fun K "_law_payloads" "_law_payloads" s__law_payloads _ d__law_payloads := fun_ofD FD__law_payloads
  have B__law_payloads : Binds K d__law_payloads ["crate", "many", "size"] [] := F__law_payloads.binds b__law_payloads
  have A__law_payloads : mg "_law_payloads" = some (.ref (He.ga K "_law_payloads")) := He.glo_ok X G (c.fact 5 (f := .glo "_law_payloads") rfl)
  obtain ⟨d__law_bent_line, FD__law_bent_line⟩ := c.def_ 6 (d := dd__law_bent_line) rfl
  have F__law_bent_line : Fun K "_law_bent_line" "_law_bent_line" s__law_bent_line _ d__law_bent_line := fun_ofD FD__law_bent_line
  have B__law_bent_line : Binds K d__law_bent_line ["crate", "line", "mark"] [] := F__law_bent_line.binds b__law_bent_line
  have A__law_bent_line : mg "_law_bent_line" = some (.ref (He.ga K "_law_bent_line")) := He.glo_ok X G (c.fact 6 (f := .glo "_law_bent_line") rfl)
  obtain ⟨d__need_text, FD__need_text⟩ := c.def_ 7 (d := dd__need_text) rfl
  have F__need_text : Fun K "_need_text" "_need_text" s__need_text _ d__need_text := fun_ofD FD__need_text
  have B__need_text : Binds K d__need_text ["value"] [] := F__need_text.binds b__need_text
  have A__need_text : mg "_need_text" = some (.ref (He.ga K "_need_text")) := He.glo_ok X G (c.fact 7 (f := .glo "_need_text") rfl)
  obtain ⟨d_parse_word, FD_parse_word⟩ := c.def_ 8 (d := dd_parse_word) rfl
  have F_parse_word : Fun K "parse_word" "parse_word" s_parse_word _ d_parse_word := fun_ofD FD_parse_word
  have B_parse_word : Binds K d_parse_word ["text"] [] := F_parse_word.binds b_parse_word
  have A_parse_word : mg "parse_word" = some (.ref (He.ga K "parse_word")) := He.glo_ok X G (c.fact 8 (f := .glo "parse_word") rfl)
  obtain ⟨d__parse_number, FD__parse_number⟩ := c.def_ 9 (d := dd__parse_number) rfl
  have F__parse_number : Fun K "_parse_number" "_parse_number" s__parse_number _ d__parse_number := fun_ofD FD__parse_number
  have B__parse_number : Binds K d__parse_number ["text"] [] := F__parse_number.binds b__parse_number
  have A__parse_number : mg "_parse_number" = some (.ref (He.ga K "_parse_number")) := He.glo_ok X G (c.fact 9 (f := .glo "_parse_number") rfl)
  obtain ⟨d_is_number, FD_is_number⟩ := c.def_ 10 (d := dd_is_number) rfl
  have F_is_number : Fun K "is_number" "is_number" s_is_number _ d_is_number := fun_ofD FD_is_number
  have B_is_number : Binds K d_is_number ["value"] [] := F_is_number.binds b_is_number
  have A_is_number : mg "is_number" = some (.ref (He.ga K "is_number")) := He.glo_ok X G (c.fact 10 (f := .glo "is_number") rfl)
  obtain ⟨d_is_bit, FD_is_bit⟩ := c.def_ 11 (d := dd_is_bit) rfl
  have F_is_bit : Fun K "is_bit" "is_bit" s_is_bit _ d_is_bit := fun_ofD FD_is_bit
  have B_is_bit : Binds K d_is_bit ["value"] [] := F_is_bit.binds b_is_bit
  have A_is_bit : mg "is_bit" = some (.ref (He.ga K "is_bit")) := He.glo_ok X G (c.fact 11 (f := .glo "is_bit") rfl)
  obtain ⟨d_is_word, FD_is_word⟩ := c.def_ 12 (d := dd_is_word) rfl
  have F_is_word : Fun K "is_word" "is_word" s_is_word _ d_is_word := fun_ofD FD_is_word
  have B_is_word : Binds K d_is_word ["value"] [] := F_is_word.binds b_is_word
  have A_is_word : mg "is_word" = some (.ref (He.ga K "is_word")) := He.glo_ok X G (c.fact 12 (f := .glo "is_word") rfl)
  obtain ⟨d_is_full_word, FD_is_full_word⟩ := c.def_ 13 (d := dd_is_full_word) rfl
  have F_is_full_word : Fun K "is_full_word" "is_full_word" s_is_full_word _ d_is_full_word := fun_ofD FD_is_full_word
  have B_is_full_word : Binds K d_is_full_word ["value"] [] := F_is_full_word.binds b_is_full_word
  have A_is_full_word : mg "is_full_word" = some (.ref (He.ga K "is_full_word")) := He.glo_ok X G (c.fact 13 (f := .glo "is_full_word") rfl)
  obtain ⟨d_is_insert, FD_is_insert⟩ := c.def_ 14 (d := dd_is_insert) rfl
  have F_is_insert : Fun K "is_insert" "is_insert" s_is_insert _ d_is_insert := fun_ofD FD_is_insert
  have B_is_insert : Binds K d_is_insert ["value"] [] := F_is_insert.binds b_is_insert
  have A_is_insert : mg "is_insert" = some (.ref (He.ga K "is_insert")) := He.glo_ok X G (c.fact 14 (f := .glo "is_insert") rfl)
  obtain ⟨d__are_inserts, FD__are_inserts⟩ := c.def_ 15 (d := dd__are_inserts) rfl
  have F__are_inserts : Fun K "_are_inserts" "_are_inserts" s__are_inserts _ d__are_inserts := fun_ofD FD__are_inserts
  have B__are_inserts : Binds K d__are_inserts ["value"] [] := F__are_inserts.binds b__are_inserts
  have A__are_inserts : mg "_are_inserts" = some (.ref (He.ga K "_are_inserts")) := He.glo_ok X G (c.fact 15 (f := .glo "_are_inserts") rfl)
  obtain ⟨d_is_rule, FD_is_rule⟩ := c.def_ 16 (d := dd_is_rule) rfl
  have F_is_rule : Fun K "is_rule" "is_rule" s_is_rule _ d_is_rule := fun_ofD FD_is_rule
  have B_is_rule : Binds K d_is_rule ["value"] [] := F_is_rule.binds b_is_rule
  have A_is_rule : mg "is_rule" = some (.ref (He.ga K "is_rule")) := He.glo_ok X G (c.fact 16 (f := .glo "is_rule") rfl)
  obtain ⟨d__parse_insert, FD__parse_insert⟩ := c.def_ 17 (d := dd__parse_insert) rfl
  have F__parse_insert : Fun K "_parse_insert" "_parse_insert" s__parse_insert _ d__parse_insert := fun_ofD FD__parse_insert
  have B__parse_insert : Binds K d__parse_insert ["part"] [] := F__parse_insert.binds b__parse_insert
  have A__parse_insert : mg "_parse_insert" = some (.ref (He.ga K "_parse_insert")) := He.glo_ok X G (c.fact 17 (f := .glo "_parse_insert") rfl)
  obtain ⟨d__behind, FD__behind⟩ := c.def_ 18 (d := dd__behind) rfl
  have F__behind : Fun K "_behind" "_behind" s__behind _ d__behind := fun_ofD FD__behind
  have B__behind : Binds K d__behind ["name", "part"] [] := F__behind.binds b__behind
  have A__behind : mg "_behind" = some (.ref (He.ga K "_behind")) := He.glo_ok X G (c.fact 18 (f := .glo "_behind") rfl)
  obtain ⟨d_parse_rule, FD_parse_rule⟩ := c.def_ 19 (d := dd_parse_rule) rfl
  have F_parse_rule : Fun K "parse_rule" "parse_rule" s_parse_rule _ d_parse_rule := fun_ofD FD_parse_rule
  have B_parse_rule : Binds K d_parse_rule ["text"] [] := F_parse_rule.binds b_parse_rule
  have A_parse_rule : mg "parse_rule" = some (.ref (He.ga K "parse_rule")) := He.glo_ok X G (c.fact 19 (f := .glo "parse_rule") rfl)
  obtain ⟨d_parse_payloads, FD_parse_payloads⟩ := c.def_ 20 (d := dd_parse_payloads) rfl
  have F_parse_payloads : Fun K "parse_payloads" "parse_payloads" s_parse_payloads _ d_parse_payloads := fun_ofD FD_parse_payloads
  have B_parse_payloads : Binds K d_parse_payloads ["text"] [] := F_parse_payloads.binds b_parse_payloads
  have A_parse_payloads : mg "parse_payloads" = some (.ref (He.ga K "parse_payloads")) := He.glo_ok X G (c.fact 20 (f := .glo "parse_payloads") rfl)
  obtain ⟨d__law_parsed, FD__law_parsed⟩ := c.def_ 21 (d := dd__law_parsed) rfl
  have F__law_parsed : Fun K "_law_parsed" "_law_parsed" s__law_parsed _ d__law_parsed := fun_ofD FD__law_parsed
  have B__law_parsed : Binds K d__law_parsed ["way", "line"] [] := F__law_parsed.binds b__law_parsed
  have A__law_parsed : mg "_law_parsed" = some (.ref (He.ga K "_law_parsed")) := He.glo_ok X G (c.fact 21 (f := .glo "_law_parsed") rfl)
  obtain ⟨d__law_is_word_line, FD__law_is_word_line⟩ := c.def_ 22 (d := dd__law_is_word_line) rfl
  have F__law_is_word_line : Fun K "_law_is_word_line" "_law_is_word_line" s__law_is_word_line _ d__law_is_word_line := fun_ofD FD__law_is_word_line
  have B__law_is_word_line : Binds K d__law_is_word_line ["line"] [] := F__law_is_word_line.binds b__law_is_word_line
  have A__law_is_word_line : mg "_law_is_word_line" = some (.ref (He.ga K "_law_is_word_line")) := He.glo_ok X G (c.fact 22 (f := .glo "_law_is_word_line") rfl)
  obtain ⟨d__law_word_line, FD__law_word_line⟩ := c.def_ 23 (d := dd__law_word_line) rfl
  have F__law_word_line : Fun K "_law_word_line" "_law_word_line" s__law_word_line _ d__law_word_line := fun_ofD FD__law_word_line
  have B__law_word_line : Binds K d__law_word_line ["word"] [] := F__law_word_line.binds b__law_word_line
  have A__law_word_line : mg "_law_word_line" = some (.ref (He.ga K "_law_word_line")) := He.glo_ok X G (c.fact 23 (f := .glo "_law_word_line") rfl)
  obtain ⟨d__law_is_word, FD__law_is_word⟩ := c.def_ 24 (d := dd__law_is_word) rfl
  have F__law_is_word : Fun K "_law_is_word" "_law_is_word" s__law_is_word _ d__law_is_word := fun_ofD FD__law_is_word
  have B__law_is_word : Binds K d__law_is_word ["thing", "least"] [] := F__law_is_word.binds b__law_is_word
  have A__law_is_word : mg "_law_is_word" = some (.ref (He.ga K "_law_is_word")) := He.glo_ok X G (c.fact 24 (f := .glo "_law_is_word") rfl)
  obtain ⟨d__law_is_rule, FD__law_is_rule⟩ := c.def_ 25 (d := dd__law_is_rule) rfl
  have F__law_is_rule : Fun K "_law_is_rule" "_law_is_rule" s__law_is_rule _ d__law_is_rule := fun_ofD FD__law_is_rule
  have B__law_is_rule : Binds K d__law_is_rule ["thing"] [] := F__law_is_rule.binds b__law_is_rule
  have A__law_is_rule : mg "_law_is_rule" = some (.ref (He.ga K "_law_is_rule")) := He.glo_ok X G (c.fact 25 (f := .glo "_law_is_rule") rfl)
  obtain ⟨d__law_rule_line, FD__law_rule_line⟩ := c.def_ 26 (d := dd__law_rule_line) rfl
  have F__law_rule_line : Fun K "_law_rule_line" "_law_rule_line" s__law_rule_line _ d__law_rule_line := fun_ofD FD__law_rule_line
  have B__law_rule_line : Binds K d__law_rule_line ["rule_here"] [] := F__law_rule_line.binds b__law_rule_line
  have A__law_rule_line : mg "_law_rule_line" = some (.ref (He.ga K "_law_rule_line")) := He.glo_ok X G (c.fact 26 (f := .glo "_law_rule_line") rfl)
  obtain ⟨d__law_list_line, FD__law_list_line⟩ := c.def_ 27 (d := dd__law_list_line) rfl
  have F__law_list_line : Fun K "_law_list_line" "_law_list_line" s__law_list_line _ d__law_list_line := fun_ofD FD__law_list_line
  have B__law_list_line : Binds K d__law_list_line ["many"] [] := F__law_list_line.binds b__law_list_line
  have A__law_list_line : mg "_law_list_line" = some (.ref (He.ga K "_law_list_line")) := He.glo_ok X G (c.fact 27 (f := .glo "_law_list_line") rfl)
  obtain ⟨d__law_bent_right, FD__law_bent_right⟩ := c.def_ 28 (d := dd__law_bent_right) rfl
  have F__law_bent_right : Fun K "_law_bent_right" "_law_bent_right" s__law_bent_right _ d__law_bent_right := fun_ofD FD__law_bent_right
  have B__law_bent_right : Binds K d__law_bent_right ["crate", "way", "line", "mark"] [] := F__law_bent_right.binds b__law_bent_right
  have A__law_bent_right : mg "_law_bent_right" = some (.ref (He.ga K "_law_bent_right")) := He.glo_ok X G (c.fact 28 (f := .glo "_law_bent_right") rfl)
  obtain ⟨d_need_rule, FD_need_rule⟩ := c.def_ 29 (d := dd_need_rule) rfl
  have F_need_rule : Fun K "need_rule" "need_rule" s_need_rule _ d_need_rule := fun_ofD FD_need_rule
  have B_need_rule : Binds K d_need_rule ["value"] [] := F_need_rule.binds b_need_rule
  have A_need_rule : mg "need_rule" = some (.ref (He.ga K "need_rule")) := He.glo_ok X G (c.fact 29 (f := .glo "need_rule") rfl)
  obtain ⟨d__law_fixed_right, FD__law_fixed_right⟩ := c.def_ 30 (d := dd__law_fixed_right) rfl
  have F__law_fixed_right : Fun K "_law_fixed_right" "_law_fixed_right" s__law_fixed_right _ d__law_fixed_right := fun_ofD FD__law_fixed_right
  have B__law_fixed_right : Binds K d__law_fixed_right [] [] := F__law_fixed_right.binds b__law_fixed_right
  have A__law_fixed_right : mg "_law_fixed_right" = some (.ref (He.ga K "_law_fixed_right")) := He.glo_ok X G (c.fact 30 (f := .glo "_law_fixed_right") rfl)
  obtain ⟨d_Framing_init, FD_Framing_init⟩ := c.def_ 31 (d := dd_Framing_init) rfl
  have F_Framing_init : Fun K "__init__" "Framing.__init__" s_Framing_init _ d_Framing_init := fun_ofD FD_Framing_init
  have B_Framing_init : Binds K d_Framing_init ["self", "rule"] [] := F_Framing_init.binds b_Framing_init
  obtain ⟨d_law, FD_law⟩ := c.def_ 32 (d := dd_law) rfl
  have F_law : Fun K "law" "law" s_law _ d_law := fun_ofD FD_law
  have OC_Framing : Cls K (He.ga K "Framing") := He.cls_ok (c.fact 49 (f := .cls "Framing") rfl)
  have NA_Framing : ∀ n ∈ (["_rule"] : List Str), NoAttr K (He.ga K "Framing") n := (na1 (He.noat_ok (c.fact 51 (f := .noat "Framing" "_rule") rfl)))
  have O_Framing : ClsOk K mg "Framing" (He.ga K "Framing") (He.ma K (He.ga K "Framing") "__init__") ["_rule"] := ⟨He.mkr_ok (c.fact 50 (f := .mkr "Framing") rfl), He.glo_ok X G (c.fact 48 (f := .glo "Framing") rfl), obB_ok ze4 OC_Framing, NA_Framing⟩
  have X_InvalidText : ExcOk K mg "InvalidText" (He.ga K "InvalidText") := by
    obtain ⟨h1, h2, h3, h4⟩ := He.exc_ok (c.fact 53 (f := .exc "InvalidText") rfl)
    exact ⟨h1, He.glo_ok X G (c.fact 52 (f := .glo "InvalidText") rfl), h2, h3, h4⟩
  have G_InvalidText : mg "InvalidText" = some (.ref (He.ga K "InvalidText")) := He.glo_ok X G (c.fact 52 (f := .glo "InvalidText") rfl)
  have G_FrameError : mg "FrameError" = some (.ref (He.ga K "FrameError")) := He.glo_ok X G (c.fact 54 (f := .glo "FrameError") rfl)
  have G_InvalidRule : mg "InvalidRule" = some (.ref (He.ga K "InvalidRule")) := He.glo_ok X G (c.fact 55 (f := .glo "InvalidRule") rfl)
  have G_InvalidBits : mg "InvalidBits" = some (.ref (He.ga K "InvalidBits")) := He.glo_ok X G (c.fact 56 (f := .glo "InvalidBits") rfl)
  have G_InvalidPayloads : mg "InvalidPayloads" = some (.ref (He.ga K "InvalidPayloads")) := He.glo_ok X G (c.fact 57 (f := .glo "InvalidPayloads") rfl)
  have TV : mg "ValueError" = none := He.free_ok X G (c.fact 58 (f := .free "ValueError") rfl)
  have TT : TellT K (He.ga K "InvalidText") (He.ga K "FrameError") (He.ga K "InvalidRule") (He.ga K "InvalidBits") (He.ga K "InvalidPayloads") := ⟨excCB_ok ze0, He.exm_ok (c.fact 59 (f := .exm "InvalidText" "FrameError" true) rfl), of_decide_eq_true ze1, of_decide_eq_true ze2, of_decide_eq_true ze3⟩
  obtain ⟨ocL, odL, kVL, dcL, pmL, anL, cdL, ctL, oslL, eL, lL, cL⟩ := F_law.ex
  refine ⟨d_law, fun s v => by subst eL; exact .of_eq rfl, fun base _ _ => ?_⟩
  have C__law_crate : CalS P w0 K mg base "_law_crate" ["script", "at"] 1 (PrS K) _ d__law_crate := ⟨ok__law_crate F__law_crate  T, B__law_crate, A__law_crate, FD__law_crate.kp⟩
  have C__law_haul : CalS P w0 K mg base "_law_haul" ["crate", "below"] 1 (PrC Rf__law_haul Pre__law_haul) _ d__law_haul := ⟨ok__law_haul F__law_haul  T, B__law_haul, A__law_haul, FD__law_haul.kp⟩
  have C__law_bits : CalS P w0 K mg base "_law_bits" ["crate", "size"] 2 (PrC Rf__law_bits Pre__law_bits) _ d__law_bits := ⟨ok__law_bits F__law_bits C__law_haul T, B__law_bits, A__law_bits, FD__law_bits.kp⟩
  have C__law_drawn_rule : CalS P w0 K mg base "_law_drawn_rule" ["crate", "flag_here", "word_here", "many_here", "top"] 3 (PrC Rf__law_drawn_rule Pre__law_drawn_rule) _ d__law_drawn_rule := ⟨ok__law_drawn_rule F__law_drawn_rule C__law_bits C__law_haul T, B__law_drawn_rule, A__law_drawn_rule, FD__law_drawn_rule.kp⟩
  have C__law_any_rule : CalS P w0 K mg base "_law_any_rule" ["crate", "great"] 4 (PrC Rf__law_any_rule Pre__law_any_rule) _ d__law_any_rule := ⟨ok__law_any_rule F__law_any_rule C__law_drawn_rule C__law_haul, B__law_any_rule, A__law_any_rule, FD__law_any_rule.kp⟩
  have C__law_payloads : CalS P w0 K mg base "_law_payloads" ["crate", "many", "size"] 3 (PrC Rf__law_payloads Pre__law_payloads) _ d__law_payloads := ⟨ok__law_payloads F__law_payloads C__law_bits C__law_haul T, B__law_payloads, A__law_payloads, FD__law_payloads.kp⟩
  have C__law_bent_line : CalS P w0 K mg base "_law_bent_line" ["crate", "line", "mark"] 2 (PrC Rf__law_bent_line Pre__law_bent_line) _ d__law_bent_line := ⟨ok__law_bent_line F__law_bent_line C__law_haul T, B__law_bent_line, A__law_bent_line, FD__law_bent_line.kp⟩
  have C__need_text : Cal P w0 K mg base "_need_text" ["value"] 1 R__need_text _ d__need_text := ⟨ok__need_text F__need_text  T, B__need_text, A__need_text, FD__need_text.kp⟩
  have CB__need_text : CalB P w0 K mg base "_need_text" ["value"] 1 R__need_text (RE__need_text K (He.ga K "InvalidText")) _ d__need_text := ⟨C__need_text.ok.toX.or (okE__need_text F__need_text X_InvalidText T), B__need_text, A__need_text, FD__need_text.kp⟩
  have C_parse_word : Cal P w0 K mg base "parse_word" ["text"] 2 R_parse_word _ d_parse_word := ⟨ok_parse_word F_parse_word C__need_text T, B_parse_word, A_parse_word, FD_parse_word.kp⟩
  have CB_parse_word : CalB P w0 K mg base "parse_word" ["text"] 2 R_parse_word (RE_parse_word K (He.ga K "InvalidText")) _ d_parse_word := ⟨C_parse_word.ok.toX.or (okE_parse_word F_parse_word X_InvalidText CB__need_text T), B_parse_word, A_parse_word, FD_parse_word.kp⟩
  have CB__parse_number : CalB P w0 K mg base "_parse_number" ["text"] 1 R__parse_number (RE__parse_number (He.ga K "InvalidText")) _ d__parse_number := ⟨okB__parse_number F__parse_number X_InvalidText T, B__parse_number, A__parse_number, FD__parse_number.kp⟩
  have C_is_number : Cal P w0 K mg base "is_number" ["value"] 1 (R_is_number K) _ d_is_number := ⟨ok_is_number F_is_number  T, B_is_number, A_is_number, FD_is_number.kp⟩
  have C_is_bit : Cal P w0 K mg base "is_bit" ["value"] 2 (R_is_bit K) _ d_is_bit := ⟨ok_is_bit F_is_bit C_is_number, B_is_bit, A_is_bit, FD_is_bit.kp⟩
  have C_is_word : Cal P w0 K mg base "is_word" ["value"] 3 (R_is_word K) _ d_is_word := ⟨ok_is_word F_is_word C_is_bit T, B_is_word, A_is_word, FD_is_word.kp⟩
  have C_is_full_word : Cal P w0 K mg base "is_full_word" ["value"] 4 (R_is_full_word K) _ d_is_full_word := ⟨ok_is_full_word F_is_full_word C_is_word T, B_is_full_word, A_is_full_word, FD_is_full_word.kp⟩
  have C_is_insert : Cal P w0 K mg base "is_insert" ["value"] 5 (R_is_insert K) _ d_is_insert := ⟨ok_is_insert F_is_insert C_is_full_word C_is_bit T, B_is_insert, A_is_insert, FD_is_insert.kp⟩
  have C__are_inserts : Cal P w0 K mg base "_are_inserts" ["value"] 6 (R__are_inserts K) _ d__are_inserts := ⟨ok__are_inserts F__are_inserts C_is_insert T, B__are_inserts, A__are_inserts, FD__are_inserts.kp⟩
  have C_is_rule : Cal P w0 K mg base "is_rule" ["value"] 7 (R_is_rule K) _ d_is_rule := ⟨ok_is_rule F_is_rule C_is_full_word C__are_inserts C_is_number T, B_is_rule, A_is_rule, FD_is_rule.kp⟩
  have CB__parse_insert : CalB P w0 K mg base "_parse_insert" ["part"] 3 R__parse_insert (RE__parse_insert K (He.ga K "InvalidText")) _ d__parse_insert := ⟨okB__parse_insert F__parse_insert X_InvalidText CB_parse_word T, B__parse_insert, A__parse_insert, FD__parse_insert.kp⟩
  have C__behind : Cal P w0 K mg base "_behind" ["name", "part"] 1 R__behind _ d__behind := ⟨ok__behind F__behind  T, B__behind, A__behind, FD__behind.kp⟩
  have CB__behind : CalB P w0 K mg base "_behind" ["name", "part"] 1 R__behind (RE__behind (He.ga K "InvalidText")) _ d__behind := ⟨C__behind.ok.toX.or (okE__behind F__behind X_InvalidText T), B__behind, A__behind, FD__behind.kp⟩
  have CB_parse_rule : CalB P w0 K mg base "parse_rule" ["text"] 8 R_parse_rule (RE_parse_rule K (He.ga K "InvalidText")) _ d_parse_rule := ⟨okB_parse_rule F_parse_rule X_InvalidText CB__need_text CB_parse_word CB__parse_number C_is_rule CB__parse_insert CB__behind T, B_parse_rule, A_parse_rule, FD_parse_rule.kp⟩
  have CB_parse_payloads : CalB P w0 K mg base "parse_payloads" ["text"] 3 R_parse_payloads (RE_parse_payloads K (He.ga K "InvalidText")) _ d_parse_payloads := ⟨okB_parse_payloads F_parse_payloads CB__need_text CB_parse_word, B_parse_payloads, A_parse_payloads, FD_parse_payloads.kp⟩
  have C__law_parsed : Cal P w0 K mg base "_law_parsed" ["way", "line"] 9 (R__law_parsed K (He.ga K "InvalidText")) _ d__law_parsed := ⟨ok__law_parsed F__law_parsed G_InvalidText G_InvalidRule G_InvalidBits G_InvalidPayloads G_FrameError CB_parse_word CB_parse_rule CB_parse_payloads TT TV T, B__law_parsed, A__law_parsed, FD__law_parsed.kp⟩
  have C__law_is_word_line : Cal P w0 K mg base "_law_is_word_line" ["line"] 1 R__law_is_word_line _ d__law_is_word_line := ⟨ok__law_is_word_line F__law_is_word_line , B__law_is_word_line, A__law_is_word_line, FD__law_is_word_line.kp⟩
  have C__law_word_line : Cal P w0 K mg base "_law_word_line" ["word"] 1 R__law_word_line _ d__law_word_line := ⟨ok__law_word_line F__law_word_line  T, B__law_word_line, A__law_word_line, FD__law_word_line.kp⟩
  have C__law_is_word : Cal P w0 K mg base "_law_is_word" ["thing", "least"] 1 (R__law_is_word K) _ d__law_is_word := ⟨ok__law_is_word F__law_is_word  T, B__law_is_word, A__law_is_word, FD__law_is_word.kp⟩
  have C__law_is_rule : Cal P w0 K mg base "_law_is_rule" ["thing"] 2 (R__law_is_rule K) _ d__law_is_rule := ⟨ok__law_is_rule F__law_is_rule C__law_is_word T, B__law_is_rule, A__law_is_rule, FD__law_is_rule.kp⟩
  have C__law_rule_line : Cal P w0 K mg base "_law_rule_line" ["rule_here"] 2 R__law_rule_line _ d__law_rule_line := ⟨ok__law_rule_line F__law_rule_line C__law_word_line T, B__law_rule_line, A__law_rule_line, FD__law_rule_line.kp⟩
  have C__law_list_line : Cal P w0 K mg base "_law_list_line" ["many"] 2 R__law_list_line _ d__law_list_line := ⟨ok__law_list_line F__law_list_line C__law_word_line, B__law_list_line, A__law_list_line, FD__law_list_line.kp⟩
  have C__law_bent_right : CalS P w0 K mg base "_law_bent_right" ["crate", "way", "line", "mark"] 10 (PrC Rf__law_bent_right Pre__law_bent_right) _ d__law_bent_right := ⟨ok__law_bent_right F__law_bent_right C__law_bent_line C__law_parsed C__law_haul C__law_is_word_line C__law_word_line C__law_is_rule C__law_rule_line C__law_list_line T, B__law_bent_right, A__law_bent_right, FD__law_bent_right.kp⟩
  have C_need_rule : Cal P w0 K mg base "need_rule" ["value"] 8 R_need_rule _ d_need_rule := ⟨ok_need_rule F_need_rule C_is_rule, B_need_rule, A_need_rule, FD_need_rule.kp⟩
  have C_Framing_init : CalI P w0 K mg base ["self", "rule"] 9 (PrI (He.ga K "Framing") RI_Framing_init) _ d_Framing_init := ⟨ok_Framing_init F_Framing_init OC_Framing NA_Framing C_need_rule, B_Framing_init⟩
  have C__law_fixed_right : Cal P w0 K mg base "_law_fixed_right" [] 11 R__law_fixed_right _ d__law_fixed_right := ⟨ok__law_fixed_right F__law_fixed_right C__law_parsed O_Framing C_Framing_init, B__law_fixed_right, A__law_fixed_right, FD__law_fixed_right.kp⟩
  exact ok_law F_law C__law_crate C__law_bits C__law_any_rule C__law_payloads C__law_haul C__law_bent_right C__law_word_line C__law_fixed_right C__law_rule_line C__law_list_line T
end Fr
open PySem PySem.W PySem.Calls PyProof.Rows in
theorem PySem.Challenge.cw_onlyflags_k51_texts_that_are_none_holds : PySem.Challenge.rw_onlyflags_k51_texts_that_are_none.Holds := by
  w_on; o_law
  refine HandSHeadRun.head_any (r := OpenLaw.row PySem.Challenge.rw_onlyflags_k51_texts_that_are_none) (q := view (OpenLaw.row PySem.Challenge.rw_onlyflags_k51_texts_that_are_none).prog [85]) (H := Fr.zhk) (ob := Fr.zob) (M := 40000) (loose := Fr.zlo) (d := HandSHeadRun.topDef (OpenLaw.row PySem.Challenge.rw_onlyflags_k51_texts_that_are_none).prog 85) (kwd := []) Fr.zob_eq
    (by kernel_rfl) (fun s => by kernel_rfl) Fr.zrun (by kernel_rfl) (by kernel_rfl) (by kernel_rfl) (by rfl) (by first | assumption | decide +kernel) (by decide +kernel) ⟨rfl, rfl, rfl, rfl, rfl, by decide +kernel⟩ ?hw ?hc
  case hw => w_witness2
  case hc =>
    refine L2.walk_ofE (l := PySem.Challenge.rw_onlyflags_k51_texts_that_are_none) (n := 63) (k := 16) (x := "script") (CX := L2.CX0) rfl (by decide) (by kernel_rfl) ⟨rfl, by decide, by decide⟩ ?F (fun _ _ _ _ z => z)
    intro w mg fa h Y G hmg0
    obtain ⟨K, KX, c⟩ := Y
    have hmg : mg ("law" : PySem.Str) = some (.ref fa) := by
      have e : (HandSHeadRun.topDef (OpenLaw.row PySem.Challenge.rw_onlyflags_k51_texts_that_are_none).prog 85).name = ("law" : PySem.Str) := by kernel_rfl
      rw [← e]
      exact hmg0
    obtain ⟨fd, hb, hF⟩ := Fr.all_mk (P := (PySem.Challenge.rw_onlyflags_k51_texts_that_are_none).prog) (w0 := w) KX G hmg c
    exact ⟨K, fd, Fr.spLaw K, KX, hb, fun H a ns hl _ hS => ⟨a, ns, rfl, hS, hl, fun _ => rfl⟩, hF⟩
