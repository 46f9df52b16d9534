import PyProof.Rows.All
import Wide.All
import OpenK.AllK
import Wide.FinOn
import HandS.ForMost
import HandS.Evl
import HandS.TupAny
import HandS.TupMul
import HandS.TupLe
import HandS.IsInst
import HandS.DictComp
import HandS.Flow
import HandS.Wide
import HandS.WideBits
import HandS.RevRange
import HandS.Conv
import HandS.Deep
import HandS.Walk
import HandS.Star
import HandS.SortRule
import PyProof.FactsAll.tuple_2
import PySem.Challenge.RW_onlyflags_k83_whole_words_parted
set_option Elab.async false
set_option linter.all false
set_option maxRecDepth 100000
set_option maxHeartbeats 4000000
namespace Fr
open PySem L2
open Evl (Ex)
/-! # data without addresses -/
inductive Dat where
  | non | bl (b : Bool) | int (i : Int) | str (x : Str) | tup (ds : List Dat) | lst (ds : List Dat) | dic (es : List (List L2.Key × Dat))
mutual
inductive Rep (H : Hp) : V → Dat → Prop where
  | non : Rep H .non .non
  | bl (b : Bool) : Rep H (.bl b) (.bl b)
  | int (i : Int) : Rep H (.int i) (.int i)
  | str (x : Str) : Rep H (.str x) (.str x)
  | tup {a : Addr} {xs : List V} {ds : List Dat} : H a = some (.tup xs) → Reps H xs ds → Rep H (.ref a) (.tup ds)
  | lst {a : Addr} {xs : List V} {ds : List Dat} : H a = some (.lst xs) → Reps H xs ds → Rep H (.ref a) (.lst ds)
  | dic {a : Addr} {kvs : List (List L2.Key × V)} {es : List (List L2.Key × Dat)} : H a = some (.dT kvs) → RepsK H kvs es → Rep H (.ref a) (.dic es)
inductive Reps (H : Hp) : List V → List Dat → Prop where
  | nil : Reps H [] []
  | cons {v : V} {d : Dat} {vs : List V} {ds : List Dat} : Rep H v d → Reps H vs ds → Reps H (v :: vs) (d :: ds)
inductive RepsK (H : Hp) : List (List L2.Key × V) → List (List L2.Key × Dat) → Prop where
  | nil : RepsK H [] []
  | cons {k : List L2.Key} {v : V} {d : Dat} {vs : List (List L2.Key × V)} {ds : List (List L2.Key × Dat)} : Rep H v d → RepsK H vs ds → RepsK H ((k, v) :: vs) ((k, d) :: ds)
end
section
variable {H H' : Hp}
mutual
theorem Rep.mono (e : Ex H H') : ∀ {v : V} {d : Dat}, Rep H v d → Rep H' v d
  | _, _, .non => .non
  | _, _, .bl b => .bl b
  | _, _, .int i => .int i
  | _, _, .str x => .str x
  | _, _, .tup h r => .tup (e _ _ h) (Reps.mono e r)
  | _, _, .lst h r => .lst (e _ _ h) (Reps.mono e r)
  | _, _, .dic h r => .dic (e _ _ h) (RepsK.mono e r)
theorem Reps.mono (e : Ex H H') : ∀ {v : List V} {d : List Dat}, Reps H v d → Reps H' v d
  | _, _, .nil => .nil
  | _, _, .cons h r => .cons (Rep.mono e h) (Reps.mono e r)
theorem RepsK.mono (e : Ex H H') : ∀ {v : List (List L2.Key × V)} {d : List (List L2.Key × Dat)}, RepsK H v d → RepsK H' v d
  | _, _, .nil => .nil
  | _, _, .cons h r => .cons (Rep.mono e h) (RepsK.mono e r)
end
theorem Reps.len : ∀ {v : List V} {d : List Dat}, Reps H v d → v.length = d.length
  | _, _, .nil => rfl
  | _, _, .cons _ r => by simp [Reps.len r]
theorem Reps.get : ∀ {vs : List V} {ds : List Dat} {i : Nat} {d : Dat}, Reps H vs ds → ds[i]? = some d → ∃ v, vs[i]? = some v ∧ Rep H v d
  | _, _, _, _, .nil, h => by simp at h
  | _, _, 0, _, .cons h _, q => by simp at q; subst q; exact ⟨_, rfl, h⟩
  | _, _, i + 1, _, .cons _ r, q => by
    obtain ⟨v, a, b⟩ := Reps.get (i := i) r (by simpa using q)
    exact ⟨v, by simpa using a, b⟩
theorem Reps.getV : ∀ {vs : List V} {ds : List Dat} {i : Nat} {v : V}, Reps H vs ds → vs[i]? = some v → ∃ d, ds[i]? = some d ∧ Rep H v d
  | _, _, _, _, .nil, h => by simp at h
  | _, _, 0, _, .cons h _, q => by simp at q; subst q; exact ⟨_, rfl, h⟩
  | _, _, i + 1, _, .cons _ r, q => by
    obtain ⟨v, a, b⟩ := Reps.getV (i := i) r (by simpa using q)
    exact ⟨v, by simpa using a, b⟩
theorem Reps.app : ∀ {vs us : List V} {ds es : List Dat}, Reps H vs ds → Reps H us es → Reps H (vs ++ us) (ds ++ es)
  | _, _, _, _, .nil, s => s
  | _, _, _, _, .cons h r, s => .cons h (Reps.app r s)
theorem Reps.drop : ∀ {vs : List V} {ds : List Dat} (n : Nat), Reps H vs ds → Reps H (vs.drop n) (ds.drop n)
  | _, _, 0, r => r
  | _, _, _ + 1, .nil => .nil
  | _, _, n + 1, .cons _ r => Reps.drop n r
theorem Reps.take : ∀ {vs : List V} {ds : List Dat} (n : Nat), Reps H vs ds → Reps H (vs.take n) (ds.take n)
  | _, _, 0, _ => .nil
  | _, _, _ + 1, .nil => .nil
  | _, _, n + 1, .cons h r => .cons h (Reps.take n r)
theorem Reps.one {v : V} {d : Dat} (h : Rep H v d) : Reps H [v] [d] := .cons h .nil
theorem Reps.ints : ∀ {vs : List V} {ns : List Int}, Reps H vs (ns.map Dat.int) → vs = ns.map V.int
  | _, [], h => by cases h; rfl
  | _, n :: ns, h => by
    cases h with
    | cons h r =>
      cases h
      rw [Reps.ints r]
      rfl
theorem Reps.ofInts : ∀ (ns : List Int), Reps H (ns.map V.int) (ns.map Dat.int)
  | [] => .nil
  | n :: ns => .cons (.int n) (Reps.ofInts ns)
end
/-- no tuple -/
def NT : HO → Prop
  | .tup _ => False
  | _ => True
/-! # a heap and the part of it that is seen -/
structure Gr (A H B H' : Hp) : Prop where
  up : Ex H H'
  view : Ex A B
  sub : Ex B H'
  hid : ∀ a o, H a = some o → NT o → A a = none → B a = none
theorem Gr.refl {A H : Hp} (s : Ex A H) : Gr A H A H := ⟨Ex.refl H, Ex.refl A, s, fun _ _ _ _ h => h⟩
theorem Gr.trans {A H B H1 C H2 : Hp} (a : Gr A H B H1) (b : Gr B H1 C H2) : Gr A H C H2 :=
  ⟨a.up.trans b.up, a.view.trans b.view, b.sub, fun x o h m n => b.hid x o (a.up x o h) m (a.hid x o h m n)⟩
/-- a new object, seen -/
theorem Gr.new {A H : Hp} (s : Ex A H) {p : Addr} {o : HO} (h : H p = none) : Gr A H (upd A p o) (upd H p o) := by
  have hA : A p = none := Evl.fresh_back s h
  refine ⟨Ex.new h, Ex.new hA, fun a u e => ?_, fun a u e _ n => ?_⟩
  · by_cases q : a = p
    · subst q
      rw [upd_same] at e ⊢
      exact e
    · rw [upd_ne q] at e ⊢
      exact s a u e
  · rw [upd_ne (ne_of_none e h)]
    exact n
/-- a new object, not seen -/
theorem Gr.newU {A H : Hp} (s : Ex A H) {p : Addr} {o : HO} (h : H p = none) : Gr A H A (upd H p o) :=
  ⟨Ex.new h, Ex.refl A, s.trans (Ex.new h), fun _ _ _ _ n => n⟩
/-- an object of this frame's is shown -/
theorem Gr.show {A0 H0 A H : Hp} (g : Gr A0 H0 A H) {p : Addr} {o : HO} (h : H p = some o) (h0 : H0 p = none) (hA : A p = none) : Gr A0 H0 (upd A p o) H := by
  refine ⟨g.up, g.view.trans (Ex.new hA), fun a u e => ?_, fun a u e m n => ?_⟩
  · by_cases q : a = p
    · subst q
      rw [upd_same] at e
      rw [h]
      exact e
    · rw [upd_ne q] at e
      exact g.sub a u e
  · rw [upd_ne (ne_of_none e h0)]
    exact g.hid a u e m n
/-- a tuple that stands is shown -/
theorem Gr.tup {A H : Hp} (s : Ex A H) {q : Addr} {xs : List V} (h : H q = some (.tup xs)) : Gr A H (upd A q (.tup xs)) H := by
  refine ⟨Ex.refl H, fun a u e => ?_, fun a u e => ?_, fun a u e m n => ?_⟩
  · by_cases z : a = q
    · subst z
      rw [upd_same]
      exact (h.symm.trans (s _ _ e)).symm ▸ rfl
    · rw [upd_ne z]
      exact e
  · by_cases z : a = q
    · subst z
      rw [upd_same] at e
      rw [h]
      exact e
    · rw [upd_ne z] at e
      exact s a u e
  · by_cases z : a = q
    · subst z
      rw [h] at e
      cases e
      exact m.elim
    · rw [upd_ne z]
      exact n
/-- an object of this frame's changes -/
theorem Gr.mut {A0 H0 A H : Hp} (g : Gr A0 H0 A H) {p : Addr} {o : HO} (h0 : H0 p = none) (hA : A p = none) : Gr A0 H0 A (upd H p o) :=
  ⟨g.up.mut h0, g.view, g.sub.mut hA, g.hid⟩
/-- an object of this frame's was locked meanwhile -/
theorem Gr.unlock {A0 H0 A H C H' : Hp} {l : Addr} {u v : HO} (g0 : Gr A0 H0 A H) (h0 : H0 l = none) (hA : A l = none) (nt : NT v) (gC : Gr A (upd H l v) C H') : Gr A0 H0 C (upd H' l u) ∧ C l = none := by
  have cl : C l = none := gC.hid l v upd_same nt hA
  refine ⟨⟨fun a o e => ?_, g0.view.trans gC.view, fun a o e => ?_, fun a o e m n => ?_⟩, cl⟩
  · have na : a ≠ l := ne_of_none e h0
    rw [upd_ne na]
    exact gC.up a o (by rw [upd_ne na]; exact g0.up a o e)
  · have na : a ≠ l := ne_of_none e cl
    rw [upd_ne na]
    exact gC.sub a o e
  · have na : a ≠ l := ne_of_none e h0
    exact gC.hid a o (by rw [upd_ne na]; exact g0.up a o e) m (g0.hid a o e m n)
/-! # slots -/
inductive Slot where
  | no | d (x : Dat) | o (xs : List Dat) | od (es : List (List L2.Key × Dat)) | b (c : Addr) (xs : List Dat) | scr (K : PySem.W.Frag) (ns : List Int)
abbrev Gam := List Slot
/-- an object of the frame's own -/
def Slot.mine : Slot → Bool
  | .o _ => true
  | .od _ => true
  | .b _ _ => true
  | _ => false
structure Ok (H0 A H : Hp) (σ : L2.St) (γ : Gam) : Prop where
  sub : Ex A H
  len : σ.length = γ.length
  get : ∀ (i : Nat) (x : Dat), γ[i]? = some (Slot.d x) → ∃ v : V, σ[i]? = some (some v) ∧ Rep A v x
  own : ∀ (i : Nat) (xs : List Dat), γ[i]? = some (Slot.o xs) → ∃ (l : Addr) (vs : List V), σ[i]? = some (some (V.ref l)) ∧ H0 l = none ∧ A l = none ∧ H l = some (.lst vs) ∧ Reps A vs xs
  ownD : ∀ (i : Nat) (es : List (List L2.Key × Dat)), γ[i]? = some (Slot.od es) → ∃ (l : Addr) (kvs : List (List L2.Key × V)), σ[i]? = some (some (V.ref l)) ∧ H0 l = none ∧ A l = none ∧ H l = some (.dT kvs) ∧ RepsK A kvs es
  bor : ∀ (i : Nat) (c : Addr) (xs : List Dat), γ[i]? = some (Slot.b c xs) → ∃ vs : List V, σ[i]? = some (some (V.ref c)) ∧ H0 c = none ∧ A c = none ∧ H c = some (.lst vs) ∧ Reps A vs xs
  scr : ∀ (i : Nat) (K : PySem.W.Frag) (ns : List Int), γ[i]? = some (Slot.scr K ns) → ∃ a : Addr, σ[i]? = some (some (V.ref a)) ∧ SqL K A a (ns.map V.int)
  sep : ∀ (i j : Nat) (l : Addr) (s t : Slot), γ[i]? = some s → γ[j]? = some t → s.mine = true → t.mine = true → σ[i]? = some (some (V.ref l)) → σ[j]? = some (some (V.ref l)) → i = j
theorem Ok.mono {H0 A H B H' : Hp} {σ : L2.St} {γ : Gam} (k : Ok H0 A H σ γ) (g : Gr A H B H') : Ok H0 B H' σ γ := by
  refine ⟨g.sub, k.len, fun i x h => ?_, fun i xs h => ?_, fun i es h => ?_, fun i c xs h => ?_, fun i K ns h => ?_, k.sep⟩
  · obtain ⟨v, a, b⟩ := k.get i x h
    exact ⟨v, a, b.mono g.view⟩
  · obtain ⟨l, vs, a, b, c, d, e⟩ := k.own i xs h
    exact ⟨l, vs, a, b, g.hid l _ d True.intro c, g.up l _ d, e.mono g.view⟩
  · obtain ⟨l, vs, a, b, c, d, e⟩ := k.ownD i es h
    exact ⟨l, vs, a, b, g.hid l _ d True.intro c, g.up l _ d, e.mono g.view⟩
  · obtain ⟨vs, a, b, c', d, e⟩ := k.bor i c xs h
    exact ⟨vs, a, b, g.hid c _ d True.intro c', g.up c _ d, e.mono g.view⟩
  · obtain ⟨a, h1, h2⟩ := k.scr i K ns h
    exact ⟨a, h1, Evl.ex_l g.view h2⟩
/-- what a mine slot's address is like -/
theorem Ok.addr {H0 A H : Hp} {σ : L2.St} {γ : Gam} (k : Ok H0 A H σ γ) {i : Nat} {s : Slot} (h : γ[i]? = some s) (m : s.mine = true) : ∃ (l : Addr) (o : HO), σ[i]? = some (some (V.ref l)) ∧ H0 l = none ∧ A l = none ∧ H l = some o := by
  cases s with
  | no => cases m
  | d x => cases m
  | o xs =>
    obtain ⟨l, vs, a, b, c, d, _⟩ := k.own i xs h
    exact ⟨l, _, a, b, c, d⟩
  | od es =>
    obtain ⟨l, vs, a, b, c, d, _⟩ := k.ownD i es h
    exact ⟨l, _, a, b, c, d⟩
  | b c xs =>
    obtain ⟨vs, a, b, c', d, _⟩ := k.bor i c xs h
    exact ⟨c, _, a, b, c', d⟩
  | scr K ns => cases m
theorem set_get {γ : Gam} {i j : Nat} {s t : Slot} (h : (γ.set i s)[j]? = some t) : (i = j ∧ t = s ∧ i < γ.length) ∨ (i ≠ j ∧ γ[j]? = some t) := by
  by_cases q : i = j
  · subst q
    have hi : i < γ.length := by
      have := (List.getElem?_eq_some_iff.mp h).1
      rwa [List.length_set] at this
    rw [List.getElem?_set_self hi] at h
    exact .inl ⟨rfl, (Option.some.inj h).symm, hi⟩
  · rw [List.getElem?_set_ne q] at h
    exact .inr ⟨q, h⟩
/-- a slot is stored with what is none of the frame's own -/
theorem Ok.setAny {H0 A H : Hp} {σ : L2.St} {γ : Gam} (k : Ok H0 A H σ γ) (i : Nat) (u : Option V) (s : Slot) (m : s.mine = false) (ns : ∀ K l, s ≠ .scr K l) (hs : ∀ x, s = .d x → ∃ v, u = some v ∧ Rep A v x) : Ok H0 A H (σ.set i u) (γ.set i s) := by
  refine ⟨k.sub, by rw [List.length_set, List.length_set, k.len], fun j y h => ?_, fun j ys h => ?_, fun j ys h => ?_, fun j c ys h => ?_, fun j K l h => ?_, fun j n l a b h1 h2 h3 h4 h5 h6 => ?_⟩
  · rcases set_get h with ⟨rfl, e, hi⟩ | ⟨q, h⟩
    · obtain ⟨v, rfl, r⟩ := hs y e.symm
      exact ⟨v, by rw [List.getElem?_set_self (by rw [k.len]; exact hi)], r⟩
    · obtain ⟨w, a, b⟩ := k.get j y h
      exact ⟨w, by rw [List.getElem?_set_ne q]; exact a, b⟩
  · rcases set_get h with ⟨rfl, e, hi⟩ | ⟨q, h⟩
    · rw [← e] at m
      cases m
    · obtain ⟨l, vs, a, b⟩ := k.own j ys h
      exact ⟨l, vs, by rw [List.getElem?_set_ne q]; exact a, b⟩
  · rcases set_get h with ⟨rfl, e, hi⟩ | ⟨q, h⟩
    · rw [← e] at m
      cases m
    · obtain ⟨l, vs, a, b⟩ := k.ownD j ys h
      exact ⟨l, vs, by rw [List.getElem?_set_ne q]; exact a, b⟩
  · rcases set_get h with ⟨rfl, e, hi⟩ | ⟨q, h⟩
    · rw [← e] at m
      cases m
    · obtain ⟨vs, a, b⟩ := k.bor j c ys h
      exact ⟨vs, by rw [List.getElem?_set_ne q]; exact a, b⟩
  · rcases set_get h with ⟨rfl, e, hi⟩ | ⟨q, h⟩
    · exact absurd e.symm (ns K l)
    · obtain ⟨a, h1, h2⟩ := k.scr j K l h
      exact ⟨a, by rw [List.getElem?_set_ne q]; exact h1, h2⟩
  · rcases set_get h1 with ⟨rfl, e, hi⟩ | ⟨q1, h1⟩
    · rw [e, m] at h3
      cases h3
    · rcases set_get h2 with ⟨rfl, e, hi⟩ | ⟨q2, h2⟩
      · rw [e, m] at h4
        cases h4
      · rw [List.getElem?_set_ne q1] at h5
        rw [List.getElem?_set_ne q2] at h6
        exact k.sep j n l a b h1 h2 h3 h4 h5 h6
/-- a slot is stored with data -/
theorem Ok.setD {H0 A H : Hp} {σ : L2.St} {γ : Gam} (k : Ok H0 A H σ γ) {v : V} {x : Dat} (r : Rep A v x) (i : Nat) : Ok H0 A H (σ.set i (some v)) (γ.set i (Slot.d x)) :=
  k.setAny i _ _ rfl (fun _ _ z => nomatch z) fun y e => ⟨v, rfl, by cases e; exact r⟩
/-- a slot is forgotten -/
theorem Ok.forget {H0 A H : Hp} {σ : L2.St} {γ : Gam} (k : Ok H0 A H σ γ) (i : Nat) (u : Option V) : Ok H0 A H (σ.set i u) (γ.set i Slot.no) :=
  k.setAny i _ _ rfl (fun _ _ z => nomatch z) fun y e => nomatch e
/-- the same slots, less known -/
def Less (γ δ : Gam) : Prop := γ.length = δ.length ∧ ∀ (i : Nat) (s : Slot), δ[i]? = some s → s = Slot.no ∨ γ[i]? = some s
theorem Ok.less {H0 A H : Hp} {σ : L2.St} {γ δ : Gam} (k : Ok H0 A H σ γ) (h : Less γ δ) : Ok H0 A H σ δ := by
  have back : ∀ (i : Nat) (s : Slot), δ[i]? = some s → s ≠ .no → γ[i]? = some s := fun i s q n => (h.2 i s q).resolve_left n
  refine ⟨k.sub, by rw [k.len, h.1], fun i x q => k.get i x (back i _ q (by intro z; cases z)), fun i x q => k.own i x (back i _ q (by intro z; cases z)), fun i x q => k.ownD i x (back i _ q (by intro z; cases z)), fun i c x q => k.bor i c x (back i _ q (by intro z; cases z)), fun i K l q => k.scr i K l (back i _ q (by intro z; cases z)),
    fun i j l s t h1 h2 h3 h4 h5 h6 => ?_⟩
  exact k.sep i j l s t (back i s h1 fun z => by subst z; cases h3) (back j t h2 fun z => by subst z; cases h4) h3 h4 h5 h6
/-- a slot is stored with a new object of the frame's own -/
theorem Ok.setM {H0 A H : Hp} {σ : L2.St} {γ : Gam} (k : Ok H0 A H σ γ) {l : Addr} {s : Slot} (i : Nat) (new : ∀ (j : Nat) (t : Slot), γ[j]? = some t → t.mine = true → σ[j]? ≠ some (some (V.ref l)))
    (hD : ∀ x, s ≠ .d x) (hB : ∀ c xs, s ≠ .b c xs) (hS : ∀ K l, s ≠ .scr K l) (hO : ∀ xs, s = .o xs → ∃ vs, H0 l = none ∧ A l = none ∧ H l = some (.lst vs) ∧ Reps A vs xs) (hE : ∀ es, s = .od es → ∃ kvs, H0 l = none ∧ A l = none ∧ H l = some (.dT kvs) ∧ RepsK A kvs es) : Ok H0 A H (σ.set i (some (V.ref l))) (γ.set i s) := by
  refine ⟨k.sub, by rw [List.length_set, List.length_set, k.len], fun j y h => ?_, fun j ys h => ?_, fun j ys h => ?_, fun j c ys h => ?_, fun j K m h => ?_, fun j n a t u h1 h2 h3 h4 h5 h6 => ?_⟩
  · rcases set_get h with ⟨rfl, e, hi⟩ | ⟨q, h⟩
    · exact absurd e.symm (hD y)
    · obtain ⟨w, a, b⟩ := k.get j y h
      exact ⟨w, by rw [List.getElem?_set_ne q]; exact a, b⟩
  · rcases set_get h with ⟨rfl, e, hi⟩ | ⟨q, h⟩
    · obtain ⟨vs, a, b, c, d⟩ := hO ys e.symm
      exact ⟨l, vs, by rw [List.getElem?_set_self (by rw [k.len]; exact hi)], a, b, c, d⟩
    · obtain ⟨l, vs, a, b⟩ := k.own j ys h
      exact ⟨l, vs, by rw [List.getElem?_set_ne q]; exact a, b⟩
  · rcases set_get h with ⟨rfl, e, hi⟩ | ⟨q, h⟩
    · obtain ⟨vs, a, b, c, d⟩ := hE ys e.symm
      exact ⟨l, vs, by rw [List.getElem?_set_self (by rw [k.len]; exact hi)], a, b, c, d⟩
    · obtain ⟨l, vs, a, b⟩ := k.ownD j ys h
      exact ⟨l, vs, by rw [List.getElem?_set_ne q]; exact a, b⟩
  · rcases set_get h with ⟨rfl, e, hi⟩ | ⟨q, h⟩
    · exact absurd e.symm (hB c ys)
    · obtain ⟨vs, a, b⟩ := k.bor j c ys h
      exact ⟨vs, by rw [List.getElem?_set_ne q]; exact a, b⟩
  · rcases set_get h with ⟨rfl, e, hi⟩ | ⟨q, h⟩
    · exact absurd e.symm (hS K m)
    · obtain ⟨a, h1, h2⟩ := k.scr j K m h
      exact ⟨a, by rw [List.getElem?_set_ne q]; exact h1, h2⟩
  · rcases set_get h1 with ⟨q1, e1, hi⟩ | ⟨q1, g1⟩
    · rcases set_get h2 with ⟨q2, e2, _⟩ | ⟨q2, g2⟩
      · rw [← q1, ← q2]
      · subst q1
        rw [List.getElem?_set_self (by rw [k.len]; exact hi)] at h5
        cases h5
        rw [List.getElem?_set_ne q2] at h6
        exact absurd h6 (new n u g2 h4)
    · rcases set_get h2 with ⟨q2, e2, hi⟩ | ⟨q2, g2⟩
      · subst q2
        rw [List.getElem?_set_self (by rw [k.len]; exact hi)] at h6
        cases h6
        rw [List.getElem?_set_ne q1] at h5
        exact absurd h5 (new j t g1 h3)
      · rw [List.getElem?_set_ne q1] at h5
        rw [List.getElem?_set_ne q2] at h6
        exact k.sep j n a t u g1 g2 h3 h4 h5 h6
/-- an own object changes -/
theorem Ok.turn {H0 A H : Hp} {σ : L2.St} {γ : Gam} {i : Nat} {l : Addr} {ho : HO} {s s' : Slot} (k : Ok H0 A H σ γ) (h : γ[i]? = some s) (m : s.mine = true) (e : σ[i]? = some (some (V.ref l)))
    (hD : ∀ x, s' ≠ .d x) (hO : ∀ xs, s' = .o xs → ∃ vs, ho = .lst vs ∧ Reps A vs xs) (hE : ∀ es, s' = .od es → ∃ kvs, ho = .dT kvs ∧ RepsK A kvs es) (hS : ∀ K m, s' ≠ .scr K m) (hB : ∀ c xs, s' = .b c xs → c = l ∧ ∃ vs, ho = .lst vs ∧ Reps A vs xs) : Ok H0 A (upd H l ho) σ (γ.set i s') := by
  obtain ⟨l', o, e', h0, hA, hH⟩ := k.addr h m
  rw [e] at e'
  cases e'
  have apart : ∀ (j : Nat) (t : Slot) (a : Addr), i ≠ j → γ[j]? = some t → t.mine = true → σ[j]? = some (some (V.ref a)) → a ≠ l := fun j t a q g n e1 z => by
    subst z
    exact q (k.sep i j a s t h g m n e e1)
  refine ⟨k.sub.mut hA, by rw [List.length_set, k.len], fun j y hj => ?_, fun j zs hj => ?_, fun j zs hj => ?_, fun j c zs hj => ?_, fun j K m hj => ?_, fun j n a t u h1 h2 h3 h4 h5 h6 => ?_⟩
  · rcases set_get hj with ⟨rfl, z, _⟩ | ⟨q, hj⟩
    · exact absurd z.symm (hD y)
    · exact k.get j y hj
  · rcases set_get hj with ⟨rfl, z, _⟩ | ⟨q, hj⟩
    · obtain ⟨vs, rfl, r⟩ := hO zs z.symm
      exact ⟨l, vs, e, h0, hA, upd_same, r⟩
    · obtain ⟨a, vs', e1, e2, e3, e4, e5⟩ := k.own j zs hj
      exact ⟨a, vs', e1, e2, e3, by rw [upd_ne (apart j _ a q hj rfl e1)]; exact e4, e5⟩
  · rcases set_get hj with ⟨rfl, z, _⟩ | ⟨q, hj⟩
    · obtain ⟨vs, rfl, r⟩ := hE zs z.symm
      exact ⟨l, vs, e, h0, hA, upd_same, r⟩
    · obtain ⟨a, vs', e1, e2, e3, e4, e5⟩ := k.ownD j zs hj
      exact ⟨a, vs', e1, e2, e3, by rw [upd_ne (apart j _ a q hj rfl e1)]; exact e4, e5⟩
  · rcases set_get hj with ⟨rfl, z, _⟩ | ⟨q, hj⟩
    · obtain ⟨rfl, vs, rfl, r⟩ := hB c zs z.symm
      exact ⟨vs, e, h0, hA, upd_same, r⟩
    · obtain ⟨vs', e1, e2, e3, e4, e5⟩ := k.bor j c zs hj
      exact ⟨vs', e1, e2, e3, by rw [upd_ne (apart j _ c q hj rfl e1)]; exact e4, e5⟩
  · rcases set_get hj with ⟨rfl, z, _⟩ | ⟨q, hj⟩
    · exact absurd z.symm (hS K m)
    · exact k.scr j K m hj
  · have back : ∀ (n : Nat) (t : Slot), (γ.set i s')[n]? = some t → t.mine = true → ∃ t', γ[n]? = some t' ∧ t'.mine = true := fun n t hn mt => by
      rcases set_get hn with ⟨rfl, z, _⟩ | ⟨q, hn⟩
      · exact ⟨s, h, m⟩
      · exact ⟨t, hn, mt⟩
    obtain ⟨z1, q1, m1⟩ := back j t h1 h3
    obtain ⟨z2, q2, m2⟩ := back n u h2 h4
    exact k.sep j n a z1 z2 q1 q2 m1 m2 h5 h6
/-- an own object is shown: what stood becomes data -/
theorem Ok.bare {A0 H0 A H : Hp} {σ : L2.St} {γ : Gam} {i : Nat} {l : Addr} {ho : HO} {s : Slot} {x : Dat} (k : Ok H0 A H σ γ) (g : Gr A0 H0 A H) (h : γ[i]? = some s) (m : s.mine = true) (e : σ[i]? = some (some (V.ref l))) (hH : H l = some ho)
    (r : Rep (upd A l ho) (.ref l) x) : Gr A0 H0 (upd A l ho) H ∧ Ex A (upd A l ho) ∧ Ok H0 (upd A l ho) H σ (γ.set i (.d x)) := by
  obtain ⟨l', o, e', h0, hA, hH'⟩ := k.addr h m
  rw [e] at e'
  cases e'
  have v : Ex A (upd A l ho) := Ex.new hA
  have gs := g.show hH h0 hA
  have apart : ∀ (j : Nat) (t : Slot) (a : Addr), i ≠ j → γ[j]? = some t → t.mine = true → σ[j]? = some (some (V.ref a)) → a ≠ l := fun j t a q g n e1 z => by
    subst z
    exact q (k.sep i j a s t h g m n e e1)
  refine ⟨gs, v, gs.sub, by rw [List.length_set, k.len], fun j y hj => ?_, fun j zs hj => ?_, fun j zs hj => ?_, fun j c zs hj => ?_, fun j K m hj => ?_, fun j n a t u h1 h2 h3 h4 h5 h6 => ?_⟩
  · rcases set_get hj with ⟨rfl, z, _⟩ | ⟨q, hj⟩
    · cases z
      exact ⟨_, e, r⟩
    · obtain ⟨u, a, b⟩ := k.get j y hj
      exact ⟨u, a, b.mono v⟩
  · rcases set_get hj with ⟨rfl, z, _⟩ | ⟨q, hj⟩
    · cases z
    · obtain ⟨a, vs', e1, e2, e3, e4, e5⟩ := k.own j zs hj
      exact ⟨a, vs', e1, e2, by rw [upd_ne (apart j _ a q hj rfl e1)]; exact e3, e4, e5.mono v⟩
  · rcases set_get hj with ⟨rfl, z, _⟩ | ⟨q, hj⟩
    · cases z
    · obtain ⟨a, vs', e1, e2, e3, e4, e5⟩ := k.ownD j zs hj
      exact ⟨a, vs', e1, e2, by rw [upd_ne (apart j _ a q hj rfl e1)]; exact e3, e4, e5.mono v⟩
  · rcases set_get hj with ⟨rfl, z, _⟩ | ⟨q, hj⟩
    · cases z
    · obtain ⟨vs', e1, e2, e3, e4, e5⟩ := k.bor j c zs hj
      exact ⟨vs', e1, e2, by rw [upd_ne (apart j _ c q hj rfl e1)]; exact e3, e4, e5.mono v⟩
  · rcases set_get hj with ⟨rfl, z, _⟩ | ⟨q, hj⟩
    · cases z
    · obtain ⟨a, h1, h2⟩ := k.scr j K m hj
      exact ⟨a, h1, Evl.ex_l v h2⟩
  · have back : ∀ (n : Nat) (t : Slot), (γ.set i (Slot.d x))[n]? = some t → t.mine = true → γ[n]? = some t := fun n t hn mt => by
      rcases set_get hn with ⟨rfl, z, _⟩ | ⟨q, hn⟩
      · subst z
        cases mt
      · exact hn
    exact k.sep j n a t u (back j t h1 h3) (back n u h2 h4) h3 h4 h5 h6
theorem Ok.unlock {H0 A H C H' : Hp} {σ : L2.St} {γ : Gam} {i : Nat} {l : Addr} {es : List (List L2.Key × Dat)} {kvs : List (List L2.Key × V)} {v : HO} (k : Ok H0 A H σ γ) (h : γ[i]? = some (Slot.od es)) (e : σ[i]? = some (some (V.ref l))) (hH : H l = some (.dT kvs)) (hA : A l = none) (rk : RepsK A kvs es) (nt : NT v)
    (gC : Gr A (upd H l v) C H') : Ok H0 C (upd H' l (.dT kvs)) σ γ := by
  have cl : C l = none := gC.hid l v upd_same nt hA
  refine ⟨fun a o q => ?_, k.len, fun j x q => ?_, fun j xs q => ?_, fun j xs q => ?_, fun j c xs q => ?_, fun j K m q => ?_, k.sep⟩
  · rw [upd_ne (ne_of_none q cl)]
    exact gC.sub a o q
  · obtain ⟨u, a, b⟩ := k.get j x q
    exact ⟨u, a, b.mono gC.view⟩
  · obtain ⟨a, vs, x1, x2, x3, x4, x5⟩ := k.own j xs q
    have na : a ≠ l := fun z => by
      subst z
      rw [x4] at hH
      cases hH
    have y : upd H l v a = some (.lst vs) := by rw [upd_ne na]; exact x4
    exact ⟨a, vs, x1, x2, gC.hid a _ y True.intro x3, by rw [upd_ne na]; exact gC.up a _ y, x5.mono gC.view⟩
  · obtain ⟨a, vs, x1, x2, x3, x4, x5⟩ := k.ownD j xs q
    by_cases na : a = l
    · subst na
      have ej := k.sep i j a _ _ h q rfl rfl e x1
      subst ej
      rw [h] at q
      cases q
      rw [hH] at x4
      cases x4
      exact ⟨a, kvs, x1, x2, cl, upd_same, rk.mono gC.view⟩
    · have y : upd H l v a = some (.dT vs) := by rw [upd_ne na]; exact x4
      exact ⟨a, vs, x1, x2, gC.hid a _ y True.intro x3, by rw [upd_ne na]; exact gC.up a _ y, x5.mono gC.view⟩
  · obtain ⟨vs, x1, x2, x3, x4, x5⟩ := k.bor j c xs q
    have na : c ≠ l := fun z => by
      subst z
      rw [x4] at hH
      cases hH
    have y : upd H l v c = some (.lst vs) := by rw [upd_ne na]; exact x4
    exact ⟨vs, x1, x2, gC.hid c _ y True.intro x3, by rw [upd_ne na]; exact gC.up c _ y, x5.mono gC.view⟩
  · obtain ⟨a, h1, h2⟩ := k.scr j K m q
    exact ⟨a, h1, Evl.ex_l gC.view h2⟩
end Fr

set_option Elab.async false
set_option linter.all false
set_option maxRecDepth 100000
set_option maxHeartbeats 4000000
namespace Fr
open PySem L2
open Evl (Ex)
/-! # what an expression gives -/
def EvD (te : TE) (γ : Gam) (x : Dat) : Prop := ∀ H0 A H σ, Ok H0 A H σ γ → ∀ Q : VK, (∀ v B H', Gr A H B H' → Rep B v x → Q v H') → te σ H Q
/-- a new list of its own -/
def EvN (te : TE) (γ : Gam) (xs : List Dat) : Prop := ∀ H0 A H σ, Ok H0 A H σ γ → ∀ Q : VK, (∀ l vs B H', Gr A H B H' → H l = none → B l = none → H' l = some (.lst vs) → Reps B vs xs → Q (.ref l) H') → te σ H Q
/-- a list that may be read -/
def EvR (te : TE) (γ : Gam) (xs : List Dat) : Prop := ∀ H0 A H σ, Ok H0 A H σ γ → ∀ Q : VK, (∀ l vs B H', Gr A H B H' → H' l = some (.lst vs) → Reps B vs xs → Q (.ref l) H') → te σ H Q
def EvT (t : TT) (γ : Gam) (b : Bool) : Prop := ∀ H0 A H σ, Ok H0 A H σ γ → ∀ Q : Bool → Hp → Prop, (∀ B H', Gr A H B H' → Q b H') → t σ H Q
def EvA (ta : TA) (γ : Gam) (xs : List Dat) : Prop := ∀ H0 A H σ, Ok H0 A H σ γ → ∀ Q : List V → Hp → Prop, (∀ vs B H', Gr A H B H' → Reps B vs xs → Q vs H') → ta σ H Q
def EvO (to : TO) (γ : Gam) (o : Option Int) : Prop := ∀ H0 A H σ, Ok H0 A H σ γ → ∀ Q : Option Int → Hp → Prop, (∀ B H', Gr A H B H' → Q o H') → to σ H Q
def R2D (r : R2) (x y z : Dat) : Prop := ∀ A H vx vy, Ex A H → Rep A vx x → Rep A vy y → ∀ Q : VK, (∀ v B H', Gr A H B H' → Rep B v z → Q v H') → r vx vy H Q
def RCD (r : List V → Hp → VK → Prop) (xs : List Dat) (z : Dat) : Prop := ∀ A H vs, Ex A H → Reps A vs xs → ∀ Q : VK, (∀ v B H', Gr A H B H' → Rep B v z → Q v H') → r vs H Q
/-- what a def promises: from which data it gives which -/
def Pr (R : List Dat → Dat → Prop) : Sp := fun vs H Q _ => ∃ A xs x, Ex A H ∧ Reps A vs xs ∧ R xs x ∧ ∀ v B H', Gr A H B H' → Rep B v x → Q v H'
section
variable {K : PySem.W.Frag} {γ : Gam} {ta tb te : TE} {t u : TT} {x y z : Dat} {r : R2} {xs ys : List Dat}
theorem ev_var {i : Nat} (h : γ[i]? = some (Slot.d x)) : EvD (tVar i) γ x := fun H0 A H σ k Q q => by
  obtain ⟨v, a, b⟩ := k.get i x h
  exact ⟨v, a, q v A H (Gr.refl k.sub) b⟩
theorem ev_c {v : V} (h : ∀ H, Rep H v x) : EvD (tC v) γ x := fun H0 A H σ k Q q => q v A H (Gr.refl k.sub) (h A)
theorem ev_int {i : Int} : EvD (tC (.int i)) γ (.int i) := ev_c fun _ => .int i
theorem ev_bl {b : Bool} : EvD (tC (.bl b)) γ (.bl b) := ev_c fun _ => .bl b
theorem ev_non : EvD (tC .non) γ .non := ev_c fun _ => .non
theorem ev_str {s : Str} : EvD (tC (.str s)) γ (.str s) := ev_c fun _ => .str s
theorem ev_op (ha : EvD ta γ x) (hb : EvD tb γ y) (hr : R2D r x y z) : EvD (tOp r ta tb) γ z := fun H0 A H σ k Q q =>
  ha H0 A H σ k _ fun v B H1 g1 r1 => hb H0 B H1 σ (k.mono g1) _ fun w C H2 g2 r2 => hr C H2 v w g2.sub (r1.mono g2.view) r2 Q fun p D H3 g3 r3 => q p D H3 ((g1.trans g2).trans g3) r3
theorem ev_is (h : EvD te γ x) (e : x = y) : EvD te γ y := e ▸ h
theorem et_is {a b : Bool} (h : EvT t γ a) (e : a = b) : EvT t γ b := e ▸ h
theorem ev_if {b : Bool} (h : EvT t γ b) (h1 : b = true → EvD ta γ x) (h2 : b = false → EvD tb γ y) : EvD (tIf t ta tb) γ (if b = true then x else y) := fun H0 A H σ k Q q =>
  h H0 A H σ k _ fun B H1 g1 => by
    cases b with
    | true => exact h1 rfl H0 B H1 σ (k.mono g1) Q fun v C H2 g2 r2 => q v C H2 (g1.trans g2) r2
    | false => exact h2 rfl H0 B H1 σ (k.mono g1) Q fun v C H2 g2 r2 => q v C H2 (g1.trans g2) r2
theorem et_B {b : Bool} (h : EvD te γ (.bl b)) : EvT (tB te) γ b := fun H0 A H σ k Q q => h H0 A H σ k _ fun v B H1 g1 r1 => by
  cases r1
  exact ⟨b, rfl, q B H1 g1⟩
theorem et_test {b : Bool} (h : EvD te γ (.bl b)) : EvT (tTest te) γ b := et_B h
theorem et_and {a b : Bool} (h1 : EvT t γ a) (h2 : a = true → EvT u γ b) : EvT (tAnd t u) γ (a && b) := fun H0 A H σ k Q q => h1 H0 A H σ k _ fun B H1 g1 => by
  cases a with
  | true => exact h2 rfl H0 B H1 σ (k.mono g1) Q fun C H2 g2 => q C H2 (g1.trans g2)
  | false => exact q B H1 g1
theorem et_or {a b : Bool} (h1 : EvT t γ a) (h2 : a = false → EvT u γ b) : EvT (tOr t u) γ (a || b) := fun H0 A H σ k Q q => h1 H0 A H σ k _ fun B H1 g1 => by
  cases a with
  | true => exact q B H1 g1
  | false => exact h2 rfl H0 B H1 σ (k.mono g1) Q fun C H2 g2 => q C H2 (g1.trans g2)
theorem et_not {a : Bool} (h : EvT t γ a) : EvT (tNot t) γ (!a) := fun H0 A H σ k Q q => h H0 A H σ k _ fun B H1 g1 => q B H1 g1
theorem ev_and {a b : Bool} (h1 : EvD ta γ (.bl a)) (h2 : a = true → EvD tb γ (.bl b)) : EvD (tAndV ta tb) γ (.bl (a && b)) := fun H0 A H σ k Q q => h1 H0 A H σ k _ fun v B H1 g1 r1 => by
  cases r1
  refine ⟨a, rfl, ?_⟩
  cases a with
  | true => exact h2 rfl H0 B H1 σ (k.mono g1) Q fun v C H2 g2 r2 => q v C H2 (g1.trans g2) r2
  | false => exact q _ B H1 g1 (.bl false)
theorem ev_or {a b : Bool} (h1 : EvD ta γ (.bl a)) (h2 : a = false → EvD tb γ (.bl b)) : EvD (tOrV ta tb) γ (.bl (a || b)) := fun H0 A H σ k Q q => h1 H0 A H σ k _ fun v B H1 g1 r1 => by
  cases r1
  refine ⟨a, rfl, ?_⟩
  cases a with
  | true => exact q _ B H1 g1 (.bl true)
  | false => exact h2 rfl H0 B H1 σ (k.mono g1) Q fun v C H2 g2 r2 => q v C H2 (g1.trans g2) r2
theorem ev_not {a : Bool} (h1 : EvD ta γ (.bl a)) : EvD (tNotV ta) γ (.bl (!a)) := fun H0 A H σ k Q q => h1 H0 A H σ k _ fun v B H1 g1 r1 => by
  cases r1
  exact ⟨a, rfl, q _ B H1 g1 (.bl _)⟩
theorem ea_nil : EvA tNil γ [] := fun H0 A H σ k Q q => q [] A H (Gr.refl k.sub) .nil
theorem ea_cons {tr : TA} (h : EvD ta γ x) (hr : EvA tr γ xs) : EvA (tCons ta tr) γ (x :: xs) := fun H0 A H σ k Q q =>
  h H0 A H σ k _ fun v B H1 g1 r1 => hr H0 B H1 σ (k.mono g1) _ fun vs C H2 g2 r2 => q _ C H2 (g1.trans g2) (.cons (r1.mono g2.view) r2)
theorem ev_tup {tr : TA} (h : EvA tr γ xs) (hl : xs.length ≤ sizeLine) : EvD (tTup tr) γ (.tup xs) := fun H0 A H σ k Q q =>
  h H0 A H σ k _ fun vs B H1 g1 r1 => ⟨by rw [r1.len]; exact hl, fun p hp => by
    have g2 := Gr.new (o := .tup vs) g1.sub hp
    exact q _ _ _ (g1.trans g2) (.tup upd_same (r1.mono g2.view))⟩
theorem en_lst {tr : TA} (h : EvA tr γ xs) (hl : xs.length ≤ sizeLine) : EvN (tLst tr) γ xs := fun H0 A H σ k Q q =>
  h H0 A H σ k _ fun vs B H1 g1 r1 => ⟨by rw [r1.len]; exact hl, fun p hp =>
    q p vs B _ (g1.trans (Gr.newU g1.sub hp)) (Evl.fresh_back g1.up hp) (Evl.fresh_back g1.sub hp) upd_same r1⟩
/-- a new list is data -/
theorem ev_ofN (h : EvN te γ xs) : EvD te γ (.lst xs) := fun H0 A H σ k Q q => h H0 A H σ k _ fun l vs B H1 g hl hB h1 r => by
  have g2 := g.show h1 hl hB
  exact q _ _ H1 g2 (.lst upd_same (r.mono (Ex.new hB)))
theorem er_ofN (h : EvN te γ xs) : EvR te γ xs := fun H0 A H σ k Q q => h H0 A H σ k _ fun l vs B H1 g _ _ h1 r => q l vs B H1 g h1 r
theorem er_ofD (h : EvD te γ (.lst xs)) : EvR te γ xs := fun H0 A H σ k Q q => h H0 A H σ k _ fun v B H1 g r => by
  cases r with
  | lst ha hr => exact q _ _ B H1 g (g.sub _ _ ha) hr
theorem er_var {i : Nat} (h : γ[i]? = some (Slot.o xs)) : EvR (tVar i) γ xs := fun H0 A H σ k Q q => by
  obtain ⟨l, vs, a, _, _, b, c⟩ := k.own i xs h
  exact ⟨_, a, q l vs A H (Gr.refl k.sub) b c⟩
theorem eo_none : EvO tNoPart γ none := fun H0 A H σ k Q q => q A H (Gr.refl k.sub)
theorem eo_some {i : Int} (h : EvD te γ (.int i)) : EvO (tPart te) γ (some i) := fun H0 A H σ k Q q => h H0 A H σ k _ fun v B H1 g1 r1 => by
  cases r1
  exact ⟨i, rfl, q B H1 g1⟩
theorem ev_cb {rc : List V → Hp → VK → Prop} {tr : TA} (h : EvA tr γ xs) (hr : RCD rc xs z) : EvD (tCB rc tr) γ z := fun H0 A H σ k Q q =>
  h H0 A H σ k _ fun vs B H1 g1 r1 => hr B H1 vs g1.sub r1 Q fun v C H2 g2 r2 => q v C H2 (g1.trans g2) r2
/-- a call of a built-in upon one list that is read -/
theorem ev_cbR {rc : List V → Hp → VK → Prop} (h : EvR te γ xs) (hr : ∀ A H l vs, Ex A H → H l = some (.lst vs) → Reps A vs xs → ∀ Q : VK, (∀ v B H', Gr A H B H' → Rep B v z → Q v H') → rc [.ref l] H Q) : EvD (tCB rc (tCons te tNil)) γ z := fun H0 A H σ k Q q =>
  h H0 A H σ k _ fun l vs B H1 g1 h1 r1 => hr B H1 l vs g1.sub h1 r1 Q fun v C H2 g2 r2 => q v C H2 (g1.trans g2) r2
theorem ev_call {R : List Dat → Dat → Prop} {E : XK} {tr : TA} (h : EvA tr γ xs) (hR : R xs z) : EvD (tCall (Pr R) [] E tr) γ z := fun H0 A H σ k Q q =>
  h H0 A H σ k _ fun vs B H1 g1 r1 => ⟨B, xs, z, g1.sub, by rw [List.append_nil]; exact r1, hR, fun v C H2 g2 r2 => q v C H2 (g1.trans g2) r2⟩
/-! ### operators on data -/
theorem r2_I0 {g : Int → Int → V} {i j : Int} (h : ∀ H, Rep H (g i j) z) : R2D (rI0 g) (.int i) (.int j) z := fun A H vx vy s r1 r2 Q q => by
  cases r1
  cases r2
  exact ⟨i, j, rfl, rfl, q _ A H (Gr.refl s) (h A)⟩
theorem r2_I {C : Int → Int → Prop} {g : Int → Int → V} {i j : Int} (hc : C i j) (h : ∀ H, Rep H (g i j) z) : R2D (rI C g) (.int i) (.int j) z := fun A H vx vy s r1 r2 Q q => by
  cases r1
  cases r2
  exact ⟨i, j, rfl, rfl, hc, q _ A H (Gr.refl s) (h A)⟩
theorem r2_add {i j : Int} : R2D (rI0 fun i j => .int (i + j)) (.int i) (.int j) (.int (i + j)) := r2_I0 fun _ => .int _
theorem r2_sub {i j : Int} : R2D (rI0 fun i j => .int (i - j)) (.int i) (.int j) (.int (i - j)) := r2_I0 fun _ => .int _
theorem r2_lt {i j : Int} : R2D (rI0 fun i j => .bl (decide (i < j))) (.int i) (.int j) (.bl (decide (i < j))) := r2_I0 fun _ => .bl _
theorem r2_le {i j : Int} : R2D (rI0 fun i j => .bl (decide (i ≤ j))) (.int i) (.int j) (.bl (decide (i ≤ j))) := r2_I0 fun _ => .bl _
theorem r2_gt {i j : Int} : R2D (rI0 fun i j => .bl (decide (j < i))) (.int i) (.int j) (.bl (decide (j < i))) := r2_I0 fun _ => .bl _
theorem r2_ge {i j : Int} : R2D (rI0 fun i j => .bl (decide (j ≤ i))) (.int i) (.int j) (.bl (decide (j ≤ i))) := r2_I0 fun _ => .bl _
theorem r2_eqI {i j : Int} : R2D rEq (.int i) (.int j) (.bl (decide (i = j))) := fun A H vx vy s r1 r2 Q q => by
  cases r1
  cases r2
  refine ⟨rfl, q _ A H (Gr.refl s) ?_⟩
  have e : decide (V.int i = V.int j) = decide (i = j) := decide_eq_decide.mpr ⟨fun h => V.int.inj h, fun h => h ▸ rfl⟩
  rw [e]
  exact .bl _
theorem r2_neI {i j : Int} : R2D rNe (.int i) (.int j) (.bl (!decide (i = j))) := fun A H vx vy s r1 r2 Q q => by
  cases r1
  cases r2
  refine ⟨rfl, q _ A H (Gr.refl s) ?_⟩
  have e : decide (V.int i = V.int j) = decide (i = j) := decide_eq_decide.mpr ⟨fun h => V.int.inj h, fun h => h ▸ rfl⟩
  rw [e]
  exact .bl _
theorem r2_cat (h : xs.length + ys.length ≤ sizeLine) : R2D (rCatA K) (.tup xs) (.tup ys) (.tup (xs ++ ys)) := fun A H vx vy s r1 r2 Q q => by
  cases r1 with
  | @tup a us _ h1 R1 =>
    cases r2 with
    | @tup b ws _ h2 R2 =>
      refine ⟨a, b, us, ws, rfl, rfl, SqT.of (s _ _ h1), SqT.of (s _ _ h2), by rw [R1.len, R2.len]; exact h, fun e => ?_, fun _ e => ?_, fun _ _ p hp => ?_⟩
      · subst e
        cases R1
        exact q _ A H (Gr.refl s) (.tup h2 R2)
      · subst e
        cases R2
        rw [List.append_nil] at q
        exact q _ A H (Gr.refl s) (.tup h1 R1)
      · have g := Gr.new (o := .tup (us ++ ws)) s hp
        exact q _ _ _ g (.tup upd_same ((R1.app R2).mono g.view))
theorem atI_rep {A : Hp} {us : List V} {i : Int} (R : Reps A us xs) (h : atI xs i = some z) : ∃ v, atI us i = some v ∧ Rep A v z := by
  unfold atI at h ⊢
  rw [R.len]
  cases e : ixN xs.length i with
  | none =>
    rw [e] at h
    cases h
  | some j =>
    rw [e] at h
    exact R.get h
theorem r2_ixT {i : Int} (h : atI xs i = some z) : R2D (rIxT K) (.tup xs) (.int i) z := fun A H vx vy s r1 r2 Q q => by
  cases r2
  cases r1 with
  | @tup a us _ h1 R1 =>
    obtain ⟨v, e, rv⟩ := atI_rep R1 h
    exact ⟨a, us, i, v, rfl, rfl, SqT.of (s _ _ h1), e, q v A H (Gr.refl s) rv⟩
theorem ev_ixL {i : Int} (ha : EvR ta γ xs) (hb : EvD tb γ (.int i)) (h : atI xs i = some z) : EvD (tOp (rIxL K) ta tb) γ z := fun H0 A H σ k Q q =>
  ha H0 A H σ k _ fun l vs B H1 g1 h1 R1 => hb H0 B H1 σ (k.mono g1) _ fun w C H2 g2 r2 => by
    cases r2
    obtain ⟨v, e, rv⟩ := atI_rep (R1.mono g2.view) h
    exact ⟨l, vs, i, v, rfl, rfl, SqL.of (g2.up _ _ h1), e, q v C H2 (g1.trans g2) rv⟩
def cutA {α : Type} (xs : List α) (lo hi : Option Int) : List α := (xs.drop (HT.sIx xs.length 0 lo)).take (HT.sIx xs.length xs.length hi - HT.sIx xs.length 0 lo)
theorem Reps.cut {A : Hp} {us : List V} {lo hi : Option Int} (R : Reps A us xs) : Reps A (cutV us lo hi) (cutA xs lo hi) := by
  unfold cutV cutA
  rw [R.len]
  exact (R.drop _).take _
theorem ev_slT {tl th : TO} {lo hi : Option Int} (h : EvD te γ (.tup xs)) (h1 : EvO tl γ lo) (h2 : EvO th γ hi) : EvD (tSl (rSlA K) te tl th) γ (.tup (cutA xs lo hi)) := fun H0 A H σ k Q q =>
  h H0 A H σ k _ fun v B H1 g1 r1 => h1 H0 B H1 σ (k.mono g1) _ fun C H2 g2 => h2 H0 C H2 σ (k.mono (g1.trans g2)) _ fun D H3 g3 => by
    cases r1 with
    | @tup a us _ ha R =>
      have g := (g1.trans g2).trans g3
      refine ⟨a, us, rfl, SqT.of (g3.up _ _ (g2.up _ _ (g1.sub _ _ ha))), fun e => ?_, fun _ p hp => ?_⟩
      · have ew : cutA xs lo hi = xs := by
          unfold cutA
          rw [← R.len, e.1, e.2, List.drop_zero, R.len]
          exact List.take_length
        rw [ew] at q
        exact q _ D H3 g (.tup (g3.view _ _ (g2.view _ _ ha)) (R.mono (g2.view.trans g3.view)))
      · have g4 := Gr.new (o := .tup (cutV us lo hi)) g.sub hp
        exact q _ _ _ (g.trans g4) (.tup upd_same ((R.mono (g2.view.trans g3.view)).cut.mono g4.view))
theorem r2_ltT {ns ms : List Int} : R2D (rLtT K) (.tup (ns.map .int)) (.tup (ms.map .int)) (.bl (HT.lexLt ns ms)) := fun A H vx vy s r1 r2 Q q => by
  cases r1 with
  | @tup a us _ h1 R1 =>
    cases r2 with
    | @tup b ws _ h2 R2 =>
      have e1 := R1.ints
      have e2 := R2.ints
      subst e1 e2
      exact ⟨a, b, ns, ms, rfl, rfl, SqT.of (s _ _ h1), SqT.of (s _ _ h2), q _ A H (Gr.refl s) (.bl _)⟩
/-! ### == at any depth -/
mutual
def py : Dat → PyData
  | .non => .none
  | .bl b => .bool b
  | .int i => .int i
  | .str s => .str s
  | .tup ds => .tuple (pys ds)
  | .lst ds => .list (pys ds)
  | .dic _ => .none
def pys : List Dat → List PyData
  | [] => []
  | d :: ds => py d :: pys ds
end
mutual
def noDic : Dat → Bool
  | .tup ds => noDics ds
  | .lst ds => noDics ds
  | .dic _ => false
  | _ => true
def noDics : List Dat → Bool
  | [] => true
  | d :: ds => noDic d && noDics ds
end
mutual
theorem Rep.dp {A H : Hp} (s : Ex A H) : ∀ {v : V} {d : Dat}, Rep A v d → noDic d = true → Dp K H v (py d)
  | _, _, .non, _ => .non
  | _, _, .bl b, _ => .bl b
  | _, _, .int i, _ => .int i
  | _, _, .str x, _ => .str x
  | _, _, .tup h r, n => .tup (SqT.of (s _ _ h)) (Reps.dp s r n)
  | _, _, .lst h r, n => .lst (SqL.of (s _ _ h)) (Reps.dp s r n)
  | _, _, .dic _ _, n => Bool.noConfusion (show false = true from n)
theorem Reps.dp {A H : Hp} (s : Ex A H) : ∀ {v : List V} {d : List Dat}, Reps A v d → noDics d = true → DpAll K H v (pys d)
  | _, _, .nil, _ => .nil
  | _, _, .cons h r, n => by
    have n' := Bool.and_eq_true_iff.mp n
    exact .cons (Rep.dp s h n'.1) (Reps.dp s r n'.2)
end
theorem r2_eqD (n1 : noDic x = true) (n2 : noDic y = true) (s1 : SeqAt.shaped (py x) = true) (s2 : SeqAt.shaped (py y) = true) : R2D (rEqD K) x y (.bl (PyData.eqv (py x) (py y))) := fun A H vx vy s r1 r2 Q q =>
  ⟨py x, py y, r1.dp s n1, r2.dp s n2, s1, s2, q _ A H (Gr.refl s) (.bl _)⟩
theorem r2_neD (n1 : noDic x = true) (n2 : noDic y = true) (s1 : SeqAt.shaped (py x) = true) (s2 : SeqAt.shaped (py y) = true) : R2D (rNeD K) x y (.bl (!PyData.eqv (py x) (py y))) := fun A H vx vy s r1 r2 Q q =>
  ⟨py x, py y, r1.dp s n1, r2.dp s n2, s1, s2, q _ A H (Gr.refl s) (.bl _)⟩
end
/-! # words -/
def w (ns : List Int) : Dat := .tup (ns.map .int)
theorem pys_ints : ∀ ns : List Int, pys (ns.map .int) = ns.map .int
  | [] => rfl
  | n :: ns => by
    show py (.int n) :: pys (ns.map .int) = _
    rw [pys_ints ns]
    rfl
theorem noDic_w (ns : List Int) : noDic (w ns) = true := by
  show noDics (ns.map .int) = true
  induction ns with
  | nil => rfl
  | cons n ns ih => exact Bool.and_eq_true_iff.mpr ⟨rfl, ih⟩
theorem lay_ints : ∀ ns : List Int, PyData.canLayAll0 (ns.map PyData.int) = true
  | [] => by simp [PyData.canLayAll0]
  | n :: ns => by
    have := lay_ints ns
    simp only [List.map_cons, PyData.canLayAll0, this, Bool.and_true]
    simp [PyData.canLay0]
theorem depth_ints : ∀ ns : List Int, PyData.depthAll (ns.map PyData.int) ≤ 1
  | [] => by simp [PyData.depthAll]
  | n :: ns => by
    have := depth_ints ns
    simp only [List.map_cons, PyData.depthAll, PyData.depth]
    omega
theorem shaped_w (ns : List Int) : SeqAt.shaped (py (w ns)) = true := by
  show SeqAt.shaped (.tuple (pys (ns.map .int))) = true
  rw [pys_ints]
  unfold SeqAt.shaped
  have h := depth_ints ns
  have e : PyData.depth (.tuple (ns.map PyData.int)) ≤ 64 := by
    simp only [PyData.depth]
    omega
  rw [decide_eq_true e, Bool.and_true]
  simp only [PyData.canLay0]
  exact lay_ints ns
theorem eqv_ints : ∀ ns ms : List Int, PyData.eqvAll (ns.map PyData.int) (ms.map PyData.int) = decide (ns = ms)
  | [], [] => by simp [PyData.eqvAll]
  | [], m :: ms => by simp [PyData.eqvAll]
  | n :: ns, [] => by simp [PyData.eqvAll]
  | n :: ns, m :: ms => by
    simp only [List.map_cons, PyData.eqvAll, eqv_ints ns ms]
    by_cases h : n = m
    · subst h
      simp [PyData.eqv]
    · simp [PyData.eqv, h]
theorem eqv_w (ns ms : List Int) : PyData.eqv (py (w ns)) (py (w ms)) = decide (ns = ms) := by
  show PyData.eqv (.tuple (pys (ns.map .int))) (.tuple (pys (ms.map .int))) = _
  rw [pys_ints, pys_ints]
  simp only [PyData.eqv]
  exact eqv_ints ns ms
theorem r2_eqW {K : PySem.W.Frag} {ns ms : List Int} : R2D (rEqD K) (w ns) (w ms) (.bl (decide (ns = ms))) := by
  have h := r2_eqD (K := K) (noDic_w ns) (noDic_w ms) (shaped_w ns) (shaped_w ms)
  rw [eqv_w] at h
  exact h
theorem r2_neW {K : PySem.W.Frag} {ns ms : List Int} : R2D (rNeD K) (w ns) (w ms) (.bl (!decide (ns = ms))) := by
  have h := r2_neD (K := K) (noDic_w ns) (noDic_w ms) (shaped_w ns) (shaped_w ms)
  rw [eqv_w] at h
  exact h
end Fr

set_option Elab.async false
set_option linter.all false
set_option maxRecDepth 100000
set_option maxHeartbeats 4000000
namespace Fr
open PySem PySem.Spec PyProof.Rows L2
open Evl (Ex)
/-! # statements -/
def Run (ts : TS) (γ : Gam) (N : Gam → Prop) (R : Dat → Gam → Prop) : Prop := ∀ A0 H0 A H σ, Gr A0 H0 A H → Ok H0 A H σ γ → ∀ D : Ends,
  (∀ δ B H' σ', N δ → Gr A0 H0 B H' → Ex A B → Ok H0 B H' σ' δ → D.nx σ' H') → (∀ v B H' x σ' δ, R x δ → Gr A0 H0 B H' → Ok H0 B H' σ' δ → Rep B v x → D.rt v H') → ts D σ H
/-- a target takes data: the slots js are stored -/
def Tg (g : TG) (js : List Nat) (γ : Gam) (x : Dat) (δ : Gam) : Prop := ∀ H0 A H σ v, Ok H0 A H σ γ → Rep A v x → ∀ Q : L2.St → Hp → Prop,
  (∀ σ', Ok H0 A H σ' δ → σ'.length = σ.length → (∀ i : Nat, i ∉ js → σ'[i]? = σ[i]?) → Q σ' H) → g v σ H Q
def Tgs (g : TGs) (js : List Nat) (γ : Gam) (xs : List Dat) (δ : Gam) : Prop := ∀ H0 A H σ vs, Ok H0 A H σ γ → Reps A vs xs → ∀ Q : L2.St → Hp → Prop,
  (∀ σ', Ok H0 A H σ' δ → σ'.length = σ.length → (∀ i : Nat, i ∉ js → σ'[i]? = σ[i]?) → Q σ' H) → g vs σ H Q
theorem grOf {A0 H0 A H B H' : Hp} (g : Gr A0 H0 A H) (h : Gr A H B H') : Gr A0 H0 B H' := g.trans h
section
variable {K : PySem.W.Frag} {γ δ : Gam} {ta tb te : TE} {t : TT} {x y z : Dat} {xs ys : List Dat} {N M : Gam → Prop} {R : Dat → Gam → Prop} {tu tw : TS} {g : TG} {gs : TGs} {js : List Nat}
theorem tg_name (i : Nat) : Tg (gName i) [i] γ x (γ.set i (.d x)) := fun H0 A H σ v k r Q q =>
  q _ (k.setD r i) (by rw [List.length_set]) fun j hj => by rw [List.getElem?_set_ne (fun e => hj (by rw [e]; exact List.mem_singleton.mpr rfl))]
theorem tgs_nil : Tgs gNil [] γ [] γ := fun H0 A H σ vs k r Q q => by
  cases r
  exact ⟨rfl, q σ k rfl fun _ _ => rfl⟩
theorem tgs_cons {j1 : List Nat} {γ2 : Gam} (h : Tg g js γ x γ2) (hr : Tgs gs j1 γ2 xs δ) : Tgs (gCons g gs) (js ++ j1) γ (x :: xs) δ := fun H0 A H σ vs k r Q q => by
  cases r with
  | @cons v _ us _ r1 r2 =>
    refine ⟨v, us, rfl, h H0 A H σ v k r1 _ fun σ1 k1 l1 e1 => hr H0 A H σ1 us k1 r2 _ fun σ2 k2 l2 e2 => q σ2 k2 (l2.trans l1) fun i hi => ?_⟩
    rw [List.mem_append, not_or] at hi
    rw [e2 i hi.2, e1 i hi.1]
theorem tg_tup {n : Nat} (h : Tgs gs js γ xs δ) (hn : xs.length = n) : Tg (gTup K n gs) js γ (.tup xs) δ := fun H0 A H σ v k r Q q => by
  cases r with
  | @tup a us _ h1 r1 => exact ⟨a, us, rfl, SqT.of (k.sub _ _ h1), by rw [r1.len]; exact hn, h H0 A H σ us k r1 Q q⟩
theorem Run.weak {N' : Gam → Prop} {R' : Dat → Gam → Prop} (h : Run tu γ N R) (hn : ∀ δ, N δ → N' δ) (hr : ∀ x δ, R x δ → R' x δ) : Run tu γ N' R' := fun A0 H0 A H σ g k D dn dr =>
  h A0 H0 A H σ g k D (fun δ B H' σ' n => dn δ B H' σ' (hn δ n)) fun v B H' x σ' δ r => dr v B H' x σ' δ (hr x δ r)
theorem run_seq (h : Run tu γ M R) (hk : ∀ δ, M δ → Run tw δ N R) : Run (tSeq tu tw) γ N R := fun A0 H0 A H σ g k D dn dr =>
  h A0 H0 A H σ g k { D with nx := tw D } (fun δ B H' σ' m g' v k' => hk δ m A0 H0 B H' σ' g' k' D (fun δ2 B2 H2 σ2 n g2 v2 k2 => dn δ2 B2 H2 σ2 n g2 (v.trans v2) k2) dr) dr
/-- the usual: one way on -/
theorem run_seq1 (h : Run tu γ (fun ε => ε = δ) R) (hk : Run tw δ N R) : Run (tSeq tu tw) γ N R := run_seq h fun _ e => e ▸ hk
theorem run_next (h : N γ) : Run tNext γ N R := fun A0 H0 A H σ g k D dn dr => dn γ A H σ h g (Ex.refl A) k
theorem run_asgT (h : EvD te γ x) (ht : Tg g js γ x δ) (hn : N δ) : Run (tAsg te g) γ N R := fun A0 H0 A H σ g0 k D dn dr =>
  h H0 A H σ k _ fun v B H1 g1 r1 => ht H0 B H1 σ v (k.mono g1) r1 _ fun σ' k' _ _ => dn δ B H1 σ' hn (g0.trans g1) g1.view k'
theorem run_asg {i : Nat} (h : EvD te γ x) (hn : N (γ.set i (.d x))) : Run (tAsg te (gName i)) γ N R := run_asgT h (tg_name i) hn
theorem run_asgN {i : Nat} (h : EvN te γ xs) (hn : N (γ.set i (.o xs))) : Run (tAsg te (gName i)) γ N R := fun A0 H0 A H σ g0 k D dn dr =>
  h H0 A H σ k _ fun l vs B H1 g1 hl hB h1 r1 => by
    have k1 := k.mono g1
    refine dn _ B H1 _ hn (g0.trans g1) g1.view (k1.setM i (fun j t hj mt e => ?_) (fun _ z => nomatch z) (fun _ _ z => nomatch z) (fun _ _ z => nomatch z) (fun _ z => by cases z; exact ⟨vs, Evl.fresh_back g0.up hl, hB, h1, r1⟩) fun _ z => nomatch z)
    obtain ⟨a, o, e2, _, _, e3⟩ := k.addr hj mt
    rw [e2] at e
    cases e
    rw [hl] at e3
    cases e3
theorem run_ret (h : EvD te γ x) (hr : R x γ) : Run (tRet te) γ N R := fun A0 H0 A H σ g0 k D dn dr =>
  h H0 A H σ k _ fun v B H1 g1 r1 => dr v B H1 x σ γ hr (g0.trans g1) (k.mono g1) r1
theorem run_retN (hr : R .non γ) : Run tRetN γ N R := fun A0 H0 A H σ g0 k D dn dr => dr _ A H .non σ γ hr g0 k .non
theorem run_never : False → Run tNever γ N R := fun h => h.elim
theorem run_if {b : Bool} (h : EvT t γ b) (h1 : b = true → Run tu γ N R) (h2 : b = false → Run tw γ N R) : Run (tIfS t tu tw) γ N R := fun A0 H0 A H σ g0 k D dn dr =>
  h H0 A H σ k _ fun B H1 g1 => by
    have dn' : ∀ δ C H' σ', N δ → Gr A0 H0 C H' → Ex B C → Ok H0 C H' σ' δ → D.nx σ' H' := fun δ C H' σ' n g2 v2 k2 => dn δ C H' σ' n g2 (g1.view.trans v2) k2
    cases b with
    | true => exact h1 rfl A0 H0 B H1 σ (g0.trans g1) (k.mono g1) D dn' dr
    | false => exact h2 rfl A0 H0 B H1 σ (g0.trans g1) (k.mono g1) D dn' dr
theorem run_drop (h : EvD te γ x) (hn : N γ) : Run (tDrop te) γ N R := fun A0 H0 A H σ g0 k D dn dr =>
  h H0 A H σ k _ fun v B H1 g1 r1 => dn γ B H1 σ hn (g0.trans g1) g1.view (k.mono g1)
/-- an own list in slot i changes -/
theorem Ok.change {H0 A H : Hp} {σ : L2.St} {i : Nat} {l : Addr} {us : List V} (k : Ok H0 A H σ γ) (h : γ[i]? = some (Slot.o xs)) (e : σ[i]? = some (some (V.ref l))) (r : Reps A us ys) : Ok H0 A (upd H l (.lst us)) σ (γ.set i (.o ys)) :=
  k.turn h rfl e (fun _ z => nomatch z) (fun zs z => by cases z; exact ⟨us, rfl, r⟩) (fun _ z => nomatch z) (fun _ _ z => nomatch z) fun _ _ z => nomatch z
theorem run_app {i : Nat} (h : γ[i]? = some (Slot.o xs)) (he : EvD te γ x) (hz : xs.length < sizeLine) (hn : N (γ.set i (.o (xs ++ [x])))) : Run (tDrop (tBM K "list" rAppend (tVar i) (tCons te tNil))) γ N R := fun A0 H0 A H σ g0 k D dn dr => by
  obtain ⟨l, vs, e, h0, hA, hH, r⟩ := k.own i xs h
  refine ⟨.ref l, e, .inl ⟨rfl, vs, SqL.of hH⟩, he H0 A H σ k _ fun v B H1 g1 r1 => ?_⟩
  have k1 := k.mono g1
  have hB := g1.hid l _ hH True.intro hA
  refine ⟨l, vs, v, rfl, rfl, g1.up _ _ hH, by rw [r.len]; exact hz, ?_⟩
  exact dn _ B _ σ hn ((g0.trans g1).mut h0 hB) g1.view (k1.change h e ((r.mono g1.view).app (Reps.one r1)))
/-- an own list becomes data that stands still -/
theorem Ok.freeze {A0 H0 A H : Hp} {σ : L2.St} {i : Nat} (k : Ok H0 A H σ γ) (g : Gr A0 H0 A H) (h : γ[i]? = some (Slot.o xs)) : ∃ B, Gr A0 H0 B H ∧ Ex A B ∧ Ok H0 B H σ (γ.set i (.d (.lst xs))) := by
  obtain ⟨l, vs, e, h0, hA, hH, r⟩ := k.own i xs h
  obtain ⟨a, b, c⟩ := k.bare (x := .lst xs) g h rfl e hH (.lst upd_same (r.mono (Ex.new hA)))
  exact ⟨_, a, b, c⟩
/-- an own dict becomes data that stands still -/
theorem Ok.freezeD {A0 H0 A H : Hp} {σ : L2.St} {i : Nat} {es : List (List L2.Key × Dat)} (k : Ok H0 A H σ γ) (g : Gr A0 H0 A H) (h : γ[i]? = some (Slot.od es)) : ∃ B, Gr A0 H0 B H ∧ Ex A B ∧ Ok H0 B H σ (γ.set i (.d (.dic es))) := by
  obtain ⟨l, vs, e, h0, hA, hH, r⟩ := k.ownD i es h
  obtain ⟨a, b, c⟩ := k.bare (x := .dic es) g h rfl e hH (.dic upd_same (r.mono (Ex.new hA)))
  exact ⟨_, a, b, c⟩
theorem run_freezeD {i : Nat} {es : List (List L2.Key × Dat)} (h : γ[i]? = some (Slot.od es)) (hr : Run tu (γ.set i (.d (.dic es))) N R) : Run tu γ N R := fun A0 H0 A H σ g k D dn dr => by
  obtain ⟨B, g1, v1, k1⟩ := k.freezeD g h
  exact hr A0 H0 B H σ g1 k1 D (fun δ C H' σ' n g2 v2 k2 => dn δ C H' σ' n g2 (v1.trans v2) k2) dr
theorem run_freeze {i : Nat} (h : γ[i]? = some (Slot.o xs)) (hr : Run tu (γ.set i (.d (.lst xs))) N R) : Run tu γ N R := fun A0 H0 A H σ g k D dn dr => by
  obtain ⟨B, g1, v1, k1⟩ := k.freeze g h
  exact hr A0 H0 B H σ g1 k1 D (fun δ C H' σ' n g2 v2 k2 => dn δ C H' σ' n g2 (v1.trans v2) k2) dr
theorem run_less (h : Less γ δ) (hr : Run tu δ N R) : Run tu γ N R := fun A0 H0 A H σ g k D dn dr => hr A0 H0 A H σ g (k.less h) D dn dr
/-! ### loops -/
theorem run_forT {tl : TE} (h : EvD tl γ (.tup xs)) (I : Nat → Gam → Prop) (h0 : I 0 γ)
    (hs : ∀ i x δ, xs[i]? = some x → I i δ → ∃ js ε, Tg g js δ x ε ∧ Run tu ε (I (i + 1)) R) (hd : ∀ δ, I xs.length δ → N δ) : Run (tFor (iTup K tl) g tu) γ N R := fun A0 H0 A H σ g0 k D dn dr =>
  h H0 A H σ k _ fun v B H1 g1 r1 => by
    cases r1 with
    | @tup a us _ ha ru =>
      refine ⟨a, rfl, ⟨us, SqT.of (g1.sub _ _ ha)⟩, for_tup (K := K) (xs := us) (fun i σ' H' => ∃ δ C, I i δ ∧ Gr A0 H0 C H' ∧ Ex B C ∧ Ok H0 C H' σ' δ) ⟨γ, B, h0, g0.trans g1, Ex.refl B, k.mono g1⟩ ?_ ?_ ?_⟩
      · rintro i σ' H' _ ⟨δ, C, _, g2, v2, _⟩
        exact SqT.of (g2.sub _ _ (v2 _ _ ha))
      · rintro i u σ' H' hi ⟨δ, C, hI, g2, v2, k2⟩
        obtain ⟨x, hx, rx⟩ := ru.getV hi
        obtain ⟨js, ε, ht, hr⟩ := hs i x δ hx hI
        refine ht H0 C H' σ' u k2 (rx.mono v2) _ fun σ3 k3 _ _ => ?_
        exact hr A0 H0 C H' σ3 g2 k3 { D with nx := _, ct := _, bk := D.nx } (fun δ' C' H3 σ4 hN g4 v4 k4 => ⟨δ', C', hN, g4, v2.trans v4, k4⟩) dr
      · rintro σ' H' ⟨δ, C, hI, g2, v2, k2⟩
        rw [ru.len] at hI
        exact dn δ C H' σ' (hd δ hI) g2 (g1.view.trans v2) k2
theorem run_forL {tl : TE} (h : EvD tl γ (.lst xs)) (I : Nat → Gam → Prop) (h0 : I 0 γ)
    (hs : ∀ i x δ, xs[i]? = some x → I i δ → ∃ js ε, Tg g js δ x ε ∧ Run tu ε (I (i + 1)) R) (hd : ∀ δ, I xs.length δ → N δ) : Run (tFor (iList K tl) g tu) γ N R := fun A0 H0 A H σ g0 k D dn dr =>
  h H0 A H σ k _ fun v B H1 g1 r1 => by
    cases r1 with
    | @lst a us _ ha ru =>
      refine ⟨a, rfl, ⟨us, SqL.of (g1.sub _ _ ha)⟩, for_list (K := K) (xs := us) (fun i σ' H' => ∃ δ C, I i δ ∧ Gr A0 H0 C H' ∧ Ex B C ∧ Ok H0 C H' σ' δ) ⟨γ, B, h0, g0.trans g1, Ex.refl B, k.mono g1⟩ ?_ ?_ ?_⟩
      · rintro i σ' H' _ ⟨δ, C, _, g2, v2, _⟩
        exact SqL.of (g2.sub _ _ (v2 _ _ ha))
      · rintro i u σ' H' hi ⟨δ, C, hI, g2, v2, k2⟩
        obtain ⟨x, hx, rx⟩ := ru.getV hi
        obtain ⟨js, ε, ht, hr⟩ := hs i x δ hx hI
        refine ht H0 C H' σ' u k2 (rx.mono v2) _ fun σ3 k3 _ _ => ?_
        exact hr A0 H0 C H' σ3 g2 k3 { D with nx := _, ct := _, bk := D.nx } (fun δ' C' H3 σ4 hN g4 v4 k4 => ⟨δ', C', hN, g4, v2.trans v4, k4⟩) dr
      · rintro σ' H' ⟨δ, C, hI, g2, v2, k2⟩
        rw [ru.len] at hI
        exact dn δ C H' σ' (hd δ hI) g2 (g1.view.trans v2) k2
theorem run_forR {tr : TA} {n : Int} {j : Nat} (h : EvA tr γ [.int n]) (hn : -(2 ^ 62) ≤ n ∧ n < 2 ^ 62) (I : Nat → Gam → Prop) (h0 : I 0 γ)
    (hs : ∀ (i : Nat) δ, (i : Int) < n → I i δ → Run tu (δ.set j (.d (.int (i : Int)))) (I (i + 1)) R) (hd : ∀ δ, I n.toNat δ → N δ) : Run (tFor (iRng1 tr) (gName j) tu) γ N R := fun A0 H0 A H σ g0 k D dn dr =>
  h H0 A H σ k _ fun vs B H1 g1 r1 => by
    cases r1 with
    | cons r1 r2 =>
      cases r1
      cases r2
      refine ⟨n, rfl, hn.1, hn.2, for_range (lo := 0) (n := n.toNat) (fun i σ' H' => ∃ δ C, I i δ ∧ Gr A0 H0 C H' ∧ Ex B C ∧ Ok H0 C H' σ' δ) ⟨γ, B, h0, g0.trans g1, Ex.refl B, k.mono g1⟩ ?_ ?_⟩
      · rintro i σ' H' hi ⟨δ, C, hI, g2, v2, k2⟩
        have e0 : (0 : Int) + (i : Int) = (i : Int) := Int.zero_add _
        rw [e0]
        have k3 := k2.setD (v := .int (i : Int)) (.int _) j
        exact hs i δ (by omega) hI A0 H0 C H' _ g2 k3 { D with nx := _, ct := _, bk := D.nx } (fun δ' C' H3 σ4 hN g4 v4 k4 => ⟨δ', C', hN, g4, v2.trans v4, k4⟩) dr
      · rintro σ' H' ⟨δ, C, hI, g2, v2, k2⟩
        exact dn δ C H' σ' (hd δ hI) g2 (g1.view.trans v2) k2
theorem run_while (I : Nat → Gam → Prop) (m0 : Nat) (h0 : I m0 γ) (hs : ∀ m δ, I m δ → ∃ b, EvT t δ b ∧ (b = true → Run tu δ (fun ε => ∃ m', m' < m ∧ I m' ε) R) ∧ (b = false → N δ)) : Run (tWhile t tu) γ N R := fun A0 H0 A H σ g0 k D dn dr => by
  refine ⟨fun m σ' H' => ∃ δ C, I m δ ∧ Gr A0 H0 C H' ∧ Ex A C ∧ Ok H0 C H' σ' δ, ⟨m0, γ, A, h0, g0, Ex.refl A, k⟩, ?_⟩
  rintro m σ' H' ⟨δ, C, hI, g2, v2, k2⟩
  obtain ⟨b, hb, h1, h2⟩ := hs m δ hI
  refine hb H0 C H' σ' k2 _ fun B H1 g1 => ?_
  cases b with
  | true =>
    refine ⟨fun σ3 H3 => ∃ ε E, (∃ m', m' < m ∧ I m' ε) ∧ Gr A0 H0 E H3 ∧ Ex A E ∧ Ok H0 E H3 σ3 ε, fun σ3 H3 ⟨ε, E, ⟨m', hm, hI'⟩, a, b, c⟩ => ⟨m', hm, ε, E, hI', a, b, c⟩, ?_⟩
    exact h1 rfl A0 H0 B H1 σ' (g2.trans g1) (k2.mono g1) { D with nx := _, ct := _, bk := D.nx } (fun ε E H3 σ3 hN g3 v3 k3 => ⟨ε, E, hN, g3, (v2.trans g1.view).trans v3, k3⟩) dr
  | false => exact dn δ B H1 σ' (h2 rfl) (g2.trans g1) (v2.trans g1.view) (k2.mono g1)
end
/-! # a def -/
def entry (N : List Str) (xs : List Dat) : Gam := xs.map Slot.d ++ List.replicate (N.length - xs.length) Slot.no
theorem ok_entry {A H : Hp} (s : Ex A H) (N : List Str) {vs : List V} {xs : List Dat} (r : Reps A vs xs) : Ok H A H (L2.start N vs) (entry N xs) := by
  have no : ∀ (i : Nat) (t : Slot), (entry N xs)[i]? = some t → t.mine = false ∧ ∀ K m, t ≠ .scr K m := fun i t h => by
    unfold entry at h
    by_cases hi : i < xs.length
    · rw [List.getElem?_append_left (by simpa using hi), List.getElem?_map] at h
      cases e : xs[i]? with
      | none => rw [e] at h; cases h
      | some a => rw [e] at h; cases h; exact ⟨rfl, fun _ _ z => nomatch z⟩
    · rw [List.getElem?_append_right (by simpa using hi), List.getElem?_replicate] at h
      split at h <;> cases h
      exact ⟨rfl, fun _ _ z => nomatch z⟩
  refine ⟨s, ?_, fun i x h => ?_, fun i ys h => absurd (no i _ h).1 (by intro z; cases z), fun i ys h => absurd (no i _ h).1 (by intro z; cases z), fun i c ys h => absurd (no i _ h).1 (by intro z; cases z), fun i K m h => absurd rfl ((no i _ h).2 K m), fun i j l t u h1 h2 h3 => by rw [(no i t h1).1] at h3; cases h3⟩
  · unfold L2.start entry
    simp [r.len]
  · unfold entry at h
    by_cases hi : i < xs.length
    · rw [List.getElem?_append_left (by simpa using hi), List.getElem?_map] at h
      cases e : xs[i]? with
      | none => rw [e] at h; cases h
      | some a =>
        rw [e] at h
        cases h
        obtain ⟨v, h1, h2⟩ := r.get e
        refine ⟨v, ?_, h2⟩
        unfold L2.start
        rw [List.getElem?_append_left (by simpa [r.len] using hi), List.getElem?_map, h1]
        rfl
    · rw [List.getElem?_append_right (by simpa using hi), List.getElem?_replicate] at h
      split at h <;> cases h
section
variable {P : Program} {w0 : World} {K : PySem.W.Frag} {mg : Str → Option Value} {base : Heap}
theorem fn_pr {x qual : Str} {st : Stmt} {f : Addr} {fd : FuncData} {N ps : List Str} {k : Nat} {R : List Dat → Dat → Prop} (F : Fun K x qual st f fd) (S : FnScope N ps (defScope st)) (hlen : ∀ xs y, R xs y → xs.length = ps.length)
    (hbody : ∀ (cdv : Value) (A : Around) (outer : List PySem.Env) (s : Shared) (H : Hp) (E : XK), Room k (A.deeper (envOfC qual (defScope st) s.heap.objs.size f cdv)) →
      ∃ t, PSs (cxOf CX0 P w0 K mg base N qual (defScope st) f cdv A outer s H E).nox (defBody st) t ∧ ∀ xs y, R xs y → Run t (entry N xs) (fun _ => y = .non) (fun z _ => z = y)) : FnOk P w0 K mg base CX0 (k + 1) f fd ps (Pr R) := by
  refine F.ok S (fun vs H Q E h => ?_) fun cdv A outer s H vs Q E hr h => ?_
  · obtain ⟨A, xs, y, s, r, hR, _⟩ := h
    rw [r.len]
    exact hlen xs y hR
  · obtain ⟨B, xs, y, sub, r, hR, q⟩ := h
    obtain ⟨t, h1, h2⟩ := hbody cdv A outer s H E hr
    refine ⟨t, h1, h2 xs y hR B H B H _ (Gr.refl sub) (ok_entry sub N r) _ (fun δ C H' σ' hn g _ k' => ?_) fun v C H' z σ' δ hz g _ rz => ?_⟩
    · subst hn
      exact q _ C H' g .non
    · subst hz
      exact q v C H' g rz
end
end Fr

set_option Elab.async false
set_option linter.all false
set_option maxRecDepth 100000
set_option maxHeartbeats 4000000
namespace Fr
open PySem PySem.Spec PyProof.Rows L2
open Evl (Ex)
/-! # comprehensions -/
def wipeG (γ : Gam) : List Nat → Gam
  | [] => γ
  | v :: vs => (wipeG γ vs).set v .no
theorem Ok.wipe {H0 A H : Hp} {σ : L2.St} {γ : Gam} (k : Ok H0 A H σ γ) : ∀ vs : List Nat, Ok H0 A H (L2.wipe σ vs) (wipeG γ vs)
  | [] => k
  | v :: vs => (Ok.wipe k vs).forget v none
theorem wipe_get (σ : L2.St) (vs : List Nat) (i : Nat) : (L2.wipe σ vs)[i]? = if i ∈ vs ∧ i < σ.length then some none else σ[i]? := by
  induction vs with
  | nil => simp [L2.wipe]
  | cons v vs ih =>
    unfold L2.wipe
    by_cases q : v = i
    · subst q
      by_cases hv : v < σ.length
      · rw [List.getElem?_set_self (by rw [wipe_length]; exact hv), if_pos ⟨List.mem_cons_self, hv⟩]
      · rw [if_neg (fun z => hv z.2), List.getElem?_eq_none (by rw [List.length_set, wipe_length]; omega), List.getElem?_eq_none (by omega)]
    · rw [List.getElem?_set_ne q, ih]
      have e : (i ∈ vs ∧ i < σ.length) ↔ (i ∈ v :: vs ∧ i < σ.length) := by
        constructor
        · exact fun h => ⟨List.mem_cons_of_mem _ h.1, h.2⟩
        · intro h
          rcases List.mem_cons.mp h.1 with z | z
          · exact absurd z.symm q
          · exact ⟨z, h.2⟩
      by_cases hc : i ∈ vs ∧ i < σ.length
      · rw [if_pos hc, if_pos (e.mp hc)]
      · rw [if_neg hc, if_neg (fun z => hc (e.mpr z))]
theorem wipe_back {σ σ2 : L2.St} {vs js : List Nat} (hl : σ2.length = (L2.wipe σ vs).length) (h : ∀ i : Nat, i ∉ js → σ2[i]? = (L2.wipe σ vs)[i]?) (hj : ∀ j ∈ js, j ∈ vs) : L2.wipe σ2 vs = L2.wipe σ vs := by
  rw [wipe_length] at hl
  refine List.ext_getElem? fun i => ?_
  rw [wipe_get, wipe_get, hl]
  by_cases hc : i ∈ vs ∧ i < σ.length
  · rw [if_pos hc, if_pos hc]
  · rw [if_neg hc, if_neg hc]
    by_cases hi : i ∈ js
    · have hn : ¬ i < σ.length := fun z => hc ⟨hj i hi, z⟩
      rw [List.getElem?_eq_none (by omega), List.getElem?_eq_none (by omega)]
    · rw [h i hi, wipe_get, if_neg hc]
section
variable {K : PySem.W.Frag} {γ δ : Gam} {ta tb te tl : TE} {tt : TT} {x y z : Dat} {xs ys : List Dat} {g : TG} {js vs : List Nat} {α : Type}
def CP (l : List α) (f : α → Bool) (v : α → Dat) (B H1 : Hp) (D : Addr) (i : Nat) (H' : Hp) : Prop := ∃ C acc, Gr B H1 C H' ∧ C D = none ∧ H' D = some (.lst acc) ∧ Reps C acc (((l.take i).filter f).map v)
theorem cp_zero {l : List α} {f : α → Bool} {v : α → Dat} {B H1 : Hp} {D : Addr} (s : Ex B H1) (hD : H1 D = none) : CP l f v B H1 D 0 (upd H1 D (.lst [])) :=
  ⟨B, [], Gr.newU s hD, Evl.fresh_back s hD, upd_same, .nil⟩
theorem cp_step {l : List α} {f : α → Bool} {v : α → Dat} {H0 B H1 C : Hp} {σ : L2.St} {D : Addr} {i : Nat} {H' : Hp} {a : α} {xv : V} {acc : List V} (k : Ok H0 B H1 σ γ) (hD : H1 D = none) (hz : l.length < sizeLine) (hi : l[i]? = some a)
    (gC : Gr B H1 C H') (cD : C D = none) (hAcc : H' D = some (.lst acc)) (rAcc : Reps C acc (((l.take i).filter f).map v)) (rx : Rep C xv x) (hj : ∀ j ∈ js, j ∈ vs) (ht : Tg g js (wipeG γ vs) x δ) (hf : EvT tt δ (f a)) (he : f a = true → EvD te δ (v a)) :
    g xv (L2.wipe σ vs) H' fun σ2 H2 => L2.wipe σ2 vs = L2.wipe σ vs ∧ tt σ2 H2 fun b H3 => if b = true then te σ2 H3 fun y H4 => ∃ acc, H4 D = some (.lst acc) ∧ acc.length < sizeLine ∧ CP l f v B H1 D (i + 1) (upd H4 D (.lst (acc ++ [y]))) else CP l f v B H1 D (i + 1) H3 := by
  have tk : l.take (i + 1) = l.take i ++ [a] := by rw [List.take_add_one, hi]; rfl
  refine ht H0 C H' _ xv ((k.mono gC).wipe vs) rx _ fun σ2 k2 hl hoff => ⟨wipe_back hl hoff hj, ?_⟩
  refine hf H0 C H' σ2 k2 _ fun C2 H3 g2 => ?_
  have cD2 : C2 D = none := g2.hid D _ hAcc True.intro cD
  cases hfa : f a with
  | true =>
    refine he hfa H0 C2 H3 σ2 (k2.mono g2) _ fun yv C3 H4 g3 r3 => ?_
    have hD4 : H4 D = some (.lst acc) := g3.up _ _ (g2.up _ _ hAcc)
    have cD3 : C3 D = none := g3.hid D _ (g2.up _ _ hAcc) True.intro cD2
    have lz : acc.length ≤ i := by
      rw [rAcc.len, List.length_map]
      exact Nat.le_trans (List.length_filter_le _ _) (by rw [List.length_take]; exact Nat.min_le_left _ _)
    have il : i < l.length := (List.getElem?_eq_some_iff.mp hi).1
    refine ⟨acc, hD4, by omega, C3, acc ++ [yv], ((gC.trans g2).trans g3).mut hD cD3, cD3, upd_same, ?_⟩
    rw [tk, List.filter_append, List.map_append, List.filter_cons_of_pos hfa]
    exact ((rAcc.mono (g2.view.trans g3.view)).app (Reps.one r3))
  | false =>
    refine ⟨C2, acc, gC.trans g2, cD2, g2.up _ _ hAcc, ?_⟩
    rw [tk, List.filter_append, List.map_append, List.filter_cons_of_neg (by rw [hfa]; decide)]
    have := rAcc.mono g2.view
    rw [List.filter_nil, List.map_nil, List.append_nil]
    exact this
theorem cp_turn {l : List α} {f : α → Bool} {v : α → Dat} {H0 B H1 : Hp} {σ : L2.St} {D : Addr} {i : Nat} {H' : Hp} {a : α} {xv : V} (k : Ok H0 B H1 σ γ) (hD : H1 D = none) (hz : l.length < sizeLine) (hi : l[i]? = some a) (p : CP l f v B H1 D i H')
    (hx : ∀ C, Ex B C → Rep C xv x) (hj : ∀ j ∈ js, j ∈ vs) (ht : Tg g js (wipeG γ vs) x δ) (hf : EvT tt δ (f a)) (he : f a = true → EvD te δ (v a)) :
    g xv (L2.wipe σ vs) H' fun σ2 H2 => L2.wipe σ2 vs = L2.wipe σ vs ∧ tt σ2 H2 fun b H3 => if b = true then te σ2 H3 fun y H4 => ∃ acc, H4 D = some (.lst acc) ∧ acc.length < sizeLine ∧ CP l f v B H1 D (i + 1) (upd H4 D (.lst (acc ++ [y]))) else CP l f v B H1 D (i + 1) H3 := by
  obtain ⟨C, acc, gC, cD, hAcc, rAcc⟩ := p
  exact cp_step k hD hz hi gC cD hAcc rAcc (hx C gC.view) hj ht hf he
theorem en_lcT {l : List α} {enc : α → Dat} {f : α → Bool} {v : α → Dat} (h : EvD tl γ (.tup (l.map enc))) (hj : ∀ j ∈ js, j ∈ vs) (hz : l.length < sizeLine)
    (hs : ∀ a ∈ l, ∃ δ, Tg g js (wipeG γ vs) (enc a) δ ∧ EvT tt δ (f a) ∧ (f a = true → EvD te δ (v a))) : EvN (tLc (iTup K tl) g tt te vs) γ ((l.filter f).map v) := fun H0 A H σ k Q q =>
  h H0 A H σ k _ fun sv B H1 g1 r1 => by
    cases r1 with
    | @tup a us _ ha ru =>
      have hlen : us.length = l.length := by rw [ru.len, List.length_map]
      refine ⟨a, rfl, ⟨us, SqT.of (g1.sub _ _ ha)⟩, fun D hD => lc_tup (K := K) (xs := us) (CP l f v B H1 D) (cp_zero g1.sub hD) (fun i H' _ p => ?_) (fun i xv H' hi p => ?_) (fun H' p => ?_)⟩
      · obtain ⟨C, acc, gC, _⟩ := p
        exact SqT.of (gC.up _ _ (g1.sub _ _ ha))
      · obtain ⟨d, hd, rd⟩ := ru.getV hi
        rw [List.getElem?_map] at hd
        cases e : l[i]? with
        | none =>
          rw [e] at hd
          cases hd
        | some b =>
          rw [e] at hd
          cases hd
          obtain ⟨δ, t1, t2, t3⟩ := hs b (List.mem_of_getElem? e)
          exact cp_turn (k.mono g1) hD hz e p (fun C e2 => rd.mono e2) hj t1 t2 t3
      · obtain ⟨C, acc, gC, cD, hAcc, rAcc⟩ := p
        rw [hlen, List.take_length] at rAcc
        exact q D acc C H' (g1.trans gC) (Evl.fresh_back g1.up hD) cD hAcc rAcc
theorem en_lcL {l : List α} {enc : α → Dat} {f : α → Bool} {v : α → Dat} (h : EvR tl γ (l.map enc)) (hj : ∀ j ∈ js, j ∈ vs) (hz : l.length < sizeLine)
    (hs : ∀ a ∈ l, ∃ δ, Tg g js (wipeG γ vs) (enc a) δ ∧ EvT tt δ (f a) ∧ (f a = true → EvD te δ (v a))) : EvN (tLc (iList K tl) g tt te vs) γ ((l.filter f).map v) := fun H0 A H σ k Q q =>
  h H0 A H σ k _ fun a us B H1 g1 ha ru => by
    have hlen : us.length = l.length := by rw [ru.len, List.length_map]
    refine ⟨a, rfl, ⟨us, SqL.of ha⟩, fun D hD => lc_list (K := K) (xs := us) (CP l f v B H1 D) (cp_zero g1.sub hD) (fun i H' _ p => ?_) (fun i xv H' hi p => ?_) (fun H' p => ?_)⟩
    · obtain ⟨C, acc, gC, _⟩ := p
      exact SqL.of (gC.up _ _ ha)
    · obtain ⟨d, hd, rd⟩ := ru.getV hi
      rw [List.getElem?_map] at hd
      cases e : l[i]? with
      | none =>
        rw [e] at hd
        cases hd
      | some b =>
        rw [e] at hd
        cases hd
        obtain ⟨δ, t1, t2, t3⟩ := hs b (List.mem_of_getElem? e)
        exact cp_turn (k.mono g1) hD hz e p (fun C e2 => rd.mono e2) hj t1 t2 t3
    · obtain ⟨C, acc, gC, cD, hAcc, rAcc⟩ := p
      rw [hlen, List.take_length] at rAcc
      exact q D acc C H' (g1.trans gC) (Evl.fresh_back g1.up hD) cD hAcc rAcc
theorem en_lcR {tr : TA} {n : Int} {f : Nat → Bool} {v : Nat → Dat} (h : EvA tr γ [.int n]) (hj : ∀ j ∈ js, j ∈ vs) (hn : -(2 ^ 62) ≤ n ∧ n < sizeLine)
    (hs : ∀ a : Nat, (a : Int) < n → ∃ δ, Tg g js (wipeG γ vs) (.int (a : Int)) δ ∧ EvT tt δ (f a) ∧ (f a = true → EvD te δ (v a))) : EvN (tLc (iRng1 tr) g tt te vs) γ (((List.range n.toNat).filter f).map v) := fun H0 A H σ k Q q =>
  h H0 A H σ k _ fun us B H1 g1 ru => by
    have hsz : (sizeLine : Int) < 2 ^ 62 := by rw [sizeLine_eq]; decide
    cases ru with
    | cons r1 r2 =>
      cases r1
      cases r2
      refine ⟨n, rfl, hn.1, by omega, fun D hD => lc_range (lo := 0) (n := n.toNat) (CP (List.range n.toNat) f v B H1 D) (cp_zero g1.sub hD) (fun i H' hi p => ?_) (fun H' p => ?_)⟩
      · have e0 : (0 : Int) + (i : Int) = (i : Int) := Int.zero_add _
        rw [e0]
        obtain ⟨δ, t1, t2, t3⟩ := hs i (by omega)
        exact cp_turn (l := List.range n.toNat) (k.mono g1) hD (by rw [List.length_range]; omega) (by rw [List.getElem?_range hi]) p (fun C _ => .int _) hj t1 t2 t3
      · obtain ⟨C, acc, gC, cD, hAcc, rAcc⟩ := p
        have ht : (List.range n.toNat).take n.toNat = List.range n.toNat := List.take_of_length_le (by rw [List.length_range]; exact Nat.le_refl _)
        rw [ht] at rAcc
        exact q D acc C H' (g1.trans gC) (Evl.fresh_back g1.up hD) cD hAcc rAcc
theorem et_yes : EvT tYes γ true := fun H0 A H σ k Q q => q A H (Gr.refl k.sub)
/-- without an if -/
theorem filter_yes (l : List α) : l.filter (fun _ => true) = l := List.filter_eq_self.mpr fun _ _ => rfl
theorem en_is (h : EvN te γ xs) (e : xs = ys) : EvN te γ ys := e ▸ h
theorem er_is (h : EvR te γ xs) (e : xs = ys) : EvR te γ ys := e ▸ h
/-! # built-ins -/
theorem ev_lenT (h : EvD te γ (.tup xs)) : EvD (tCB (Evl.rLenS K) (tCons te tNil)) γ (.int (xs.length : Int)) := fun H0 A H σ k Q q =>
  h H0 A H σ k _ fun v B H1 g r => by
    cases r with
    | @tup a us _ ha ru =>
      refine ⟨a, us, rfl, .inr (SqT.of (g.sub _ _ ha)), ?_⟩
      rw [ru.len]
      exact q _ B H1 g (.int _)
theorem ev_lenL (h : EvR te γ xs) : EvD (tCB (Evl.rLenS K) (tCons te tNil)) γ (.int (xs.length : Int)) := fun H0 A H σ k Q q =>
  h H0 A H σ k _ fun a us B H1 g ha ru => by
    refine ⟨a, us, rfl, .inl (SqL.of ha), ?_⟩
    rw [ru.len]
    exact q _ B H1 g (.int _)
def rTupOf (K : PySem.W.Frag) : List V → Hp → VK → Prop := fun xs H Q => ∃ p ys, xs = [V.ref p] ∧ ((SqL K H p ys ∧ ∀ l, H l = none → Q (.ref l) (upd H l (.tup ys))) ∨ SqT K H p ys ∧ Q (.ref p) H)
theorem call_tupOf {X : Cx} : CallR X (.type "tuple") (rTupOf X.K) := call_tuple_of
theorem ev_tupL (h : EvR te γ xs) : EvD (tCB (rTupOf K) (tCons te tNil)) γ (.tup xs) := fun H0 A H σ k Q q =>
  h H0 A H σ k _ fun a us B H1 g ha ru => ⟨a, us, rfl, .inl ⟨SqL.of ha, fun p hp => by
    have g2 := Gr.new (o := .tup us) g.sub hp
    exact q _ _ _ (g.trans g2) (.tup upd_same (ru.mono g2.view))⟩⟩
theorem bls_of : ∀ {us : List V} {bs : List Bool} {A : Hp}, Reps A us (bs.map .bl) → us = bs.map V.bl
  | _, [], _, h => by cases h; rfl
  | _, b :: bs, _, h => by
    cases h with
    | cons h r =>
      cases h
      rw [bls_of r]
      rfl
theorem ev_all {bs : List Bool} (h : EvR te γ (bs.map .bl)) : EvD (tCB (rAll K) (tCons te tNil)) γ (.bl (bs.all id)) := fun H0 A H σ k Q q =>
  h H0 A H σ k _ fun a us B H1 g ha ru => by
    have e := bls_of ru
    subst e
    exact ⟨a, bs, rfl, SqL.of ha, q _ B H1 g (.bl _)⟩
/-- isinstance(x, one built-in class) -/
def tyN : Dat → String
  | .non => "NoneType" | .bl _ => "bool" | .int _ => "int" | .str _ => "str" | .tup _ => "tuple" | .lst _ => "list" | .dic _ => "dict"
theorem Rep.ty {A H : Hp} (s : Ex A H) {v : V} (h : Rep A v x) : TyX K H v (.type (tyN x)) := by
  cases h with
  | non => exact .base .non
  | bl b => exact .base (.bl b)
  | int i => exact .base (.int i)
  | str x => exact .base (.str x)
  | tup h _ => exact .base (.tup (s _ _ h))
  | lst h _ => exact .base (.lst (s _ _ h))
  | dic h _ => exact .base (.dT (s _ _ h))
theorem ev_isi {n : String} {b : Bool} (h : EvD te γ x) (hb : kitB (tyN x) n = some b) : EvD (tCB (rIsi K) (tCons te (tCons (tC (.ty n)) tNil))) γ (.bl b) := fun H0 A H σ k Q q =>
  h H0 A H σ k _ fun v B H1 g r => ⟨v, .ty n, _, .type n, b, rfl, .ty n, r.ty g.sub, kit_ty hb, q _ B H1 g (.bl b)⟩
theorem et_dictIn {c : Bool} : EvD te γ (.bl c) → EvT (tB te) γ c := et_B
end
end Fr

set_option Elab.async false
set_option linter.all false
set_option maxRecDepth 100000
set_option maxHeartbeats 4000000
namespace Fr
open PySem PySem.Spec PyProof.Rows L2
open Evl (Ex)
/-! # the names of the built-ins are what they were -/
structure Bs (mg : Str → Option Value) : Prop where
  isinstance : mg "isinstance" = none
  int : mg "int" = none
  bool : mg "bool" = none
  tuple : mg "tuple" = none
  list : mg "list" = none
  str : mg "str" = none
  all : mg "all" = none
  len : mg "len" = none
  range : mg "range" = none
  reversed : mg "reversed" = none
  zip : mg "zip" = none
  sum : mg "sum" = none
  max : mg "max" = none
  min : mg "min" = none
  abs : mg "abs" = none
  sorted : mg "sorted" = none
/-- a def that is called -/
structure Cal (P : Program) (w0 : World) (K : PySem.W.Frag) (mg : Str → Option Value) (base : Heap) (x : Str) (ps : List Str) (k : Nat) (R : List Dat → Dat → Prop) (f : Addr) (fd : FuncData) : Prop where
  ok : FnOk P w0 K mg base CX0 k f fd ps (Pr R)
  bd : Binds K fd ps []
  at_ : mg x = some (.ref f)
  kp : PySem.W.keepIn K (.ref f) = true
section
variable {K : PySem.W.Frag} {γ : Gam} {ta tb te : TE} {x y z : Dat} {xs ys : List Dat}
/-! # more of operators -/
theorem r2_inI {i : Int} {ns : List Int} : R2D (rIn K false) (.int i) (.tup (ns.map .int)) (.bl (ns.any fun n => n == i)) := fun A H vx vy s r1 r2 Q q => by
  cases r1
  cases r2 with
  | @tup a us _ h1 R1 =>
    have e := R1.ints
    subst e
    refine ⟨a, ns.map V.int, rfl, .inr (SqT.of (s _ _ h1)), rfl, ?_, ?_⟩
    · rw [List.all_map]
      exact List.all_eq_true.mpr fun _ _ => rfl
    · have e : inV (.int i) (ns.map V.int) = ns.any fun n => n == i := by
        unfold inV
        rw [List.any_map]
        rfl
      show Q (.bl (if false = true then _ else inV (.int i) (ns.map V.int))) H
      rw [if_neg Bool.false_ne_true, e]
      exact q _ A H (Gr.refl s) (.bl _)
theorem r2_is0 : R2D (fun x y H Q => y = .non ∧ Q (.bl (decide (x = .non))) H) .non .non (.bl true) := fun A H vx vy s r1 r2 Q q => by
  cases r1
  cases r2
  exact ⟨rfl, q _ A H (Gr.refl s) (.bl true)⟩
theorem r2_is1 (h : x ≠ .non) : R2D (fun x y H Q => y = .non ∧ Q (.bl (decide (x = .non))) H) x .non (.bl false) := fun A H vx vy s r1 r2 Q q => by
  cases r2
  refine ⟨rfl, ?_⟩
  have e : decide (vx = V.non) = false := decide_eq_false fun z => by
    subst z
    cases r1
    exact h rfl
  rw [e]
  exact q _ A H (Gr.refl s) (.bl false)
end
theorem pg_tupK {X : Cx} {es : List Expr} {k : Nat} {t : TGs} {pos : Pos} {K : PySem.W.Frag} (n : Nat) (hK : X.K = K) (hc : X.calm = true) (h : PGs X es t) (hn : (assignEach es X.env).length = n := by rfl) (hst : (assignEach es X.env).findIdx? (·.1) = none := by rfl) : PG X (.Tuple es k pos) (gTup K n t) := by
  subst hK
  exact pg_tup hc h hn hst
/-! # the library's rules, the written part named K -/
section
variable {X : Cx} {K : PySem.W.Frag}
theorem ix_listK (e : X.K = K) : IxR X (rIxL K) := e ▸ ix_list
theorem ix_tupK (e : X.K = K) : IxR X (rIxT K) := e ▸ ix_tup
theorem sl_tupK (e : X.K = K) : SlR X (rSlA K) := e ▸ sl_tupA
theorem sl_listK (e : X.K = K) : SlR X (rSlL K) := e ▸ sl_list
theorem op_catK (e : X.K = K) : OpR X (binaryOp .Add) (rCatA K) := e ▸ op_catA
theorem op_eqK (e : X.K = K) (hu : X.A.units + 64 < cLine) : OpR X (compareOp .Eq) (rEqD K) := e ▸ op_eqD hu
theorem op_neK (e : X.K = K) (hu : X.A.units + 64 < cLine) : OpR X (compareOp .NotEq) (rNeD K) := e ▸ op_neD hu
theorem op_ltK (e : X.K = K) (hu : X.A.units < cLine) : OpR X (compareOp .Lt) (rLtT K) := e ▸ op_ltT hu
theorem op_inK (e : X.K = K) : OpR X (compareOp .In) (rIn K false) := e ▸ op_in_seq
theorem op_ninK (e : X.K = K) : OpR X (compareOp .NotIn) (rIn K true) := e ▸ op_notIn_seq
theorem op_inDK (e : X.K = K) (hu : X.A.units + 65 < cLine) : OpR X (compareOp .In) (rInD K) := e ▸ op_inD hu
theorem op_ninDK (e : X.K = K) (hu : X.A.units + 65 < cLine) : OpR X (compareOp .NotIn) (rNotInD K) := e ▸ op_notInD hu
theorem call_isiK' (e : X.K = K) : CallR X (.builtin "isinstance") (rIsi K) := e ▸ call_isi
theorem call_isiTK (e : X.K = K) : CallR X (.builtin "isinstance") (rIsiT K) := e ▸ call_isiT
theorem call_lenK (e : X.K = K) : CallR X (.builtin "len") (Evl.rLenS K) := e ▸ call_len_seq
theorem call_tupK (e : X.K = K) : CallR X (.type "tuple") (rTupOf K) := e ▸ call_tupOf
theorem call_listK (e : X.K = K) : CallR X (.type "list") (Evl.rListS K) := e ▸ (call_list_of : CallR X (.type "list") (Evl.rListS X.K))
theorem cr_allK (e : X.K = K) (hc : X.calm = true) : CallR X (.builtin "all") (rAll K) := e ▸ cr_all hc
theorem cr_sumK (e : X.K = K) (hc : X.calm = true) : CallR X (.builtin "sum") (rSum K) := e ▸ cr_sum hc
theorem pi_tupK {tg l : Expr} {tl : TE} (e : X.K = K) (hl : PE X l tl) : PI X tg l (iTup K tl) := e ▸ pi_tup hl
theorem pi_listK {tg l : Expr} {tl : TE} (e : X.K = K) (hl : PE X l tl) : PI X tg l (iList K tl) := e ▸ pi_list hl
end
/-! # isinstance -/
def isaInt : Dat → Bool
  | .int _ => true
  | .bl _ => true
  | _ => false
def isaBool : Dat → Bool
  | .bl _ => true
  | _ => false
def isaTup : Dat → Bool
  | .tup _ => true
  | _ => false
def isaLst : Dat → Bool
  | .lst _ => true
  | _ => false
def isaStr : Dat → Bool
  | .str _ => true
  | _ => false
theorem kit_int (x : Dat) : kitB (tyN x) "int" = some (isaInt x) := by
  cases x with
  | non => exact (by decide +kernel : kitB "NoneType" "int" = some false)
  | bl => exact (by decide +kernel : kitB "bool" "int" = some true)
  | int => exact (by decide +kernel : kitB "int" "int" = some true)
  | str => exact (by decide +kernel : kitB "str" "int" = some false)
  | tup => exact (by decide +kernel : kitB "tuple" "int" = some false)
  | lst => exact (by decide +kernel : kitB "list" "int" = some false)
  | dic => exact (by decide +kernel : kitB "dict" "int" = some false)
theorem kit_bool (x : Dat) : kitB (tyN x) "bool" = some (isaBool x) := by
  cases x with
  | non => exact (by decide +kernel : kitB "NoneType" "bool" = some false)
  | bl => exact (by decide +kernel : kitB "bool" "bool" = some true)
  | int => exact (by decide +kernel : kitB "int" "bool" = some false)
  | str => exact (by decide +kernel : kitB "str" "bool" = some false)
  | tup => exact (by decide +kernel : kitB "tuple" "bool" = some false)
  | lst => exact (by decide +kernel : kitB "list" "bool" = some false)
  | dic => exact (by decide +kernel : kitB "dict" "bool" = some false)
theorem kit_tup (x : Dat) : kitB (tyN x) "tuple" = some (isaTup x) := by
  cases x with
  | non => exact (by decide +kernel : kitB "NoneType" "tuple" = some false)
  | bl => exact (by decide +kernel : kitB "bool" "tuple" = some false)
  | int => exact (by decide +kernel : kitB "int" "tuple" = some false)
  | str => exact (by decide +kernel : kitB "str" "tuple" = some false)
  | tup => exact (by decide +kernel : kitB "tuple" "tuple" = some true)
  | lst => exact (by decide +kernel : kitB "list" "tuple" = some false)
  | dic => exact (by decide +kernel : kitB "dict" "tuple" = some false)
theorem kit_lst (x : Dat) : kitB (tyN x) "list" = some (isaLst x) := by
  cases x with
  | non => exact (by decide +kernel : kitB "NoneType" "list" = some false)
  | bl => exact (by decide +kernel : kitB "bool" "list" = some false)
  | int => exact (by decide +kernel : kitB "int" "list" = some false)
  | str => exact (by decide +kernel : kitB "str" "list" = some false)
  | tup => exact (by decide +kernel : kitB "tuple" "list" = some false)
  | lst => exact (by decide +kernel : kitB "list" "list" = some true)
  | dic => exact (by decide +kernel : kitB "dict" "list" = some false)
theorem kit_str (x : Dat) : kitB (tyN x) "str" = some (isaStr x) := by
  cases x with
  | non => exact (by decide +kernel : kitB "NoneType" "str" = some false)
  | bl => exact (by decide +kernel : kitB "bool" "str" = some false)
  | int => exact (by decide +kernel : kitB "int" "str" = some false)
  | str => exact (by decide +kernel : kitB "str" "str" = some true)
  | tup => exact (by decide +kernel : kitB "tuple" "str" = some false)
  | lst => exact (by decide +kernel : kitB "list" "str" = some false)
  | dic => exact (by decide +kernel : kitB "dict" "str" = some false)
section
variable {K : PySem.W.Frag} {γ : Gam} {te : TE} {x : Dat}
theorem ev_isInt (h : EvD te γ x) : EvD (tCB (rIsi K) (tCons te (tCons (tC (.ty "int")) tNil))) γ (.bl (isaInt x)) := ev_isi h (kit_int x)
theorem ev_isBool (h : EvD te γ x) : EvD (tCB (rIsi K) (tCons te (tCons (tC (.ty "bool")) tNil))) γ (.bl (isaBool x)) := ev_isi h (kit_bool x)
theorem ev_isTup (h : EvD te γ x) : EvD (tCB (rIsi K) (tCons te (tCons (tC (.ty "tuple")) tNil))) γ (.bl (isaTup x)) := ev_isi h (kit_tup x)
theorem ev_isLst (h : EvD te γ x) : EvD (tCB (rIsi K) (tCons te (tCons (tC (.ty "list")) tNil))) γ (.bl (isaLst x)) := ev_isi h (kit_lst x)
theorem ev_isStr (h : EvD te γ x) : EvD (tCB (rIsi K) (tCons te (tCons (tC (.ty "str")) tNil))) γ (.bl (isaStr x)) := ev_isi h (kit_str x)
end
end Fr

set_option Elab.async false
set_option linter.all false
set_option maxRecDepth 100000
set_option maxHeartbeats 4000000
namespace Fr
open PySem PySem.Spec PyProof.Rows L2
open Evl (Ex)
section
variable {K : PySem.W.Frag} {γ δ : Gam} {ta tb te td ty : TE} {tt : TT} {x y z : Dat} {xs ys : List Dat} {es : List (List L2.Key × Dat)} {N M : Gam → Prop} {R : Dat → Gam → Prop} {g : TG} {js vs : List Nat} {α : Type}
/-! # None -/
def isNon : Dat → Bool
  | .non => true
  | _ => false
theorem non_dec {A : Hp} {v : V} (h : Rep A v x) : decide (v = V.non) = isNon x := by
  cases h <;> first | rfl | exact decide_eq_false fun z => nomatch z
theorem r2_isN : R2D (fun x y H Q => y = .non ∧ Q (.bl (decide (x = .non))) H) x .non (.bl (isNon x)) := fun A H vx vy s r1 r2 Q q => by
  cases r2
  refine ⟨rfl, ?_⟩
  rw [non_dec r1]
  exact q _ A H (Gr.refl s) (.bl _)
theorem r2_notN : R2D (fun x y H Q => y = .non ∧ Q (.bl (!decide (x = .non))) H) x .non (.bl (!isNon x)) := fun A H vx vy s r1 r2 Q q => by
  cases r2
  refine ⟨rfl, ?_⟩
  rw [non_dec r1]
  exact q _ A H (Gr.refl s) (.bl _)
/-! # dicts whose keys are tuples of ints -/
def kw (ns : List Int) : List L2.Key := ns.map Sum.inl
theorem kw_inj : ∀ {ns ms : List Int}, kw ns = kw ms → ns = ms
  | [], [], _ => rfl
  | [], m :: ms, h => nomatch h
  | n :: ns, [], h => nomatch h
  | n :: ns, m :: ms, h => by
    have h' : (Sum.inl n : L2.Key) :: kw ns = Sum.inl m :: kw ms := h
    injection h' with h1 h2
    rw [kw_inj h2, Sum.inl.inj h1]
def lk (es : List (List L2.Key × Dat)) (k : List L2.Key) : Option Dat := (es.find? fun p => decide (p.1 = k)).map (·.2)
theorem RepsK.val {H : Hp} (k : List L2.Key) : ∀ {kvs : List (List L2.Key × V)} {es : List (List L2.Key × Dat)}, RepsK H kvs es → (lk es k = none ∧ valV kvs k = none) ∨ ∃ x v, lk es k = some x ∧ valV kvs k = some v ∧ Rep H v x
  | _, _, .nil => .inl ⟨rfl, rfl⟩
  | _, _, @RepsK.cons _ k' v d kvs es h r => by
    unfold lk valV
    by_cases e : k' = k
    · rw [List.find?_cons_of_pos (by simpa using e), List.find?_cons_of_pos (by simpa using e)]
      exact .inr ⟨d, v, rfl, rfl, h⟩
    · rw [List.find?_cons_of_neg (by simpa using e), List.find?_cons_of_neg (by simpa using e)]
      exact RepsK.val k r
theorem RepsK.len {H : Hp} : ∀ {kvs : List (List L2.Key × V)} {es : List (List L2.Key × Dat)}, RepsK H kvs es → kvs.length = es.length
  | _, _, .nil => rfl
  | _, _, .cons _ r => by simp [RepsK.len r]
/-- a dict that may be read -/
def EvK (te : TE) (γ : Gam) (es : List (List L2.Key × Dat)) : Prop := ∀ H0 A H σ, Ok H0 A H σ γ → ∀ Q : VK, (∀ l kvs B H', Gr A H B H' → H' l = some (.dT kvs) → RepsK B kvs es → Q (.ref l) H') → te σ H Q
theorem ek_ofD (h : EvD te γ (.dic es)) : EvK te γ es := fun H0 A H σ k Q q => h H0 A H σ k _ fun v B H1 g r => by
  cases r with
  | dic ha hr => exact q _ _ B H1 g (g.sub _ _ ha) hr
theorem ek_var {i : Nat} (h : γ[i]? = some (Slot.od es)) : EvK (tVar i) γ es := fun H0 A H σ k Q q => by
  obtain ⟨l, vs, a, _, _, b, c⟩ := k.ownD i es h
  exact ⟨_, a, q l vs A H (Gr.refl k.sub) b c⟩
theorem dget_of {B H : Hp} {l b : Addr} {kvs : List (List L2.Key × V)} {ws : List V} {ns : List Int} (hl : H l = some (.dT kvs)) (hb : H b = some (.tup ws)) (e : ws = ns.map V.int) : DGet H l (.ref b) (valV kvs (kw ns)) := by
  have e2 : (kw ns).map kV = ns.map V.int := by
    unfold kw
    rw [List.map_map]
    rfl
  exact .inr ⟨kvs, kw ns, b, .inl hl, rfl, by rw [hb, e, e2], rfl⟩
theorem ev_dget {ns : List Int} (hd : EvK td γ es) (hy : EvD ty γ (w ns)) (h : lk es (kw ns) = some x) : EvD (tDGet td ty) γ x := fun H0 A H σ k Q q =>
  hd H0 A H σ k _ fun l kvs B H1 g1 h1 R1 => hy H0 B H1 σ (k.mono g1) _ fun v C H2 g2 r2 => by
    cases r2 with
    | @tup b ws _ hb rw_ =>
      have dg := dget_of (B := C) (g2.up _ _ h1) (g2.sub _ _ hb) rw_.ints
      rcases (R1.mono g2.view).val (kw ns) with ⟨e, _⟩ | ⟨x', v', e, e2, rv⟩
      · rw [e] at h
        cases h
      · rw [e] at h
        cases h
        rw [e2] at dg
        exact ⟨l, v', rfl, dg, q v' C H2 (g1.trans g2) rv⟩
theorem ev_din {ns : List Int} (hd : EvK td γ es) (hy : EvD ty γ (w ns)) : EvD (tDIn ty td) γ (.bl (lk es (kw ns)).isSome) := fun H0 A H σ k Q q =>
  hy H0 A H σ k _ fun v B H1 g1 r1 => hd H0 B H1 σ (k.mono g1) _ fun l kvs C H2 g2 h2 R2 => by
    cases r1 with
    | @tup b ws _ hb rw_ =>
      have dg := dget_of (B := C) h2 (g2.up _ _ (g1.sub _ _ hb)) rw_.ints
      rcases R2.val (kw ns) with ⟨e, e2⟩ | ⟨x', v', e, e2, _⟩
      · exact ⟨l, _, rfl, dg, by rw [e2]; rw [e] at q; exact q _ C H2 (g1.trans g2) (.bl _)⟩
      · exact ⟨l, _, rfl, dg, by rw [e2]; rw [e] at q; exact q _ C H2 (g1.trans g2) (.bl _)⟩
theorem ev_dnotin {ns : List Int} (hd : EvK td γ es) (hy : EvD ty γ (w ns)) : EvD (tDNotIn ty td) γ (.bl (!(lk es (kw ns)).isSome)) := fun H0 A H σ k Q q =>
  hy H0 A H σ k _ fun v B H1 g1 r1 => hd H0 B H1 σ (k.mono g1) _ fun l kvs C H2 g2 h2 R2 => by
    cases r1 with
    | @tup b ws _ hb rw_ =>
      have dg := dget_of (B := C) h2 (g2.up _ _ (g1.sub _ _ hb)) rw_.ints
      rcases R2.val (kw ns) with ⟨e, e2⟩ | ⟨x', v', e, e2, _⟩
      · exact ⟨l, _, rfl, dg, by rw [e2]; rw [e] at q; exact q _ C H2 (g1.trans g2) (.bl _)⟩
      · exact ⟨l, _, rfl, dg, by rw [e2]; rw [e] at q; exact q _ C H2 (g1.trans g2) (.bl _)⟩
/-! # numbers -/
theorem ev_neg {i : Int} (h : EvD te γ (.int i)) : EvD (tUn (rU fun i => .int (-i)) te) γ (.int (-i)) := fun H0 A H σ k Q q => h H0 A H σ k _ fun v B H1 g r => by
  cases r
  exact ⟨i, rfl, q _ B H1 g (.int _)⟩
theorem ev_bits {i : Int} (h : EvD te γ (.int i)) : EvD (tBits te) γ (.int (Builtin.Int.intBits i : Nat)) := fun H0 A H σ k Q q => h H0 A H σ k _ fun v B H1 g r => by
  cases r
  exact ⟨i, rfl, q _ B H1 g (.int _)⟩
theorem r2_modN {i j : Int} (h : j ≠ 0) : R2D (rI (fun _ j => j ≠ 0) fun i j => .int (i.fmod j)) (.int i) (.int j) (.int (i.fmod j)) := r2_I h fun _ => .int _
theorem r2_fdivN {i j : Int} (h : CDivN i j) : R2D (rI CDivN fun i j => .int (i.fdiv j)) (.int i) (.int j) (.int (i.fdiv j)) := r2_I h fun _ => .int _
theorem r2_shr {i j : Int} (h : 0 ≤ j) : R2D (rI (fun _ j => 0 ≤ j) fun i j => .int (i / 2 ^ j.toNat)) (.int i) (.int j) (.int (i / 2 ^ j.toNat)) := r2_I h fun _ => .int _
theorem r2_and {i j : Int} : R2D (rI0 fun i j => .int (Builtin.bitAnd i j)) (.int i) (.int j) (.int (Builtin.bitAnd i j)) := r2_I0 fun _ => .int _
theorem r2_mul {i j : Int} (h : CMul i j) : R2D (rI CMul fun i j => .int (i * j)) (.int i) (.int j) (.int (i * j)) := r2_I h fun _ => .int _
/-! # a list's truth -/
theorem et_truL (h : EvR te γ xs) : EvT (fun σ H Q => te σ H fun x H' => ∃ k, TruV K x H' k ∧ Q k H') γ (!xs.isEmpty) := fun H0 A H σ k Q q => h H0 A H σ k _ fun l us B H1 g h1 r => by
  refine ⟨!xs.isEmpty, .inl ⟨us, SqL.of h1, ?_⟩, q B H1 g⟩
  cases r <;> rfl
/-! # xs.extend(a tuple) -/
def rExtT (K : PySem.W.Frag) : V → List V → Hp → VK → Prop := fun x vs H Q => ∃ l b xs zs, x = .ref l ∧ vs = [.ref b] ∧ H l = some (.lst xs) ∧ SqT K H b zs ∧ xs.length + zs.length ≤ sizeLine ∧ Q .non (upd H l (.lst (xs ++ zs)))
end
theorem ext_meets (l b : Addr) (items items2 : Array Value) (n n2 : Nat) (dd : Option Addr) (sl : Array (Option Value)) (hs0 : ¬(!items.isEmpty && Builtin.List.listTooLong (items.size + items2.size)) = true) (hs1 : items.size ≤ sizeLine) (hs2 : items.size + items2.size ≤ sizeLine + 1) :
    Meets (Builtin.«list.extend» ⟨[.ref l, .ref b], []⟩) (fun _ R s => s.heap.get? l = some { cls := .type "list", dict := none, data := .seq items n, slots := #[] } ∧ s.heap.get? b = some { cls := .type "tuple", dict := dd, data := .seq items2 n2, slots := sl } ∧
      R (.ok (.ret Value.none)) { s with heap := s.heap.update l (Obj.mapSeq fun x => x ++ items2), toks := s.toks }) :=
  .of_wp fun prog w A R s h => by
    obtain ⟨hp, g, d, tk, os⟩ := s
    obtain ⟨hl, hb, h⟩ := h
    have f1 := AutoSeq1.idx_int
    have f2 := AutoSeq1.sub_tuple_tuple
    have f3 := AutoSeq1.sub_list_list
    have f4 := AutoSeq1.sub_tuple_list
    have f5 := AutoSeq1.sub_list_tuple
    have hz' : (items ++ items2).size ≤ sizeLine + 1 := by rw [Array.size_append]; exact hs2
    wp_walk using (PySem.wpAny_updateSeq hl rfl (hz := hs1) (_hz' := hz')), AutoSeq1.wpAny_loadPart' hl, AutoSeq1.wpAny_loadPart' hb
    exact ⟨_, rfl, h⟩
theorem mt_extT {X : Cx} : MtM X "list.extend" (rExtT X.K) := by
  intro pins s σ H x vs v us Q I rx rv h
  obtain ⟨l, b, xs, zs, rfl, rfl, hH, hB, hz, q⟩ := h
  cases rx
  obtain ⟨u, rfl, ru⟩ := rv.one
  cases ru
  obtain ⟨z, its, n, r, hl, e⟩ := I.lstM hH
  obtain ⟨its2, r2, ⟨⟨cls, dd, data, sl⟩, ho, hc, n2, hd⟩, hl2⟩ := I.tuple hB
  simp only at hc hd
  subst hc hd
  have len2 : its2.length = zs.length := r2.length.symm
  have both : its.toArray.size + its2.toArray.size ≤ sizeLine := by rw [List.size_toArray, List.size_toArray]; omega
  have short : ¬ (!its.toArray.isEmpty && Builtin.List.listTooLong (its.toArray.size + its2.toArray.size)) = true := by
    rw [notLongL both, Bool.and_false]
    exact Bool.false_ne_true
  refine call_meets F.slot_list_extend ⟨_, e, rfl⟩ F.entry_list_extend (F.args_list_extend_2 _ _) (ext_meets l b its.toArray its2.toArray n n2 dd sl short (by omega) (by omega)) ⟨e, ho, ?_⟩
  refine ⟨.non, _, I.lset (its' := its ++ its2) hH e (by simp) (r.append r2) (by rw [List.length_append]; omega), rfl, q⟩
section
variable {K : PySem.W.Frag} {γ : Gam} {te : TE} {xs ys : List Dat} {N : Gam → Prop} {R : Dat → Gam → Prop}
theorem run_ext {i : Nat} (h : γ[i]? = some (Slot.o xs)) (he : EvD te γ (.tup ys)) (hz : xs.length + ys.length ≤ sizeLine) (hn : N (γ.set i (.o (xs ++ ys)))) : Run (tDrop (tBM K "list" (rExtT K) (tVar i) (tCons te tNil))) γ N R := fun A0 H0 A H σ g0 k D dn dr => by
  obtain ⟨l, vs, e, h0, hA, hH, r⟩ := k.own i xs h
  refine ⟨.ref l, e, .inl ⟨rfl, vs, SqL.of hH⟩, he H0 A H σ k _ fun v B H1 g1 r1 => ?_⟩
  have k1 := k.mono g1
  have hB := g1.hid l _ hH True.intro hA
  cases r1 with
  | @tup b us _ hb ru =>
    refine ⟨l, b, vs, us, rfl, rfl, g1.up _ _ hH, SqT.of (g1.sub _ _ hb), by rw [r.len, ru.len]; exact hz, ?_⟩
    exact dn _ B _ σ hn ((g0.trans g1).mut h0 hB) g1.view (k1.change h e ((r.mono g1.view).app ru))
end
end Fr

set_option Elab.async false
set_option linter.all false
set_option maxRecDepth 100000
set_option maxHeartbeats 4000000
namespace Fr
open PySem PySem.Spec PyProof.Rows L2
open Evl (Ex)
theorem tkr {prog : Program} {w0 : World} {κ : Type} [DecidableEq κ] {knd : PySem.KeyKind prog w0 κ} {A : Around} (hu : A.units + 1 < cLine) : (tupleKind knd).room A := by
  show A.units < cLine
  omega
/-- a new dict gets an entry under a tuple -/
theorem dict_set_t {X : Cx} {pins : List (Addr × Obj)} {σ : L2.St} {H : Hp} {s : Shared} {E : Value → Shared → Prop} {D c : Addr} {kvs : List (List L2.Key × V)} {k : List L2.Key} {v : V} {u r : Value} {Q : Unit → Shared → Prop} (hu : X.A.units + 1 < cLine) (I : Inv X pins σ H s) (hD : H D = some (.dT kvs))
    (hz : kvs.length < sizeLine) (hc : H c = some (.tup (k.map kV))) (ry : L2.RelV (.ref c) u) (rv : L2.RelV v r) (h : ∀ s', Inv X pins σ (upd H D (.dT (putK kvs k v))) s' → Q () s') : wpAny (model X.prog X.w) X.A (dictSet D u r) Q E s := by
  cases (show u = Value.ref c from ry)
  obtain ⟨z, hd, ws, rel, dd⟩ := dt_of I.hok hD
  have room : ws.length ≤ sizeLine := by rw [← Paired.length rel]; exact z
  have more : (putK kvs k v).length ≤ sizeLine := by have := length_putK kvs k v; omega
  refine wpAny_dictSet_heap (hsz := room) (tkr hu) (key_of I.hok hc) dd fun h' dd' hs => h _ ?_
  obtain ⟨q, es, ep, hq, h2, h3, h4, _, h5⟩ := dd'
  refine d_write I (by rw [hD]; exact True.intro) hs ⟨q, hq⟩ ⟨more, hd, _, (rel.put k hc rv).keeps fun b ys eb => ?_, q, es, ep, hq, h2, h3, h4, h5⟩
  rw [upd_ne (ne_of eb hD (fun z => nomatch z))]
  exact eb
section
variable {X : Cx}
/-- one turn of {k: v for target in iter if ..}, keys tuples: from x to what Nx says -/
def tTurnT (g : TG) (tt : TT) (tk tv : TE) (vs : List Nat) (σ : L2.St) (D : Addr) (Nx : Hp → Prop) (x : V) (H : Hp) : Prop :=
  g x (wipe σ vs) H fun σ2 H2 => wipe σ2 vs = wipe σ vs ∧ tt σ2 H2 fun b H3 =>
    if b = true then tk σ2 H3 fun y H4 => tv σ2 H4 fun z H5 => ∃ kvs k c, y = .ref c ∧ H5 c = some (.tup (k.map kV)) ∧ H5 D = some (.dT kvs) ∧ kvs.length < sizeLine ∧ Nx (upd H5 D (.dT (putK kvs k z))) else Nx H3
/-- the whole: D the new dict, W a word that falls -/
def tDcT (wi : TI) (g : TG) (tt : TT) (tk tv : TE) (vs : List Nat) : TE := fun σ H Q => wi σ H fun J H1 => ∀ D, H1 D = none → ∃ W : Nat → Nat → Hp → Prop, (∃ m, W 0 m (upd H1 D (.dT []))) ∧
  ∀ i m H, W i m H → (J.stop i H ∧ Q (.ref D) H) ∨ (J.go i H ∧ ∃ Nx : Hp → Prop, (∀ H', Nx H' → ∃ m', m' < m ∧ W (i + 1) m' H') ∧ ∀ x H', J.yld i H x H' → tTurnT g tt tk tv vs σ D Nx x H')
/-- the block's context -/
abbrev Bk (X : Cx) (scope : Scope) (s : Shared) (H : Hp) (C : Addr) (cl : List (Str × Addr)) (fp : List Addr) : Cx := X.blk s H scope (compEnvC scope cl C X.env) fp
theorem dcT_run {pins : List (Addr × Obj)} {s : Shared} {σ : L2.St} {H : Hp} {Q : VK} {kx vx tg iter : Expr} {ifs : List Expr} {scope : Scope} {own : List (Str × Nat)} {pos pos' : Pos} {wi : TI} {g : TG} {tt : TT} {tk tv : TE} {use : Option (Value → Sem Unit)} {Qf : Value → Shared → Prop} (hu : X.A.units + 1 < cLine)
    (calm : X.calm = true) (nd : X.N.Nodup) (I : Inv X pins σ H s) (walk : PI X tg iter wi) (blk : BlkOk X.N X.env.scope scope own) (pg : ∀ s H C cl fp, PG (Bk X scope s H C cl fp) tg g) (pt : ∀ s H C cl fp, PTs (Bk X scope s H C cl fp) ifs tt) (pk : ∀ s H C cl fp, PE (Bk X scope s H C cl fp) kx tk) (pv : ∀ s H C cl fp, PE (Bk X scope s H C cl fp) vx tv)
    (plain : ∀ x, foldedSetIterable iter X.env x = pure x) (h : tDcT wi g tt tk tv (own.map (·.2)) σ H Q)
    (back : ∀ D C s' m H', Inv X pins σ H' s' → Q (.ref D) H' → s'.heap.Ns C m → FpOk X pins H' C → compPost (model X.prog X.w) X.A X.xe use Qf (.ref D) C (.ok .next) s') :
    wpAny (model X.prog X.w) X.A (comprehension (.DictComp kx vx [⟨tg, iter, ifs, 0⟩] scope pos) scope X.env pos' newDict false (eval iter X.env) use) Qf X.xe s := by
  have free : ∀ y ∈ scope.names, y.2 = .free → ∃ c, X.env.cells.lookup y.1 = some c := fun y hy e => (blk.free y hy e).elim (fun k => I.ok.has _ (.inl k)) fun k => I.ok.has _ (.inr k)
  refine wpAny_comprehension_free (use := use) rfl plain (closure_ok free) blk.kind (fun y hy e => by rw [blk.uniq y hy, e]) (thn (walk.run pins s σ H _ I h) fun xv sA hx => thn hx fun itv sB hB => ?_)
  obtain ⟨it, fp, tn, J, HB, rfl, IB, T, stB, fB, q⟩ := hB
  refine wpAny_newObj_type (newEnv_comp ?_)
  generalize eD : sB.heap.objs.size = D
  have freeD : HB D = none := IB.hok.fresh (Nat.le_of_eq eD)
  obtain ⟨W, ⟨m0, w0⟩, turn⟩ := q D freeD
  generalize eC : ({ sB with heap := sB.heap.push { cls := .type "dict", data := .dict #[] } } : Shared) = sC
  have IC : Inv X pins σ (upd HB D (.dT [])) sC := by
    subst eC
    refine IB.laid (t' := sB.toks) (fun b o e => Heap.get?_push_of_some _ e) (Nat.le_of_eq eD) ?_
    subst eD
    exact dt_empty sB.heap IB.big
  have hpC : sC.heap = sB.heap.push { cls := .type "dict", data := .dict #[] } := by rw [← eC]
  have low : ∀ b ∈ fp, b < sB.heap.objs.size := fun b hb => let ⟨_, e, _⟩ := T.obj _ _ stB b hb; Heap.lt_size e
  have fC : ∀ b ∈ fp, FpOk X pins (upd HB D (.dT [])) b ∧ b < sC.heap.objs.size := fun b hb => by
    refine ⟨⟨?_, (fB b hb).2⟩, by rw [hpC, Heap.size_push]; exact Nat.lt_succ_of_lt (low b hb)⟩
    rw [upd_ne (by rw [← eD]; exact Nat.ne_of_lt (low b hb))]
    exact (fB b hb).1
  have stC : tn 0 sC.heap := T.keep _ _ _ stB fun b _ o e => by rw [hpC]; exact Heap.get?_push_of_some _ e
  have IE := block_start IC blk nd fC
  have noFp : ∀ b ∈ fp, (upd HB D (.dT [])) b = none := fun b hb => (fC b hb).1.1
  have pg' := pg sC (upd HB D (.dT [])) sC.heap.objs.size (cellsFrom (sC.heap.objs.size + 1) scope.names (cloFrom X.env.cells scope.names [])) fp
  have pt' := pt sC (upd HB D (.dT [])) sC.heap.objs.size (cellsFrom (sC.heap.objs.size + 1) scope.names (cloFrom X.env.cells scope.names [])) fp
  have pk' := pk sC (upd HB D (.dT [])) sC.heap.objs.size (cellsFrom (sC.heap.objs.size + 1) scope.names (cloFrom X.env.cells scope.names [])) fp
  have pv' := pv sC (upd HB D (.dT [])) sC.heap.objs.size (cellsFrom (sC.heap.objs.size + 1) scope.names (cloFrom X.env.cells scope.names [])) fp
  show codeAny _ _ (.compStart (.DictComp kx vx [⟨tg, iter, ifs, 0⟩] scope pos) 0 (.ref it) (.ref D) (compEnvC scope (cellsFrom (sC.heap.objs.size + 1) scope.names (cloFrom X.env.cells scope.names [])) sC.heap.objs.size X.env)) (compPost _ X.A X.xe use Qf (.ref D) sC.heap.objs.size) { sC with heap := pushCells (sC.heap.push { cls := .type "dict", data := .dict #[] }) scope.names }
  unfold Bk at pg' pt' pk' pv'
  generalize eEnv : compEnvC scope (cellsFrom (sC.heap.objs.size + 1) scope.names (cloFrom X.env.cells scope.names [])) sC.heap.objs.size X.env = env2 at IE pg' pt' pk' pv' ⊢
  have locE : env2.locals = sC.heap.objs.size := by subst eEnv; rfl
  generalize eHC : upd HB D (.dT []) = HC at IC IE pg' pt' pk' pv' w0 noFp fC
  generalize eS : ({ sC with heap := pushCells (sC.heap.push { cls := .type "dict", data := .dict #[] }) scope.names } : Shared) = sE at IE ⊢
  have stE : tn 0 sE.heap := T.keep _ _ _ stC fun b _ o e => by rw [← eS]; exact pushCells_keeps _ _ _ _ (Heap.get?_push_of_some _ e)
  have standing : ∀ {σ' : L2.St} {H' : Hp} {s' : Shared}, Inv (X.blk sC HC scope env2 fp) [] σ' H' s' → (∀ b ∈ fp, H' b = none) → ∀ b ∈ fp, FpOk (X.blk sC HC scope env2 fp) [] H' b := fun {σ' H' s'} I' hn b hb =>
    ⟨hn b hb, (I'.ok.exf b hb).1, I'.ok.exfs b hb, .inl hb, fun x c e => (I'.ok.exf b hb).2 x c e, fun p hp => absurd (show p ∈ ([] : List (Addr × Obj)) ++ [] from hp) (by simp)⟩
  have loop : codeAny (model X.prog X.w) X.A (.compLoop (.DictComp kx vx [⟨tg, iter, ifs, 0⟩] scope pos) 0 (.ref it) (.ref D) env2) (compPost (model X.prog X.w) X.A X.xe use Qf (.ref D) sC.heap.objs.size) sE := by
    refine compLoop_anyD (fun n s' => ∃ i H', Inv (X.blk sC HC scope env2 fp) [] (wipe σ (own.map (·.2))) H' s' ∧ tn i s'.heap ∧ (∀ b ∈ fp, H' b = none) ∧ W i n H') ?_ m0 ⟨0, HC, IE, stE, noFp, w0⟩
    rintro n sF ⟨i, HF, IF, stF, nF, wF⟩
    rcases turn i n HF wF with ⟨ends, done⟩ | ⟨goes, Nx, falls, step⟩
    · refine thnF (T.done (X.blk sC HC scope env2 fp) rfl rfl rfl calm i [] sF _ HF (fun _ _ => False) IF (standing IF nF) stF ends) fun r sG ⟨hr, IG⟩ => ?_
      subst hr
      have home : Inv X pins σ HF sG := IC.call' (ch := fp) IG.os IG.base IG.hok IG.bare fun b hb => ⟨(fC b hb).1.2.2.2.1, (fC b hb).1.2.1, (fC b hb).1.2.2.2.2.1, (fC b hb).1.2.2.2.2.2⟩
      have none2 : HF sC.heap.objs.size = none := locE ▸ (show HF env2.locals = none from IG.free)
      obtain ⟨m, ns, _⟩ := IG.loc
      have ns : sG.heap.Ns env2.locals m := ns
      rw [locE] at ns
      exact back D sC.heap.objs.size sG m HF home done ns (IC.fpOk (Nat.le_refl _) none2)
    · refine thnF (T.item (X.blk sC HC scope env2 fp) rfl rfl rfl calm i [] sF _ HF (fun _ _ => False) IF (standing IF nF) stF goes) fun r sG ⟨u, hr, hG⟩ => ?_
      subst hr
      refine thnF hG fun _ sK ⟨x, HK, IK, rK, yK, stK, nK⟩ => ?_
      have pinned := IK.pinned (standing IK nK) (T.obj _ _ stK)
      refine thnF (pg'.run _ sK _ HK x u _ pinned rK (step x HK yK)) fun _ sL ⟨σL, HL, IL, eL, qL⟩ => ?_
      refine thnF (pt'.run _ sL σL HL _ IL qL) fun b sM ⟨HM, IM, qM⟩ => ?_
      have onward : ∀ {s' : Shared} {H' : Hp}, Inv (X.blk sC HC scope env2 fp) ([] ++ pinsAt fp sK.heap) σL H' s' → Nx H' → ∃ m, m < n ∧ ∃ i H', Inv (X.blk sC HC scope env2 fp) [] (wipe σ (own.map (·.2))) H' s' ∧ tn i s'.heap ∧ (∀ b ∈ fp, H' b = none) ∧ W i m H' := fun {s' H'} I' nx => by
        obtain ⟨m', hm, w'⟩ := falls H' nx
        have kept : ∀ b ∈ fp, ∀ o, sK.heap.get? b = some o → s'.heap.get? b = some o ∧ H' b = none := fun b hb o e =>
          let z := I'.pin (b, o) (List.mem_append_right _ (List.mem_append_right _ (mem_pinsAt hb e)))
          ⟨z.1, z.2.1⟩
        have same : (wipe σ (own.map (·.2))).length = σL.length := by rw [← eL, wipe_length]
        refine ⟨m', hm, i + 1, H', (I'.unpinned (pins := [])).weak same (fun j v e => ?_), T.keep _ _ _ stK fun b hb o e => (kept b hb o e).1, fun b hb => ?_, w'⟩
        · rw [← eL] at e
          exact (wipe_some e).1
        · obtain ⟨o, e, _⟩ := T.obj _ _ stK b hb
          exact (kept b hb o e).2
      cases b with
      | false =>
        simp only [Bool.false_eq_true, if_false] at qM ⊢
        exact onward IM qM
      | true =>
        simp only [if_true] at qM ⊢
        refine thnF (pk'.run _ sM σL HM _ IM qM) fun z sO ⟨yk, HO', IO, rO, qO⟩ => ?_
        refine thnF (pv'.run _ sO σL HO' _ IO qO) fun z2 sP ⟨yv, HP, IP, rP, kvs, k, kc, ek, hkc, hDP, hzP, nx⟩ => ?_
        subst ek
        exact dict_set_t (X := X.blk sC HC scope env2 fp) hu IP hDP hzP hkc rO rP fun sQ IQ => onward IQ nx
  exact codeAny_compStart_dict loop (T.self X.A 0 _ _ _ stE loop)
theorem pe_dcT {kx vx tg iter : Expr} {ifs : List Expr} {scope : Scope} {own : List (Str × Nat)} {pos : Pos} {wi : TI} {g : TG} {tt : TT} {tk tv : TE} (hu : X.A.units + 1 < cLine) (calm : X.calm = true) (nd : X.N.Nodup) (walk : PI X tg iter wi) (blk : BlkOk X.N X.env.scope scope own) (pg : ∀ s H C cl fp, PG (Bk X scope s H C cl fp) tg g)
    (pt : ∀ s H C cl fp, PTs (Bk X scope s H C cl fp) ifs tt) (pk : ∀ s H C cl fp, PE (Bk X scope s H C cl fp) kx tk) (pv : ∀ s H C cl fp, PE (Bk X scope s H C cl fp) vx tv) (plain : ∀ x, foldedSetIterable iter X.env x = pure x := by intro _; rfl) :
    PE X (.DictComp kx vx [⟨tg, iter, ifs, 0⟩] scope pos) (tDcT wi g tt tk tv (own.map (·.2))) := by
  refine ⟨fun pins s σ H Q I h => ?_⟩
  rw [arm_eval_DictComp]
  refine dcT_run hu calm nd I walk blk pg pt pk pv plain h fun D C s' m H' I' q hn f => ⟨m, hn, fun h'' sb => ?_⟩
  obtain ⟨f0, f1, f2, f3, f4, f5⟩ := f
  exact ⟨.ref D, H', I'.turned (t' := s'.toks) (fun b o hb e => (sb.2 b hb).trans e) f0 f1 f3 f4 f5, rfl, q⟩
end
end Fr

set_option Elab.async false
set_option linter.all false
set_option maxRecDepth 100000
set_option maxHeartbeats 4000000
namespace Fr
open PySem PySem.Spec PyProof.Rows L2
open Evl (Ex)
/-! # a dict comprehension gives -/
def putE (es : List (List L2.Key × Dat)) (k : List L2.Key) (x : Dat) : List (List L2.Key × Dat) :=
  if (es.any fun e => decide (e.1 = k)) = true then es.map (fun e => if e.1 = k then (e.1, x) else e) else es ++ [(k, x)]
section
variable {H : Hp}
theorem RepsK.any (k : List L2.Key) : ∀ {kvs : List (List L2.Key × V)} {es : List (List L2.Key × Dat)}, RepsK H kvs es → (kvs.any fun e => decide (e.1 = k)) = (es.any fun e => decide (e.1 = k))
  | _, _, .nil => rfl
  | _, _, .cons h r => by
    rw [List.any_cons, List.any_cons, RepsK.any k r]
theorem RepsK.app : ∀ {vs us : List (List L2.Key × V)} {ds es : List (List L2.Key × Dat)}, RepsK H vs ds → RepsK H us es → RepsK H (vs ++ us) (ds ++ es)
  | _, _, _, _, .nil, s => s
  | _, _, _, _, .cons h r, s => .cons h (RepsK.app r s)
theorem RepsK.repl {k : List L2.Key} {v : V} {x : Dat} (hv : Rep H v x) : ∀ {kvs : List (List L2.Key × V)} {es : List (List L2.Key × Dat)}, RepsK H kvs es → RepsK H (kvs.map fun e => if e.1 = k then (e.1, v) else e) (es.map fun e => if e.1 = k then (e.1, x) else e)
  | _, _, .nil => .nil
  | _, _, @RepsK.cons _ k' v' d' kvs es h r => by
    rw [List.map_cons, List.map_cons]
    by_cases e : k' = k
    · rw [if_pos e, if_pos e]
      exact .cons hv (RepsK.repl hv r)
    · rw [if_neg e, if_neg e]
      exact .cons h (RepsK.repl hv r)
theorem RepsK.put {k : List L2.Key} {v : V} {x : Dat} {kvs : List (List L2.Key × V)} {es : List (List L2.Key × Dat)} (r : RepsK H kvs es) (hv : Rep H v x) : RepsK H (putK kvs k v) (putE es k x) := by
  unfold putK putE
  rw [r.any k]
  split
  · exact r.repl hv
  · exact r.app (.cons hv .nil)
theorem putE_len (es : List (List L2.Key × Dat)) (k : List L2.Key) (x : Dat) : (putE es k x).length ≤ es.length + 1 := by
  unfold putE
  split <;> simp
end
def putAll {α : Type} (l : List α) (kf : α → List Int) (vf : α → Dat) : List (List L2.Key × Dat) := l.foldl (fun es a => putE es (kw (kf a)) (vf a)) []
theorem putAll_more {α : Type} {l : List α} {kf : α → List Int} {vf : α → Dat} {i : Nat} {a : α} (h : l[i]? = some a) : putAll (l.take (i + 1)) kf vf = putE (putAll (l.take i) kf vf) (kw (kf a)) (vf a) := by
  unfold putAll
  rw [List.take_add_one, h, List.foldl_append]
  rfl
theorem putAll_len {α : Type} (kf : α → List Int) (vf : α → Dat) : ∀ l : List α, (putAll l kf vf).length ≤ l.length := by
  intro l
  have gen : ∀ (l : List α) (es : List (List L2.Key × Dat)), (l.foldl (fun es a => putE es (kw (kf a)) (vf a)) es).length ≤ es.length + l.length := by
    intro l
    induction l with
    | nil => intro es; simp
    | cons a l ih =>
      intro es
      have h1 := ih (putE es (kw (kf a)) (vf a))
      have h2 := putE_len es (kw (kf a)) (vf a)
      rw [List.foldl_cons, List.length_cons]
      omega
  have := gen l []
  simpa [putAll] using this
/-- a new dict of its own -/
def EvM (te : TE) (γ : Gam) (es : List (List L2.Key × Dat)) : Prop := ∀ H0 A H σ, Ok H0 A H σ γ → ∀ Q : VK, (∀ l kvs B H', Gr A H B H' → H l = none → B l = none → H' l = some (.dT kvs) → RepsK B kvs es → Q (.ref l) H') → te σ H Q
section
variable {K : PySem.W.Frag} {γ δ : Gam} {ta tb te tl tk tv : TE} {tt : TT} {x y z : Dat} {xs ys : List Dat} {es : List (List L2.Key × Dat)} {N M : Gam → Prop} {R : Dat → Gam → Prop} {g : TG} {js vs : List Nat} {α : Type} {tu : TS}
theorem em_is {es' : List (List L2.Key × Dat)} (h : EvM te γ es) (e : es = es') : EvM te γ es' := e ▸ h
theorem ev_ofM (h : EvM te γ es) : EvD te γ (.dic es) := fun H0 A H σ k Q q => h H0 A H σ k _ fun l vs B H1 g hl hB h1 r => by
  have g2 := g.show h1 hl hB
  exact q _ _ H1 g2 (.dic upd_same (r.mono (Ex.new hB)))
theorem run_asgM {i : Nat} (h : EvM te γ es) (hn : N (γ.set i (.od es))) : Run (tAsg te (gName i)) γ N R := fun A0 H0 A H σ g0 k D dn dr =>
  h H0 A H σ k _ fun l vs B H1 g1 hl hB h1 r1 => by
    have k1 := k.mono g1
    refine dn _ B H1 _ hn (g0.trans g1) g1.view (k1.setM i (fun j t hj mt e => ?_) (fun _ z => nomatch z) (fun _ _ z => nomatch z) (fun _ _ z => nomatch z) (fun _ z => nomatch z) fun _ z => by cases z; exact ⟨vs, Evl.fresh_back g0.up hl, hB, h1, r1⟩)
    obtain ⟨a, o, e2, _, _, e3⟩ := k.addr hj mt
    rw [e2] at e
    cases e
    rw [hl] at e3
    cases e3
def CPd (l : List α) (kf : α → List Int) (vf : α → Dat) (B H1 : Hp) (D : Addr) (i : Nat) (H' : Hp) : Prop := ∃ C kvs, Gr B H1 C H' ∧ C D = none ∧ H' D = some (.dT kvs) ∧ RepsK C kvs (putAll (l.take i) kf vf)
theorem cpd_zero {l : List α} {kf : α → List Int} {vf : α → Dat} {B H1 : Hp} {D : Addr} (s : Ex B H1) (hD : H1 D = none) : CPd l kf vf B H1 D 0 (upd H1 D (.dT [])) :=
  ⟨B, [], Gr.newU s hD, Evl.fresh_back s hD, upd_same, .nil⟩
theorem cpd_turn {l : List α} {kf : α → List Int} {vf : α → Dat} {H0 B H1 : Hp} {σ : L2.St} {D : Addr} {i : Nat} {H' H'' : Hp} {a : α} {xv : V} (k : Ok H0 B H1 σ γ) (hD : H1 D = none) (hz : l.length < sizeLine) (hi : l[i]? = some a) (p : CPd l kf vf B H1 D i H')
    (e2 : H'' = H') (hx : ∀ C, Ex B C → Rep C xv x) (hj : ∀ j ∈ js, j ∈ vs) (ht : Tg g js (wipeG γ vs) x δ) (hf : EvT tt δ true) (hk : EvD tk δ (w (kf a))) (he : EvD tv δ (vf a)) :
    tTurnT g tt tk tv vs σ D (CPd l kf vf B H1 D (i + 1)) xv H'' := by
  subst e2
  obtain ⟨C, kvs, gC, cD, hAcc, rAcc⟩ := p
  refine ht H0 C H'' _ xv ((k.mono gC).wipe vs) (hx C gC.view) _ fun σ2 k2 hl hoff => ⟨wipe_back hl hoff hj, ?_⟩
  refine hf H0 C H'' σ2 k2 _ fun C2 H3 g2 => ?_
  have cD2 : C2 D = none := g2.hid D _ hAcc True.intro cD
  refine hk H0 C2 H3 σ2 (k2.mono g2) _ fun kv C3 H4 g3 r3 => ?_
  have cD3 : C3 D = none := g3.hid D _ (g2.up _ _ hAcc) True.intro cD2
  refine he H0 C3 H4 σ2 (k2.mono (g2.trans g3)) _ fun yv C4 H5 g4 r4 => ?_
  have hD5 : H5 D = some (.dT kvs) := g4.up _ _ (g3.up _ _ (g2.up _ _ hAcc))
  have cD4 : C4 D = none := g4.hid D _ (g3.up _ _ (g2.up _ _ hAcc)) True.intro cD3
  have lz : kvs.length ≤ i := by
    rw [rAcc.len]
    exact Nat.le_trans (putAll_len _ _ _) (by rw [List.length_take]; exact Nat.min_le_left _ _)
  have il : i < l.length := (List.getElem?_eq_some_iff.mp hi).1
  cases r3 with
  | @tup c ws _ hc rw_ =>
    have ew : ws = (kw (kf a)).map kV := by
      rw [rw_.ints]
      unfold kw
      rw [List.map_map]
      rfl
    refine ⟨kvs, kw (kf a), c, rfl, by rw [g4.up _ _ (g3.sub _ _ hc), ew], hD5, by omega, C4, _, (((gC.trans g2).trans g3).trans g4).mut hD cD4, cD4, upd_same, ?_⟩
    rw [putAll_more hi]
    exact (rAcc.mono ((g2.view.trans g3.view).trans g4.view)).put r4
/-- over anything that walks -/
theorem dcT_it {J : It} {n : Nat} {G : Hp → Prop} {Y : Nat → Hp → V → Hp → Prop} (wk : Walk J n G Y) {σ : L2.St} {H1 : Hp} {D : Addr} {Qd : Hp → Prop} (Pv : Nat → Hp → Prop) (h0 : Pv 0 (upd H1 D (.dT []))) (hG : ∀ i H, i ≤ n → Pv i H → G H)
    (hs : ∀ i x H H', i < n → Pv i H → Y i H x H' → tTurnT g tt tk tv vs σ D (Pv (i + 1)) x H') (hd : ∀ H, Pv n H → Qd H) :
    ∃ W : Nat → Nat → Hp → Prop, (∃ m, W 0 m (upd H1 D (.dT []))) ∧ ∀ i m H, W i m H → (J.stop i H ∧ Qd H) ∨ (J.go i H ∧ ∃ Nx : Hp → Prop, (∀ H', Nx H' → ∃ m', m' < m ∧ W (i + 1) m' H') ∧ ∀ x H', J.yld i H x H' → tTurnT g tt tk tv vs σ D Nx x H') := by
  refine ⟨fun i m H => m + i = n ∧ Pv i H, ⟨n, rfl, h0⟩, ?_⟩
  rintro i m H ⟨e, p⟩
  have q := hG i H (by omega) p
  cases m with
  | zero =>
    have e : i = n := by omega
    subst e
    exact .inl ⟨wk.stops H q, hd H p⟩
  | succ m => exact .inr ⟨wk.goes i H (by omega) q, Pv (i + 1), fun H' p' => ⟨m, by omega, by omega, p'⟩, fun x H' y => hs i x H H' (by omega) p (wk.yields i H x H' (by omega) q y)⟩
theorem em_dcT {l : List α} {enc : α → Dat} {kf : α → List Int} {vf : α → Dat} (h : EvD tl γ (.tup (l.map enc))) (hj : ∀ j ∈ js, j ∈ vs) (hz : l.length < sizeLine)
    (hs : ∀ a ∈ l, ∃ δ, Tg g js (wipeG γ vs) (enc a) δ ∧ EvT tt δ true ∧ EvD tk δ (w (kf a)) ∧ EvD tv δ (vf a)) : EvM (tDcT (iTup K tl) g tt tk tv vs) γ (putAll l kf vf) := fun H0 A H σ k Q q =>
  h H0 A H σ k _ fun sv B H1 g1 r1 => by
    cases r1 with
    | @tup a us _ ha ru =>
      have hlen : us.length = l.length := by rw [ru.len, List.length_map]
      refine ⟨a, rfl, ⟨us, SqT.of (g1.sub _ _ ha)⟩, fun D hD => dcT_it (walk_tup (K := K) (a := a) (xs := us)) (CPd l kf vf B H1 D) (cpd_zero g1.sub hD) (fun i H' _ p => ?_) (fun i xv H' H'' hi p y => ?_) (fun H' p => ?_)⟩
      · obtain ⟨C, acc, gC, _⟩ := p
        exact SqT.of (gC.up _ _ (g1.sub _ _ ha))
      · obtain ⟨e2, hi⟩ := y
        obtain ⟨d, hd, rd⟩ := ru.getV hi
        rw [List.getElem?_map] at hd
        cases e : l[i]? with
        | none =>
          rw [e] at hd
          cases hd
        | some b =>
          rw [e] at hd
          cases hd
          obtain ⟨δ, t1, t2, t3, t4⟩ := hs b (List.mem_of_getElem? e)
          exact cpd_turn (k.mono g1) hD hz e p e2 (fun C ex => rd.mono ex) hj t1 t2 t3 t4
      · obtain ⟨C, acc, gC, cD, hAcc, rAcc⟩ := p
        rw [hlen, List.take_length] at rAcc
        exact q D acc C H' (g1.trans gC) (Evl.fresh_back g1.up hD) cD hAcc rAcc
theorem em_dcL {l : List α} {enc : α → Dat} {kf : α → List Int} {vf : α → Dat} (h : EvR tl γ (l.map enc)) (hj : ∀ j ∈ js, j ∈ vs) (hz : l.length < sizeLine)
    (hs : ∀ a ∈ l, ∃ δ, Tg g js (wipeG γ vs) (enc a) δ ∧ EvT tt δ true ∧ EvD tk δ (w (kf a)) ∧ EvD tv δ (vf a)) : EvM (tDcT (iList K tl) g tt tk tv vs) γ (putAll l kf vf) := fun H0 A H σ k Q q =>
  h H0 A H σ k _ fun a us B H1 g1 ha ru => by
    have hlen : us.length = l.length := by rw [ru.len, List.length_map]
    refine ⟨a, rfl, ⟨us, SqL.of ha⟩, fun D hD => dcT_it (walk_list (K := K) (a := a) (xs := us)) (CPd l kf vf B H1 D) (cpd_zero g1.sub hD) (fun i H' _ p => ?_) (fun i xv H' H'' hi p y => ?_) (fun H' p => ?_)⟩
    · obtain ⟨C, acc, gC, _⟩ := p
      exact SqL.of (gC.up _ _ ha)
    · obtain ⟨e2, hi⟩ := y
      obtain ⟨d, hd, rd⟩ := ru.getV hi
      rw [List.getElem?_map] at hd
      cases e : l[i]? with
      | none =>
        rw [e] at hd
        cases hd
      | some b =>
        rw [e] at hd
        cases hd
        obtain ⟨δ, t1, t2, t3, t4⟩ := hs b (List.mem_of_getElem? e)
        exact cpd_turn (k.mono g1) hD hz e p e2 (fun C ex => rd.mono ex) hj t1 t2 t3 t4
    · obtain ⟨C, acc, gC, cD, hAcc, rAcc⟩ := p
      rw [hlen, List.take_length] at rAcc
      exact q D acc C H' (g1.trans gC) (Evl.fresh_back g1.up hD) cD hAcc rAcc
/-! # reversed(range(n)), zip -/
theorem en_lcRev {te0 : TE} {n : Int} {v : Nat → Dat} (h : EvD te0 γ (.int n)) (hj : ∀ j ∈ js, j ∈ vs) (hn : 0 ≤ n ∧ n < sizeLine)
    (hs : ∀ a : Nat, (a : Int) < n → ∃ δ, Tg g js (wipeG γ vs) (.int (n - 1 - (a : Int))) δ ∧ EvT tt δ true ∧ EvD te δ (v a)) : EvN (tLc (iRevR (tRg1 te0)) g tt te vs) γ ((List.range n.toNat).map v) := fun H0 A H σ k Q q =>
  h H0 A H σ k _ fun us B H1 g1 ru => by
    have hsz : (sizeLine : Int) < 2 ^ 62 := by rw [sizeLine_eq]; decide
    cases ru
    have en : (n - 0).toNat = n.toNat := by rw [Int.sub_zero]
    refine ⟨n, rfl, by decide, by decide, by omega, by omega, fun D hD => lc_it (walk_rangeC (lo := 0 + (((n - 0).toNat : Nat) : Int) - 1) (c := -1) (n := (n - 0).toNat)) (CP (List.range n.toNat) (fun _ => true) v B H1 D) (cp_zero g1.sub hD) (fun _ _ _ _ => trivial) (fun i x H' H'' hi p y => ?_) (fun H' p => ?_)⟩
    · obtain ⟨e2, ex⟩ := y
      subst e2
      rw [en] at hi
      obtain ⟨δ, t1, t2, t3⟩ := hs i (by omega)
      have e0 : (0 : Int) + (((n - 0).toNat : Nat) : Int) - 1 + (i : Int) * (-1) = n - 1 - (i : Int) := by omega
      rw [show x = V.int (n - 1 - (i : Int)) from ex.trans (congrArg V.int e0)]
      exact cp_turn (l := List.range n.toNat) (f := fun _ => true) (k.mono g1) hD (by rw [List.length_range]; omega) (by rw [List.getElem?_range hi]) p (fun C _ => .int _) hj t1 t2 fun _ => t3
    · obtain ⟨C, acc, gC, cD, hAcc, rAcc⟩ := p
      rw [en] at rAcc
      have ht : (List.range n.toNat).take n.toNat = List.range n.toNat := List.take_of_length_le (by rw [List.length_range]; exact Nat.le_refl _)
      rw [ht, filter_yes] at rAcc
      exact q D acc C H' (g1.trans gC) (Evl.fresh_back g1.up hD) cD hAcc rAcc
theorem en_lcZip {l : List α} {β : Type} {m : List β} {enc : α → Dat} {enc2 : β → Dat} {f : α × β → Bool} {v : α × β → Dat} (h : EvR ta γ (l.map enc)) (h2 : EvR tb γ (m.map enc2)) (hj : ∀ j ∈ js, j ∈ vs) (hz : l.length < sizeLine)
    (hs : ∀ a ∈ l.zip m, ∃ δ, Tg g js (wipeG γ vs) (.tup [enc a.1, enc2 a.2]) δ ∧ EvT tt δ (f a) ∧ (f a = true → EvD te δ (v a))) : EvN (tLc (iZip K (tCons ta (tCons tb tNil))) g tt te vs) γ (((l.zip m).filter f).map v) := fun H0 A H σ k Q q =>
  h H0 A H σ k _ fun a us B H1 g1 ha ru => h2 H0 B H1 σ (k.mono g1) _ fun b ws C0 H2 g2 hb rw_ => by
    have hlen : us.length = l.length := by rw [ru.len, List.length_map]
    have hlen2 : ws.length = m.length := by rw [rw_.len, List.length_map]
    have g12 := g1.trans g2
    refine ⟨a, b, us, ws, rfl, SqL.of (g2.up _ _ ha), SqL.of hb, fun D hD => lc_it (walk_zip (K := K) (a := a) (b := b) (xs := us) (ys := ws) rfl) (CP (l.zip m) f v C0 H2 D) (cp_zero g12.sub hD) (fun i H' _ p => ?_) (fun i x H' H'' hi p y => ?_) (fun H' p => ?_)⟩
    · obtain ⟨C, acc, gC, _⟩ := p
      exact ⟨SqL.of (gC.up _ _ (g2.up _ _ ha)), SqL.of (gC.up _ _ hb)⟩
    · obtain ⟨T, x1, x2, rfl, hT, rfl, e1, e2⟩ := y
      obtain ⟨d1, hd1, r1⟩ := ru.getV e1
      obtain ⟨d2, hd2, r2⟩ := rw_.getV e2
      rw [List.getElem?_map] at hd1 hd2
      cases q1 : l[i]? with
      | none =>
        rw [q1] at hd1
        cases hd1
      | some u1 =>
        cases q2 : m[i]? with
        | none =>
          rw [q2] at hd2
          cases hd2
        | some u2 =>
          rw [q1] at hd1
          rw [q2] at hd2
          cases hd1
          cases hd2
          have hz2 : (l.zip m)[i]? = some (u1, u2) := by
            rw [List.getElem?_zip_eq_some]
            exact ⟨q1, q2⟩
          obtain ⟨δ, t1, t2, t3⟩ := hs (u1, u2) (List.mem_of_getElem? hz2)
          obtain ⟨C, acc, gC, cD, hAcc, rAcc⟩ := p
          have gT := Gr.new (o := .tup [x1, x2]) gC.sub hT
          have nD : D ≠ T := ne_of_none hAcc hT
          exact cp_step (l := l.zip m) (k.mono g12) hD (by rw [List.length_zip]; omega) hz2 (gC.trans gT) (by rw [upd_ne nD]; exact cD) (by rw [upd_ne nD]; exact hAcc) (rAcc.mono gT.view)
            (.tup upd_same (.cons ((r1.mono (g2.view.trans gC.view)).mono gT.view) (.cons ((r2.mono gC.view).mono gT.view) .nil))) hj t1 t2 t3
    · obtain ⟨C, acc, gC, cD, hAcc, rAcc⟩ := p
      have ht : (l.zip m).take (min us.length ws.length) = l.zip m := List.take_of_length_le (by rw [List.length_zip, hlen, hlen2]; exact Nat.le_refl _)
      rw [ht] at rAcc
      exact q D acc C H' (g12.trans gC) (Evl.fresh_back g12.up hD) cD hAcc rAcc
end
end Fr

set_option Elab.async false
set_option linter.all false
set_option maxRecDepth 100000
set_option maxHeartbeats 4000000
namespace Fr
open PySem PySem.Spec PyProof.Rows L2
open Evl (Ex)
/-! # sum of a tuple of ints -/
section
variable {prog : Program} {w0 : World} {A : Around} {E : Value → Shared → Prop} {s : Shared} {t : Addr} {its : List Value} {ns : List Int} {Q : Value → Shared → Prop}
theorem sum_tup_raw (hh : A.handled = none) (ht : s.heap.IsTuple t its.toArray) (hi : IntsAre its ns)
    (h : ∀ h' tk t', (∀ b o, s.heap.get? b = some o → h'.get? b = some o) → Q (.int ns.sum t') { s with heap := h', toks := tk }) : wpAny (model prog w0) A (call (.builtin "sum") [.ref t]) Q E s := by
  obtain ⟨xs, e⟩ := hi.allInts.items
  have hn : numsOf (intItems xs).toList = ns := by rw [← e]; exact hi.numsOf
  rw [nums_intItems] at hn
  rw [e] at ht
  have low : t < s.heap.objs.size := by
    obtain ⟨o, ho, _⟩ := ht
    exact Heap.lt_size ho
  refine call_sum_walkG (wpAny_pyIter_tuple ht ?_)
  refine ⟨_, _, _, _, _, _, numAt xs, rfl, Walks.tuple (A := A.in1) hh s.heap.objs.size t (Nat.ne_of_lt low) (intItems xs), ⟨⟨_, Heap.get?_push_size _ rfl, rfl, rfl⟩, ?_⟩, fun b hb => ?_, fun _ _ => intItems_at, fun h' tk t' hk => ?_⟩
  · obtain ⟨o, ho, r⟩ := ht
    exact ⟨o, Heap.get?_push_of_some _ ho, r⟩
  · show b < (s.heap.push _).objs.size
    rw [Heap.size_push]
    rcases List.mem_cons.mp hb with e1 | hb
    · rw [e1]
      exact Nat.lt_succ_self _
    · rw [List.mem_singleton.mp hb]
      exact Nat.lt_succ_of_lt low
  · have q := h h' tk t' fun b o e => hk b o (fun z => by
      rw [List.mem_singleton.mp z] at e
      exact absurd (Heap.lt_size e) (Nat.lt_irrefl _)) (Heap.get?_push_of_some _ e)
    have e2 : preSum (numAt xs) (intItems xs).size = ns.sum := by
      have sz : (intItems xs).size = xs.size := by simp [intItems]
      rw [sz, preSum_eq, List.take_of_length_le (by simp), hn]
    rw [e2]
    exact q
end
def rSumT (K : PySem.W.Frag) : List V → Hp → VK → Prop := fun vs H Q => ∃ (a : Addr) (ns : List Int), vs = [V.ref a] ∧ SqT K H a (ns.map V.int) ∧ Q (.int ns.sum) H
theorem cr_sumT {X : Cx} {K : PySem.W.Frag} (e : X.K = K) (hc : X.calm = true) : CallR X (.builtin "sum") (rSumT K) := by
  subst e
  intro pins s σ H vs us Q I r h
  obtain ⟨a, ns, rfl, hs, q⟩ := h
  obtain ⟨its, rv, ht, _⟩ := I.tuple hs
  rw [Vals.ref1 r]
  exact sum_tup_raw (I.ok.hd hc) ht rv.ints fun h' tk t' hk => ⟨.int _, H, I.kept hk, ⟨_, rfl⟩, q⟩
section
variable {K : PySem.W.Frag} {γ : Gam} {te : TE}
theorem ev_sumW {ns : List Int} (h : EvD te γ (w ns)) : EvD (tCB (rSumT K) (tCons te tNil)) γ (.int ns.sum) := fun H0 A H σ k Q q =>
  h H0 A H σ k _ fun v B H1 g r => by
    cases r with
    | @tup a us _ ha ru =>
      have e := ru.ints
      subst e
      exact ⟨a, ns, rfl, SqT.of (g.sub _ _ ha), q _ B H1 g (.int _)⟩
/-! # slices of words -/
def cutI (ns : List Int) (lo hi : Option Int) : List Int := cutA ns lo hi
theorem cutA_map (ns : List Int) (lo hi : Option Int) : cutA (ns.map Dat.int) lo hi = (cutI ns lo hi).map .int := by
  unfold cutI cutA
  rw [List.length_map, List.map_take, List.map_drop]
theorem ev_cut {tl th : TO} {ns : List Int} {lo hi : Option Int} (h : EvD te γ (w ns)) (h1 : EvO tl γ lo) (h2 : EvO th γ hi) : EvD (tSl (rSlA K) te tl th) γ (w (cutI ns lo hi)) := by
  have := ev_slT (K := K) h h1 h2
  rw [cutA_map] at this
  exact this
theorem ev_lenW {ns : List Int} (h : EvD te γ (w ns)) : EvD (tCB (Evl.rLenS K) (tCons te tNil)) γ (.int (ns.length : Int)) := by
  have := ev_lenT (K := K) h
  rw [List.length_map] at this
  exact this
theorem r2_catW {ns ms : List Int} (h : ns.length + ms.length ≤ sizeLine) : R2D (rCatA K) (w ns) (w ms) (w (ns ++ ms)) := by
  have := r2_cat (K := K) (xs := ns.map Dat.int) (ys := ms.map Dat.int) (by rw [List.length_map, List.length_map]; exact h)
  rw [← List.map_append] at this
  exact this
theorem ev_w1 {ta : TE} {n : Int} (h : EvD ta γ (.int n)) : EvD (tTup (tCons ta tNil)) γ (w [n]) := ev_tup (ea_cons h ea_nil) (by show 1 ≤ sizeLine; decide)
theorem ev_w0 : EvD (tTup tNil) γ (w []) := ev_tup ea_nil (by decide)
theorem cutI_all (ns : List Int) : cutI ns none none = ns := by
  unfold cutI cutA
  rw [HT.sIx_none, HT.sIx_none, List.drop_zero]
  exact List.take_length
theorem cutI_from (ns : List Int) (k : Nat) : cutI ns (some (k : Int)) none = ns.drop k := by
  unfold cutI cutA
  rw [HT.sIx_none, HT.sIx_nat]
  by_cases h : k ≤ ns.length
  · rw [Nat.min_eq_left h]
    exact List.take_of_length_le (by rw [List.length_drop]; exact Nat.le_refl _)
  · rw [Nat.min_eq_right (by omega), List.drop_of_length_le (Nat.le_refl _), List.drop_of_length_le (by omega), List.take_nil]
theorem cutI_to (ns : List Int) (k : Nat) : cutI ns none (some (k : Int)) = ns.take k := by
  unfold cutI cutA
  rw [HT.sIx_none, HT.sIx_nat, List.drop_zero, Nat.sub_zero]
  by_cases h : k ≤ ns.length
  · rw [Nat.min_eq_left h]
  · rw [Nat.min_eq_right (by omega), List.take_of_length_le (Nat.le_refl _), List.take_of_length_le (by omega)]
theorem cutI_both (ns : List Int) (j k : Nat) : cutI ns (some (j : Int)) (some (k : Int)) = (ns.take k).drop j := by
  unfold cutI cutA
  rw [HT.sIx_nat, HT.sIx_nat, List.drop_take]
  by_cases h : j ≤ ns.length
  · rw [Nat.min_eq_left h]
    by_cases h2 : k ≤ ns.length
    · rw [Nat.min_eq_left h2]
    · rw [Nat.min_eq_right (by omega : ns.length ≤ k), List.take_of_length_le (by rw [List.length_drop]; exact Nat.le_refl _), List.take_of_length_le (by rw [List.length_drop]; omega)]
  · rw [Nat.min_eq_right (by omega : ns.length ≤ j), List.drop_of_length_le (Nat.le_refl _), List.drop_of_length_le (by omega), List.take_nil, List.take_nil]
end
end Fr

set_option Elab.async false
set_option linter.all false
set_option maxRecDepth 100000
set_option maxHeartbeats 4000000
namespace Fr
open PySem PySem.Spec PyProof.Rows L2
open Evl (Ex)
/-! # [e for k in d for a in range(n)], d a dict of the frame's own that is locked meanwhile -/
theorem RepsK.keyAt {H : Hp} : ∀ {kvs : List (List L2.Key × V)} {es : List (List L2.Key × Dat)} {i : Nat} {k : List L2.Key} {v : V}, RepsK H kvs es → kvs[i]? = some (k, v) → (es.map (·.1))[i]? = some k
  | _, _, _, _, _, .nil, h => by simp at h
  | _, _, 0, _, _, .cons _ _, h => by
    simp at h
    simp [h.1]
  | _, _, i + 1, _, _, .cons _ r, h => by
    simp only [List.getElem?_cons_succ] at h
    simp only [List.map_cons, List.getElem?_cons_succ]
    exact RepsK.keyAt r h
/-- what is made of the keys -/
def flat2 (ks : List (List Int)) (n : List Int → Nat) (v : List Int → Nat → Dat) : List Dat := (ks.map fun ns => (List.range (n ns)).map (v ns)).flatten
theorem flat2_more {ks : List (List Int)} {n : List Int → Nat} {v : List Int → Nat → Dat} {i : Nat} {ns : List Int} (h : ks[i]? = some ns) : flat2 (ks.take (i + 1)) n v = flat2 (ks.take i) n v ++ (List.range (n ns)).map (v ns) := by
  unfold flat2
  rw [List.take_add_one, h]
  simp
section
variable {K : PySem.W.Frag} {γ : Gam} {te : TE} {tr : TA} {N : Gam → Prop} {R : Dat → Gam → Prop}
theorem flat2_len (ks : List (List Int)) (n : List Int → Nat) (v : List Int → Nat → Dat) (m : Nat) (h : ∀ ns ∈ ks, n ns ≤ m) : (flat2 ks n v).length ≤ ks.length * m := by
  induction ks with
  | nil => simp [flat2]
  | cons k ks ih =>
    have h1 := ih fun ns hn => h ns (List.mem_cons_of_mem _ hn)
    have h2 := h k List.mem_cons_self
    have e : flat2 (k :: ks) n v = (List.range (n k)).map (v k) ++ flat2 ks n v := by simp [flat2]
    rw [e, List.length_append, List.length_map, List.length_range, List.length_cons, Nat.succ_mul]
    omega
theorem take_len_le {α : Type} (l : List α) (i : Nat) : (l.take i).length ≤ l.length := by
  rw [List.length_take]
  exact Nat.min_le_right _ _
theorem run_lc2 {es : List (List L2.Key × Dat)} {ks : List (List Int)} {i j a0 a1 m : Nat} {n : List Int → Nat} {v : List Int → Nat → Dat} (h : γ[i]? = some (Slot.od es)) (hk : es.map (·.1) = ks.map kw) (hz : ks.length * m + m < sizeLine) (hm : ∀ ns ∈ ks, n ns ≤ m)
    (ne : a0 ≠ a1) (hs : ∀ ns ∈ ks, EvA tr ((wipeG (γ.set i .no) [a0, a1]).set a0 (.d (w ns))) [.int (n ns : Nat)] ∧ ∀ a, a < n ns → EvD te (((wipeG (γ.set i .no) [a0, a1]).set a0 (.d (w ns))).set a1 (.d (.int (a : Nat)))) (v ns a))
    (hn : N (γ.set j (.o (flat2 ks n v)))) : Run (tLock (tAsg (tLc2 (iKeys (tVar i)) (gName a0) tYes (iRng1 tr) (gName a1) tYes te [a0, a1] [a1]) (gName j))) γ N R := fun A0 H0 A H σ g0 k D dn dr => by
  obtain ⟨l, kvs, e, h0, hA, hH, rk⟩ := k.ownD i es h
  have hsz : (sizeLine : Int) < 2 ^ 62 := by rw [sizeLine_eq]; decide
  refine ⟨l, .dT kvs, hH, True.intro, fun od => ?_⟩
  have kLen : kvs.length = ks.length := by
    have := congrArg List.length hk
    rw [List.length_map, List.length_map] at this
    rw [rk.len, this]
  -- the locked heap
  obtain ⟨HL, eL⟩ : ∃ HL, HL = upd H l (.frz od (.dT kvs)) := ⟨_, rfl⟩
  rw [← eL]
  have sL : Ex A HL := by
    rw [eL]
    exact k.sub.mut hA
  have hL : HL l = some (.frz od (.dT kvs)) := by rw [eL, upd_same]
  have kL : Ok H0 A HL σ (γ.set i .no) := by
    have q := k.forget i (some (V.ref l))
    have e2 : σ.set i (some (V.ref l)) = σ := by
      refine List.ext_getElem? fun b => ?_
      by_cases z : i = b
      · subst z
        rw [List.getElem?_set_self (List.getElem?_eq_some_iff.mp e).1, e]
      · rw [List.getElem?_set_ne z]
    rw [e2] at q
    refine ⟨sL, q.len, q.get, fun b xs hb => ?_, fun b xs hb => ?_, fun b c xs hb => ?_, q.scr, q.sep⟩
    · obtain ⟨c, vs, x1, x2, x3, x4, x5⟩ := q.own b xs hb
      have nc : c ≠ l := fun z => by
        subst z
        rw [x4] at hH
        cases hH
      exact ⟨c, vs, x1, x2, x3, by rw [eL, upd_ne nc]; exact x4, x5⟩
    · obtain ⟨c, vs, x1, x2, x3, x4, x5⟩ := q.ownD b xs hb
      have hb' : γ[b]? = some (Slot.od xs) := by
        rcases set_get hb with ⟨_, z, _⟩ | ⟨_, hb⟩
        · cases z
        · exact hb
      have nc : c ≠ l := fun z => by
        subst z
        have := k.sep i b c _ _ h hb' rfl rfl e x1
        subst this
        rcases set_get hb with ⟨_, z, _⟩ | ⟨z, _⟩
        · cases z
        · exact z rfl
      exact ⟨c, vs, x1, x2, x3, by rw [eL, upd_ne nc]; exact x4, x5⟩
    · obtain ⟨vs, x1, x2, x3, x4, x5⟩ := q.bor b c xs hb
      have nc : c ≠ l := fun z => by
        subst z
        rw [x4] at hH
        cases hH
      exact ⟨vs, x1, x2, x3, by rw [eL, upd_ne nc]; exact x4, x5⟩
  refine ⟨.ref l, e, l, od, rfl, .inr ⟨kvs, hL, fun DL hDL => ?_⟩⟩
  -- what stands behind i keys, and behind a numbers of one more
  refine ⟨fun t mm H' => mm + t = ks.length ∧ ∃ C acc, Gr A HL C H' ∧ C DL = none ∧ H' DL = some (.lst acc) ∧ Reps C acc (flat2 (ks.take t) n v),
    ⟨ks.length, rfl, A, [], Gr.newU sL hDL, Evl.fresh_back sL hDL, upd_same, .nil⟩, fun t mm H' hW => ?_⟩
  obtain ⟨emm, C, acc, gC, cD, hAcc, rAcc⟩ := hW
  have hl' : H' l = some (.frz od (.dT kvs)) := gC.up _ _ hL
  cases mm with
  | zero =>
    have et : t = ks.length := by omega
    subst et
    rw [List.take_length] at rAcc
    refine .inl ⟨⟨hl', by omega⟩, hl', ?_⟩
    -- behind: unlocked, stored
    have hDL0 : H DL = none := by
      have z := hDL
      rw [eL] at z
      by_cases q : DL = l
      · subst q
        rw [upd_same] at z
        cases z
      · rwa [upd_ne q] at z
    have nDl : DL ≠ l := fun q => by
      subst q
      rw [hH] at hDL0
      cases hDL0
    rw [eL] at gC
    obtain ⟨gU, cl⟩ := g0.unlock (u := .dT kvs) h0 hA (by exact True.intro) gC
    have kU := k.unlock h e hH hA rk (by exact True.intro) gC
    refine dn _ C _ _ hn gU gC.view (kU.setM j (fun b t hb mt eb => ?_) (fun _ z => nomatch z) (fun _ _ z => nomatch z) (fun _ _ z => nomatch z) (fun _ z => by cases z; exact ⟨acc, Evl.fresh_back g0.up hDL0, cD, by rw [upd_ne nDl]; exact hAcc, rAcc⟩) fun _ z => nomatch z)
    obtain ⟨c, o, z1, _, _, z4⟩ := k.addr hb mt
    rw [z1] at eb
    cases eb
    rw [hDL0] at z4
    cases z4
  | succ mm =>
    obtain ⟨ns, hns⟩ : ∃ ns, ks[t]? = some ns := ⟨ks[t]'(by omega), List.getElem?_eq_getElem (by omega)⟩
    have mem := List.mem_of_getElem? hns
    obtain ⟨ha, hv⟩ := hs ns mem
    have hmn := hm ns mem
    refine .inr ⟨⟨hl', by omega⟩, fun H2 => ∃ C acc, Gr A HL C H2 ∧ C DL = none ∧ H2 DL = some (.lst acc) ∧ Reps C acc (flat2 (ks.take (t + 1)) n v), fun H2 hh => ⟨mm, Nat.lt_succ_self _, by omega, hh⟩, fun x H2 hy => ?_⟩
    obtain ⟨eH, key, val, q, hkv, ex, hq⟩ := hy
    subst eH ex
    have ekey : key = kw ns := by
      have z := rk.keyAt hkv
      rw [hk, List.getElem?_map, hns] at z
      exact (Option.some.inj z).symm
    have hq' : H2 q = some (.tup (ns.map V.int)) := by
      rw [hq, ekey]
      unfold kw
      rw [List.map_map]
      rfl
    have gq := Gr.tup gC.sub hq'
    have gC' := gC.trans gq
    have cD' : (upd C q (.tup (ns.map V.int))) DL = none := gq.hid DL _ hAcc True.intro cD
    have rq : Rep (upd C q (.tup (ns.map V.int))) (.ref q) (w ns) := .tup upd_same (Reps.ofInts ns)
    have kW := ((kL.mono gC').wipe [a0, a1]).setD rq a0
    have lenW : ((L2.wipe σ [a0, a1]).set a0 (some (V.ref q))).length = (L2.wipe σ [a0, a1]).length := List.length_set ..
    refine ⟨wipe_back (js := [a0]) lenW (fun b hb => by rw [List.getElem?_set_ne (fun z => hb (by rw [z]; exact List.mem_singleton.mpr rfl))]) (by intro b hb; rw [List.mem_singleton.mp hb]; exact List.mem_cons_self), ?_⟩
    refine ha H0 _ _ _ kW _ fun us C1 H3 g1 r1 => ?_
    cases r1 with
    | cons r1 r2 =>
      cases r1
      cases r2
      have hn1 : (n ns : Int) < 2 ^ 62 := by
        have : n ns < sizeLine := by omega
        omega
      have gC1 := gC'.trans g1
      refine ⟨_, rfl, by omega, hn1, fun b kk H4 => kk + b = n ns ∧ ∃ C acc, Gr A HL C H4 ∧ Ex C1 C ∧ C DL = none ∧ H4 DL = some (.lst acc) ∧ Reps C acc (flat2 (ks.take t) n v ++ (List.range b).map (v ns)),
        ⟨n ns, by omega, C1, acc, gC1, Ex.refl C1, g1.hid DL _ hAcc True.intro cD', g1.up _ _ hAcc, ?_⟩, fun b kk H4 hW1 => ?_⟩
      · rw [List.range_zero, List.map_nil, List.append_nil]
        exact (rAcc.mono gq.view).mono g1.view
      · obtain ⟨ekk, C2, acc2, g2, v2, cD2, hA2, rA2⟩ := hW1
        cases kk with
        | zero =>
          have eb : b = n ns := by omega
          subst eb
          refine .inl ⟨by show ((n ns : Int)).toNat ≤ n ns; omega, C2, acc2, g2, cD2, hA2, ?_⟩
          rw [flat2_more hns]
          exact rA2
        | succ kk =>
          refine .inr ⟨by show b < ((n ns : Int)).toNat; omega, fun H5 => ∃ C acc, Gr A HL C H5 ∧ Ex C1 C ∧ C DL = none ∧ H5 DL = some (.lst acc) ∧ Reps C acc (flat2 (ks.take t) n v ++ (List.range (b + 1)).map (v ns)), fun H5 hh => ⟨kk, Nat.lt_succ_self _, by omega, hh⟩, fun x H5 hy => ?_⟩
          obtain ⟨eH, ex⟩ := hy
          subst eH
          have ex2 : x = V.int ((b : Nat) : Int) := by
            rw [ex]
            exact congrArg V.int (Int.zero_add _)
          subst ex2
          have kX := ((((kL.mono g2).wipe [a0, a1]).setD (rq.mono (g1.view.trans v2)) a0).wipe [a1]).setD (v := .int ((b : Nat) : Int)) (.int _) a1
          have lenX : ((L2.wipe ((L2.wipe σ [a0, a1]).set a0 (some (V.ref q))) [a1]).set a1 (some (V.int ((b : Nat) : Int)))).length = (L2.wipe ((L2.wipe σ [a0, a1]).set a0 (some (V.ref q))) [a1]).length := List.length_set ..
          refine ⟨wipe_back (js := [a1]) lenX (fun c hc => by rw [List.getElem?_set_ne (fun z => hc (by rw [z]; exact List.mem_singleton.mpr rfl))]) (by intro c hc; exact hc), ?_⟩
          have eG : (wipeG ((wipeG (γ.set i .no) [a0, a1]).set a0 (.d (w ns))) [a1]).set a1 (.d (.int ((b : Nat) : Int))) = ((wipeG (γ.set i .no) [a0, a1]).set a0 (.d (w ns))).set a1 (.d (.int ((b : Nat) : Int))) := by
            show ((((wipeG (γ.set i .no) [a0, a1]).set a0 (.d (w ns))).set a1 .no).set a1 _) = _
            rw [List.set_set]
          rw [eG] at kX
          refine hv b (by omega) H0 C2 H5 _ kX _ fun yv C3 H6 g3 r3 => ?_
          have cD3 := g3.hid DL _ hA2 True.intro cD2
          have lz : acc2.length < sizeLine := by
            rw [rA2.len, List.length_append, List.length_map, List.length_range]
            have z := flat2_len (ks.take t) n v m fun ns' hn' => hm ns' (List.mem_of_mem_take hn')
            have z2 := Nat.mul_le_mul_right m (take_len_le ks t)
            omega
          refine ⟨acc2, g3.up _ _ hA2, lz, C3, acc2 ++ [yv], (g2.trans g3).mut hDL cD3, v2.trans g3.view, cD3, upd_same, ?_⟩
          rw [List.range_succ, List.map_append, ← List.append_assoc]
          exact (rA2.mono g3.view).app (Reps.one r3)
/-! # a star in a display -/
theorem ea_star {ta : TE} {xs ys : List Dat} (h : EvR ta γ xs) (hr : EvA tr γ ys) : EvA (StX.tStar K ta tr) γ (xs ++ ys) := fun H0 A H σ k Q q =>
  h H0 A H σ k _ fun l us B H1 g1 h1 r1 => ⟨l, us, rfl, .inr (SqL.of h1), hr H0 B H1 σ (k.mono g1) _ fun vs C H2 g2 r2 => q _ C H2 (g1.trans g2) ((r1.mono g2.view).app r2)⟩
theorem pa_starK {X : Cx} {e : Expr} {es : List Expr} {p : Pos} {t : TA} {ta : TE} (eK : X.K = K) (h : PA X (.Starred e p :: es) (StX.tStar X.K ta t)) : PA X (.Starred e p :: es) (StX.tStar K ta t) := eK ▸ h
end
end Fr

set_option Elab.async false
set_option linter.all false
set_option maxRecDepth 100000
set_option maxHeartbeats 4000000
namespace Fr
open PySem PySem.Spec PyProof.Rows L2
open Evl (Ex)
section
variable {K : PySem.W.Frag} {γ : Gam} {te : TE} {xs : List Dat}
/-- a slice of a list is a new list -/
theorem Reps.cutL {A : Hp} {us : List V} {lo hi : Option Int} (R : Reps A us xs) : Reps A (cutV us lo hi) (cutA xs lo hi) := R.cut
theorem en_slL {tl th : TO} {lo hi : Option Int} (h : EvR te γ xs) (h1 : EvO tl γ lo) (h2 : EvO th γ hi) : EvN (tSl (rSlL K) te tl th) γ (cutA xs lo hi) := fun H0 A H σ k Q q =>
  h H0 A H σ k _ fun l us B H1 g1 ha R => h1 H0 B H1 σ (k.mono g1) _ fun C H2 g2 => h2 H0 C H2 σ (k.mono (g1.trans g2)) _ fun D H3 g3 => by
    have g := (g1.trans g2).trans g3
    exact ⟨l, us, rfl, SqL.of (g3.up _ _ (g2.up _ _ ha)), fun p hp => q p _ D _ (g.trans (Gr.newU g.sub hp)) (Evl.fresh_back g.up hp) (Evl.fresh_back g.sub hp) upd_same ((R.mono (g2.view.trans g3.view)).cut)⟩
theorem cutA_from {α : Type} (xs : List α) (k : Nat) : cutA xs (some (k : Int)) none = xs.drop k := by
  unfold cutA
  rw [HT.sIx_none, HT.sIx_nat]
  by_cases h : k ≤ xs.length
  · rw [Nat.min_eq_left h]
    exact List.take_of_length_le (by rw [List.length_drop]; exact Nat.le_refl _)
  · rw [Nat.min_eq_right (by omega), List.drop_of_length_le (Nat.le_refl _), List.drop_of_length_le (by omega), List.take_nil]
theorem r2_eqN {i : Int} {x : Dat} (h : isNon x = false) (hx : ∃ d, x = .int d) : R2D rEq (.int i) x (.bl (match x with | .int d => decide (i = d) | _ => false)) := by
  obtain ⟨d, rfl⟩ := hx
  exact r2_eqI
end
end Fr

set_option Elab.async false
set_option linter.all false
set_option maxRecDepth 100000
set_option maxHeartbeats 4000000
namespace Fr
open PySem PySem.Spec PyProof.Rows L2
open Evl (Ex)
theorem Reps.set {A : Hp} {v : V} {x : Dat} (h : Rep A v x) : ∀ {us : List V} {ds : List Dat} (n : Nat), Reps A us ds → Reps A (us.set n v) (ds.set n x)
  | _, _, _, .nil => .nil
  | _, _, 0, .cons _ b => .cons h b
  | _, _, n + 1, .cons a b => .cons a (Reps.set h n b)
/-! # expressions that change what is the frame's own -/
def EvX (te : TE) (γ : Gam) (S : Dat → Gam → Prop) : Prop := ∀ A0 H0 A H σ, Gr A0 H0 A H → Ok H0 A H σ γ → ∀ Q : VK, (∀ v B H' x δ, S x δ → Gr A0 H0 B H' → Ex A B → Ok H0 B H' σ δ → Rep B v x → Q v H') → te σ H Q
def EvXT (t : TT) (γ : Gam) (S : Bool → Gam → Prop) : Prop := ∀ A0 H0 A H σ, Gr A0 H0 A H → Ok H0 A H σ γ → ∀ Q : Bool → Hp → Prop, (∀ b B H' δ, S b δ → Gr A0 H0 B H' → Ex A B → Ok H0 B H' σ δ → Q b H') → t σ H Q
def EvXA (ta : TA) (γ : Gam) (S : List Dat → Gam → Prop) : Prop := ∀ A0 H0 A H σ, Gr A0 H0 A H → Ok H0 A H σ γ → ∀ Q : List V → Hp → Prop, (∀ vs B H' xs δ, S xs δ → Gr A0 H0 B H' → Ex A B → Ok H0 B H' σ δ → Reps B vs xs → Q vs H') → ta σ H Q
def hide (c : Addr) (H : Hp) : Hp := fun a => if a = c then none else H a
theorem hide_ne {c a : Addr} {H : Hp} (h : a ≠ c) : hide c H a = H a := by
  unfold hide
  rw [if_neg h]
theorem hide_self {c : Addr} {H : Hp} : hide c H c = none := by
  unfold hide
  rw [if_pos rfl]
section
variable {K : PySem.W.Frag} {γ δ : Gam} {ta tb te : TE} {t u : TT} {x y z : Dat} {r : R2} {xs ys : List Dat} {S S1 S2 : Dat → Gam → Prop} {N M : Gam → Prop} {R : Dat → Gam → Prop} {tu tw : TS} {g : TG} {js : List Nat}
theorem ex_of (h : EvD te γ x) (hs : S x γ) : EvX te γ S := fun A0 H0 A H σ g0 k Q q => h H0 A H σ k Q fun v B H' g1 r1 => q v B H' x γ hs (g0.trans g1) g1.view (k.mono g1) r1
theorem ex_weak (h : EvX te γ S) (hw : ∀ x δ, S x δ → S1 x δ) : EvX te γ S1 := fun A0 H0 A H σ g0 k Q q => h A0 H0 A H σ g0 k Q fun v B H' x δ hs => q v B H' x δ (hw x δ hs)
theorem ex_op (ha : EvX ta γ S1) (hb : ∀ x δ, S1 x δ → EvX tb δ (fun y ε => ∃ z, R2D r x y z ∧ S z ε)) : EvX (tOp r ta tb) γ S := fun A0 H0 A H σ g0 k Q q =>
  ha A0 H0 A H σ g0 k _ fun v B H1 x δ hs g1 v1 k1 r1 => hb x δ hs A0 H0 B H1 σ g1 k1 _ fun v2 C H2 y ε hz g2 w2 k2 r2 => by
    obtain ⟨z, hr, hS⟩ := hz
    exact hr C H2 v v2 g2.sub (r1.mono w2) r2 Q fun p D H3 g3 r3 => q p D H3 z ε hS (g2.trans g3) ((v1.trans w2).trans g3.view) (k2.mono g3) r3
theorem ext_of {b : Bool} {S : Bool → Gam → Prop} (h : EvT t γ b) (hs : S b γ) : EvXT t γ S := fun A0 H0 A H σ g0 k Q q => h H0 A H σ k Q fun B H' g1 => q b B H' γ hs (g0.trans g1) g1.view (k.mono g1)
theorem ext_B {S : Bool → Gam → Prop} (h : EvX te γ (fun x δ => ∃ b, x = .bl b ∧ S b δ)) : EvXT (tB te) γ S := fun A0 H0 A H σ g0 k Q q => h A0 H0 A H σ g0 k _ fun v B H' x δ hs g1 v1 k1 r1 => by
  obtain ⟨b, rfl, hS⟩ := hs
  cases r1
  exact ⟨b, rfl, q b B H' δ hS g1 v1 k1⟩
theorem ext_test {S : Bool → Gam → Prop} (h : EvX te γ (fun x δ => ∃ b, x = .bl b ∧ S b δ)) : EvXT (tTest te) γ S := ext_B h
theorem ext_and {S S1 : Bool → Gam → Prop} (h : EvXT t γ S1) (h1 : ∀ δ, S1 true δ → EvXT u δ S) (h2 : ∀ δ, S1 false δ → S false δ) : EvXT (tAnd t u) γ S := fun A0 H0 A H σ g0 k Q q => h A0 H0 A H σ g0 k _ fun b B H' δ hs g1 v1 k1 => by
  cases b with
  | true => exact h1 δ hs A0 H0 B H' σ g1 k1 Q fun b2 C H2 ε hs2 g2 v2 k2 => q b2 C H2 ε hs2 g2 (v1.trans v2) k2
  | false => exact q false B H' δ (h2 δ hs) g1 v1 k1
theorem ex_if {S1 : Bool → Gam → Prop} (h : EvXT t γ S1) (h1 : ∀ δ, S1 true δ → EvX ta δ S) (h2 : ∀ δ, S1 false δ → EvX tb δ S) : EvX (tIf t ta tb) γ S := fun A0 H0 A H σ g0 k Q q => h A0 H0 A H σ g0 k _ fun b B H' δ hs g1 v1 k1 => by
  cases b with
  | true => exact h1 δ hs A0 H0 B H' σ g1 k1 Q fun v C H2 x ε hs2 g2 v2 k2 => q v C H2 x ε hs2 g2 (v1.trans v2) k2
  | false => exact h2 δ hs A0 H0 B H' σ g1 k1 Q fun v C H2 x ε hs2 g2 v2 k2 => q v C H2 x ε hs2 g2 (v1.trans v2) k2
theorem ex_and (h : EvX ta γ (fun x δ => ∃ b, x = .bl b ∧ (b = true → EvX tb δ S) ∧ (b = false → S (.bl false) δ))) : EvX (tAndV ta tb) γ S := fun A0 H0 A H σ g0 k Q q => h A0 H0 A H σ g0 k _ fun v B H' x δ hs g1 v1 k1 r1 => by
  obtain ⟨b, rfl, h1, h2⟩ := hs
  cases r1
  refine ⟨b, rfl, ?_⟩
  cases b with
  | true => exact h1 rfl A0 H0 B H' σ g1 k1 Q fun v C H2 x ε hs2 g2 v2 k2 => q v C H2 x ε hs2 g2 (v1.trans v2) k2
  | false => exact q _ B H' _ δ (h2 rfl) g1 v1 k1 (.bl false)
theorem ex_or (h : EvX ta γ (fun x δ => ∃ b, x = .bl b ∧ (b = false → EvX tb δ S) ∧ (b = true → S (.bl true) δ))) : EvX (tOrV ta tb) γ S := fun A0 H0 A H σ g0 k Q q => h A0 H0 A H σ g0 k _ fun v B H' x δ hs g1 v1 k1 r1 => by
  obtain ⟨b, rfl, h1, h2⟩ := hs
  cases r1
  refine ⟨b, rfl, ?_⟩
  cases b with
  | false => exact h1 rfl A0 H0 B H' σ g1 k1 Q fun v C H2 x ε hs2 g2 v2 k2 => q v C H2 x ε hs2 g2 (v1.trans v2) k2
  | true => exact q _ B H' _ δ (h2 rfl) g1 v1 k1 (.bl true)
theorem exa_nil {S : List Dat → Gam → Prop} (h : S [] γ) : EvXA tNil γ S := fun A0 H0 A H σ g0 k Q q => q [] A H [] γ h g0 (Ex.refl A) k .nil
theorem exa_cons {tr : TA} {S : List Dat → Gam → Prop} (h : EvX ta γ S1) (hr : ∀ x δ, S1 x δ → EvXA tr δ (fun xs ε => S (x :: xs) ε)) : EvXA (tCons ta tr) γ S := fun A0 H0 A H σ g0 k Q q =>
  h A0 H0 A H σ g0 k _ fun v B H1 x δ hs g1 v1 k1 r1 => hr x δ hs A0 H0 B H1 σ g1 k1 _ fun vs C H2 xs ε hs2 g2 v2 k2 r2 => q _ C H2 _ ε hs2 g2 (v1.trans v2) k2 (.cons (r1.mono v2) r2)
theorem exa_of {tr : TA} {S : List Dat → Gam → Prop} (h : EvA tr γ xs) (hs : S xs γ) : EvXA tr γ S := fun A0 H0 A H σ g0 k Q q => h H0 A H σ k Q fun vs B H' g1 r1 => q vs B H' xs γ hs (g0.trans g1) g1.view (k.mono g1) r1
theorem ex_tup {tr : TA} (h : EvXA tr γ (fun xs δ => xs.length ≤ sizeLine ∧ S (.tup xs) δ)) : EvX (tTup tr) γ S := fun A0 H0 A H σ g0 k Q q =>
  h A0 H0 A H σ g0 k _ fun vs B H1 xs δ hs g1 v1 k1 r1 => ⟨by rw [r1.len]; exact hs.1, fun p hp => by
    have g2 := Gr.new (o := .tup vs) g1.sub hp
    exact q _ _ _ _ δ hs.2 (g1.trans g2) (v1.trans g2.view) (k1.mono g2) (.tup upd_same (r1.mono g2.view))⟩
theorem ex_lst {tr : TA} (h : EvXA tr γ (fun xs δ => xs.length ≤ sizeLine ∧ S (.lst xs) δ)) : EvX (tLst tr) γ S := fun A0 H0 A H σ g0 k Q q =>
  h A0 H0 A H σ g0 k _ fun vs B H1 xs δ hs g1 v1 k1 r1 => ⟨by rw [r1.len]; exact hs.1, fun p hp => by
    have g2 := Gr.new (o := .lst vs) g1.sub hp
    exact q _ _ _ _ δ hs.2 (g1.trans g2) (v1.trans g2.view) (k1.mono g2) (.lst upd_same (r1.mono g2.view))⟩
theorem ex_call {Rf : List Dat → Dat → Prop} {E : XK} {tr : TA} (h : EvXA tr γ (fun xs δ => ∃ z, Rf xs z ∧ S z δ)) : EvX (tCall (Pr Rf) [] E tr) γ S := fun A0 H0 A H σ g0 k Q q =>
  h A0 H0 A H σ g0 k _ fun vs B H1 xs δ hs g1 v1 k1 r1 => by
    obtain ⟨z, hR, hS⟩ := hs
    exact ⟨B, xs, z, g1.sub, by rw [List.append_nil]; exact r1, hR, fun v C H2 g2 r2 => q v C H2 z δ hS (g1.trans g2) (v1.trans g2.view) (k1.mono g2) r2⟩
theorem r2_ixL {i : Int} (h : atI xs i = some z) : R2D (rIxL K) (.lst xs) (.int i) z := fun A H vx vy s r1 r2 Q q => by
  cases r2
  cases r1 with
  | @lst a us _ h1 R1 =>
    obtain ⟨v, e, rv⟩ := atI_rep R1 h
    exact ⟨a, us, i, v, rfl, rfl, SqL.of (s _ _ h1), e, q v A H (Gr.refl s) rv⟩
theorem ex_slT {tl th : TO} {lo hi : Option Int} (h : EvX te γ (fun x δ => ∃ xs, x = .tup xs ∧ EvO tl δ lo ∧ EvO th δ hi ∧ S (.tup (cutA xs lo hi)) δ)) : EvX (tSl (rSlA K) te tl th) γ S := fun A0 H0 A H σ g0 k Q q =>
  h A0 H0 A H σ g0 k _ fun v B H1 x δ hs g1 v1 k1 r1 => by
    obtain ⟨xs, rfl, o1, o2, hS⟩ := hs
    refine o1 H0 B H1 σ k1 _ fun C H2 g2 => o2 H0 C H2 σ (k1.mono g2) _ fun D H3 g3 => ?_
    cases r1 with
    | @tup a us _ ha R =>
      have g := g2.trans g3
      refine ⟨a, us, rfl, SqT.of (g.up _ _ (g1.sub _ _ ha)), fun e => ?_, fun _ p hp => ?_⟩
      · have ew : cutA xs lo hi = xs := by
          unfold cutA
          rw [← R.len, e.1, e.2, List.drop_zero, R.len]
          exact List.take_length
        rw [ew] at hS
        exact q _ D H3 _ δ hS (g1.trans g) (v1.trans g.view) (k1.mono g) (.tup (g.view _ _ ha) (R.mono g.view))
      · have g4 := Gr.new (o := .tup (cutV us lo hi)) g.sub hp
        exact q _ _ _ _ δ hS ((g1.trans g).trans g4) ((v1.trans g.view).trans g4.view) ((k1.mono g).mono g4) (.tup upd_same ((R.mono g.view).cut.mono g4.view))
/-! ### a list of another frame's is lent -/
theorem Gr.lent {A0 H0 A H B H' : Hp} {c : Addr} (g0 : Gr A0 H0 A H) (h0 : H0 c = none) (g : Gr A (hide c H) B H') : Gr A0 H0 B H' := by
  refine ⟨fun a o e => ?_, g0.view.trans g.view, g.sub, fun a o e m n => ?_⟩
  · have na : a ≠ c := ne_of_none e h0
    exact g.up a o (by rw [hide_ne na]; exact g0.up a o e)
  · have na : a ≠ c := ne_of_none e h0
    exact g.hid a o (by rw [hide_ne na]; exact g0.up a o e) m (g0.hid a o e m n)
/-- what the frame that lent it knows behind: the slot's new list -/
theorem Ok.lent {H0 A H B H' : Hp} {σ : L2.St} {i : Nat} {c : Addr} {s s' : Slot} {vs : List V} (k : Ok H0 A H σ γ) (h : γ[i]? = some s) (m : s.mine = true) (e : σ[i]? = some (some (V.ref c))) (g : Gr A (hide c H) B H') (hB : B c = none) (hH : H' c = some (.lst vs)) (rv : Reps B vs ys)
    (hs : s' = .o ys ∨ s' = .b c ys) : Ok H0 B H' σ (γ.set i s') := by
  obtain ⟨c', o, e1, h0, hA, _⟩ := k.addr h m
  rw [e] at e1
  cases e1
  have apart : ∀ (j : Nat) (t : Slot) (a : Addr), i ≠ j → γ[j]? = some t → t.mine = true → σ[j]? = some (some (V.ref a)) → a ≠ c := fun j t a q gj n e1 z => by
    subst z
    exact q (k.sep i j a s t h gj m n e e1)
  have ms : s'.mine = true := by rcases hs with rfl | rfl <;> rfl
  refine ⟨g.sub, by rw [List.length_set, k.len], fun j y hj => ?_, fun j zs hj => ?_, fun j zs hj => ?_, fun j d zs hj => ?_, fun j K m hj => ?_, fun j n a t u h1 h2 h3 h4 h5 h6 => ?_⟩
  · rcases set_get hj with ⟨rfl, z, _⟩ | ⟨q, hj⟩
    · rw [← z] at ms
      cases ms
    · obtain ⟨v, a, b⟩ := k.get j y hj
      exact ⟨v, a, b.mono g.view⟩
  · rcases set_get hj with ⟨rfl, z, _⟩ | ⟨q, hj⟩
    · rcases hs with rfl | rfl
      · cases z
        exact ⟨c, vs, e, h0, hB, hH, rv⟩
      · cases z
    · obtain ⟨a, vs', e1, e2, e3, e4, e5⟩ := k.own j zs hj
      have y : hide c H a = some (.lst vs') := by rw [hide_ne (apart j _ a q hj rfl e1)]; exact e4
      exact ⟨a, vs', e1, e2, g.hid a _ y True.intro e3, g.up a _ y, e5.mono g.view⟩
  · rcases set_get hj with ⟨rfl, z, _⟩ | ⟨q, hj⟩
    · rcases hs with rfl | rfl <;> cases z
    · obtain ⟨a, vs', e1, e2, e3, e4, e5⟩ := k.ownD j zs hj
      have y : hide c H a = some (.dT vs') := by rw [hide_ne (apart j _ a q hj rfl e1)]; exact e4
      exact ⟨a, vs', e1, e2, g.hid a _ y True.intro e3, g.up a _ y, e5.mono g.view⟩
  · rcases set_get hj with ⟨rfl, z, _⟩ | ⟨q, hj⟩
    · rcases hs with rfl | rfl
      · cases z
      · cases z
        exact ⟨vs, e, h0, hB, hH, rv⟩
    · obtain ⟨vs', e1, e2, e3, e4, e5⟩ := k.bor j d zs hj
      have y : hide c H d = some (.lst vs') := by rw [hide_ne (apart j _ d q hj rfl e1)]; exact e4
      exact ⟨vs', e1, e2, g.hid d _ y True.intro e3, g.up d _ y, e5.mono g.view⟩
  · rcases set_get hj with ⟨rfl, z, _⟩ | ⟨q, hj⟩
    · rcases hs with rfl | rfl <;> cases z
    · obtain ⟨a, h1, h2⟩ := k.scr j K m hj
      exact ⟨a, h1, Evl.ex_l g.view h2⟩
  · have back : ∀ (n : Nat) (t : Slot), (γ.set i s')[n]? = some t → t.mine = true → ∃ t', γ[n]? = some t' ∧ t'.mine = true := fun n t hn mt => by
      rcases set_get hn with ⟨rfl, z, _⟩ | ⟨q, hn⟩
      · exact ⟨s, h, m⟩
      · exact ⟨t, hn, mt⟩
    obtain ⟨z1, q1, m1⟩ := back j t h1 h3
    obtain ⟨z2, q2, m2⟩ := back n u h2 h4
    exact k.sep j n a z1 z2 q1 q2 m1 m2 h5 h6
end
/-- a def that changes the list that is its first argument: from the list ds and the data xs to a value and the list behind -/
def PrC (Rf : List Dat → List Dat → Dat → List Dat → Prop) (Pre : List Dat → List Dat → Prop) : Sp := fun vs H Q _ => ∃ A c cs ds us xs, vs = V.ref c :: us ∧ Ex A H ∧ A c = none ∧ H c = some (.lst cs) ∧ Reps A cs ds ∧ Reps A us xs ∧ Pre ds xs ∧
  ∀ v B H' x cs' ds', Rf ds xs x ds' → Gr A (hide c H) B H' → B c = none → H' c = some (.lst cs') → Reps B cs' ds' → Rep B v x → Q v H'
/-- a def that hands back a new list -/
def PrN (Rf : List Dat → List Dat → Prop) : Sp := fun vs H Q _ => ∃ A xs ys, Ex A H ∧ Reps A vs xs ∧ Rf xs ys ∧ ∀ l us B H', Gr A H B H' → H l = none → B l = none → H' l = some (.lst us) → Reps B us ys → Q (.ref l) H'
section
variable {K : PySem.W.Frag} {γ δ : Gam} {ta tb te : TE} {t u : TT} {x y z : Dat} {xs ys : List Dat} {S S1 S2 : Dat → Gam → Prop} {N M : Gam → Prop} {R : Dat → Gam → Prop} {tu tw : TS} {g : TG} {js : List Nat}
theorem en_callN {Rf : List Dat → List Dat → Prop} {E : XK} {tr : TA} (h : EvA tr γ xs) (hR : Rf xs ys) : EvN (tCall (PrN Rf) [] E tr) γ ys := fun H0 A H σ k Q q =>
  h H0 A H σ k _ fun vs B H1 g1 r1 => ⟨B, xs, ys, g1.sub, by rw [List.append_nil]; exact r1, hR, fun l us C H2 g2 hl hC h2 r2 => q l us C H2 (g1.trans g2) (Evl.fresh_back g1.up hl) hC h2 r2⟩
/-- a slot that holds a list that may be lent -/
def Lends (γ : Gam) (i : Nat) (ds : List Dat) : Prop := γ[i]? = some (Slot.o ds) ∨ ∃ c, γ[i]? = some (Slot.b c ds)
/-- the slot behind -/
def relend (γ : Gam) (i : Nat) (ds : List Dat) : Gam := match γ[i]? with
  | some (.b c _) => γ.set i (.b c ds)
  | _ => γ.set i (.o ds)
theorem exa_cons0 {tr : TA} {i : Nat} {ds : List Dat} (h : Lends γ i ds) {A0 H0 A H : Hp} {σ : L2.St} (g0 : Gr A0 H0 A H) (k : Ok H0 A H σ γ) : ∃ c cs s, γ[i]? = some s ∧ s.mine = true ∧ σ[i]? = some (some (V.ref c)) ∧ H0 c = none ∧ A c = none ∧ H c = some (.lst cs) ∧ Reps A cs ds ∧
    ∀ ds', relend γ i ds' = γ.set i (.o ds') ∨ relend γ i ds' = γ.set i (.b c ds') := by
  rcases h with h | ⟨c, h⟩
  · obtain ⟨c, cs, a, b, d, e, f⟩ := k.own i ds h
    exact ⟨c, cs, _, h, rfl, a, b, d, e, f, fun ds' => .inl (by unfold relend; rw [h])⟩
  · obtain ⟨cs, a, b, d, e, f⟩ := k.bor i c ds h
    exact ⟨c, cs, _, h, rfl, a, b, d, e, f, fun ds' => .inr (by unfold relend; rw [h])⟩
/-- f(crate, e, ..) -/
theorem ex_lend {Rf : List Dat → List Dat → Dat → List Dat → Prop} {Pre : List Dat → List Dat → Prop} {E : XK} {tr : TA} {i : Nat} {ds0 : List Dat} (h0 : Lends γ i ds0) (h : EvXA tr γ (fun xs δ => ∃ ds, Lends δ i ds ∧ Pre ds xs ∧ ∀ x ds', Rf ds xs x ds' → S x (relend δ i ds'))) :
    EvX (tCall (PrC Rf Pre) [] E (tCons (tVar i) tr)) γ S := fun A0 H0 A H σ g0 k Q q => by
  obtain ⟨c0, cs0, s0, e1, m1, e2, _⟩ := exa_cons0 (tr := tr) h0 g0 k
  refine ⟨.ref c0, e2, ?_⟩
  refine h A0 H0 A H σ g0 k _ fun us B H1 xs δ hs g1 v1 k1 r1 => ?_
  obtain ⟨ds, hl, hp, hS⟩ := hs
  obtain ⟨c, cs, s, x1, x2, x3, x4, x5, x6, x7, x8⟩ := exa_cons0 (tr := tr) hl g1 k1
  rw [e2] at x3
  cases x3
  refine ⟨B, c0, cs, ds, us, xs, by rw [List.append_nil], g1.sub, x5, x6, x7, r1, hp, fun v C H2 x cs' ds' hR g2 hC h2 rc rx => ?_⟩
  have gL := g1.lent x4 g2
  refine q v C H2 x _ (hS x ds' hR) gL (v1.trans g2.view) ?_ rx
  rcases x8 ds' with z | z
  · rw [z]
    exact k1.lent x1 x2 e2 g2 hC h2 rc (.inl rfl)
  · rw [z]
    exact k1.lent x1 x2 e2 g2 hC h2 rc (.inr rfl)
/-! ### statements -/
theorem runx_asg {i : Nat} (h : EvX te γ (fun x δ => N (δ.set i (.d x)))) : Run (tAsg te (gName i)) γ N R := fun A0 H0 A H σ g0 k D dn dr =>
  h A0 H0 A H σ g0 k _ fun v B H1 x δ hs g1 v1 k1 r1 => dn _ B H1 _ hs g1 v1 (k1.setD r1 i)
theorem runx_ret (h : EvX te γ R) : Run (tRet te) γ N R := fun A0 H0 A H σ g0 k D dn dr =>
  h A0 H0 A H σ g0 k _ fun v B H1 x δ hs g1 v1 k1 r1 => dr v B H1 x σ δ hs g1 k1 r1
theorem runx_drop (h : EvX te γ (fun _ δ => N δ)) : Run (tDrop te) γ N R := fun A0 H0 A H σ g0 k D dn dr =>
  h A0 H0 A H σ g0 k _ fun v B H1 x δ hs g1 v1 k1 r1 => dn _ B H1 _ hs g1 v1 k1
theorem runx_if {S : Bool → Gam → Prop} (h : EvXT t γ S) (h1 : ∀ δ, S true δ → Run tu δ N R) (h2 : ∀ δ, S false δ → Run tw δ N R) : Run (tIfS t tu tw) γ N R := fun A0 H0 A H σ g0 k D dn dr =>
  h A0 H0 A H σ g0 k _ fun b B H1 δ hs g1 v1 k1 => by
    have dn' : ∀ ε C H' σ', N ε → Gr A0 H0 C H' → Ex B C → Ok H0 C H' σ' ε → D.nx σ' H' := fun ε C H' σ' n g2 v2 k2 => dn ε C H' σ' n g2 (v1.trans v2) k2
    cases b with
    | true => exact h1 δ hs A0 H0 B H1 σ g1 k1 D dn' dr
    | false => exact h2 δ hs A0 H0 B H1 σ g1 k1 D dn' dr
/-- a, b = e1, e2 -/
theorem runx_par {i j : Nat} {ta : TA} (h : EvXA ta γ (fun xs δ => ∃ x y, xs = [x, y] ∧ N ((δ.set i (.d x)).set j (.d y)))) : Run (tPar i j ta) γ N R := fun A0 H0 A H σ g0 k D dn dr =>
  h A0 H0 A H σ g0 k _ fun vs B H1 xs δ hs g1 v1 k1 r1 => by
    obtain ⟨x, y, rfl, hn⟩ := hs
    cases r1 with
    | cons r1 r2 =>
      cases r2 with
      | cons r2 r3 =>
        cases r3
        exact ⟨_, _, rfl, dn _ B H1 _ hn g1 v1 ((k1.setD r1 i).setD r2 j)⟩
/-- crate[j] = e -/
theorem run_setB {i j : Nat} {c : Addr} (hi : γ[i]? = some (Slot.b c xs)) (h : EvD te γ x) (hj : j < xs.length) (hn : N (γ.set i (.b c (xs.set j x)))) : Run (tAsg te (gSub (tVar i) (tC (.int (j : Nat))) rSetL)) γ N R := fun A0 H0 A H σ g0 k D dn dr =>
  h H0 A H σ k _ fun v B H1 g1 r1 => by
    have k1 := k.mono g1
    obtain ⟨vs, e1, h0, hB, hH, rv⟩ := k1.bor i c xs hi
    refine ⟨.ref c, e1, c, vs, (j : Int), j, rfl, rfl, hH, Evl.ixN_nat (by rw [rv.len]; exact hj), ?_⟩
    exact dn _ B _ _ hn ((g0.trans g1).mut h0 hB) g1.view (k1.turn hi rfl e1 (fun _ z => nomatch z) (fun _ z => nomatch z) (fun _ z => nomatch z) (fun _ _ z => nomatch z) fun c' ys z => by cases z; exact ⟨rfl, _, rfl, rv.set r1 j⟩)
theorem er_varB {i : Nat} {c : Addr} (h : γ[i]? = some (Slot.b c xs)) : EvR (tVar i) γ xs := fun H0 A H σ k Q q => by
  obtain ⟨vs, a, _, _, b, d⟩ := k.bor i c xs h
  exact ⟨_, a, q c vs A H (Gr.refl k.sub) b d⟩
end
/-! # defs -/
theorem ok_entryC {A H : Hp} {c : Addr} {cs : List V} {ds : List Dat} (s : Ex A H) (hA : A c = none) (hH : H c = some (.lst cs)) (rc : Reps A cs ds) (N : List Str) {vs : List V} {xs : List Dat} (r : Reps A vs xs) (hN : vs.length < N.length) :
    Ok (hide c H) A H (L2.start N (V.ref c :: vs)) (Slot.b c ds :: entry (N.drop 1) xs) := by
  have q := ok_entry s (N.drop 1) r
  have e1 : L2.start N (V.ref c :: vs) = some (V.ref c) :: L2.start (N.drop 1) vs := by
    unfold L2.start
    rw [List.map_cons, List.cons_append, List.length_cons, List.length_drop]
    congr 3
    omega
  rw [e1]
  have no : ∀ (i : Nat) (t : Slot), (entry (N.drop 1) xs)[i]? = some t → t.mine = false ∧ ∀ K m, t ≠ .scr K m := fun i t h => by
    unfold entry at h
    by_cases hi : i < xs.length
    · rw [List.getElem?_append_left (by simpa using hi), List.getElem?_map] at h
      cases e : xs[i]? with
      | none => rw [e] at h; cases h
      | some a => rw [e] at h; cases h; exact ⟨rfl, fun _ _ z => nomatch z⟩
    · rw [List.getElem?_append_right (by simpa using hi), List.getElem?_replicate] at h
      split at h <;> cases h
      exact ⟨rfl, fun _ _ z => nomatch z⟩
  refine ⟨s, by rw [List.length_cons, List.length_cons, q.len], fun i x h => ?_, fun i ys h => ?_, fun i ys h => ?_, fun i d ys h => ?_, fun i K m h => ?_, fun i j l t u h1 h2 h3 h4 h5 h6 => ?_⟩
  · cases i with
    | zero => cases h
    | succ i => exact q.get i x h
  · cases i with
    | zero => cases h
    | succ i => exact absurd (no i _ h).1 (by intro z; cases z)
  · cases i with
    | zero => cases h
    | succ i => exact absurd (no i _ h).1 (by intro z; cases z)
  · cases i with
    | zero =>
      cases h
      exact ⟨cs, rfl, hide_self, hA, hH, rc⟩
    | succ i => exact absurd (no i _ h).1 (by intro z; cases z)
  · cases i with
    | zero => cases h
    | succ i => exact absurd rfl ((no i _ h).2 K m)
  · cases i with
    | zero =>
      cases j with
      | zero => rfl
      | succ j =>
        rw [(no j u h2).1] at h4
        cases h4
    | succ i =>
      rw [(no i t h1).1] at h3
      cases h3
theorem gr_lend {A H : Hp} {c : Addr} (s : Ex A H) : Gr A (hide c H) A H := ⟨fun a o e => by
  by_cases q : a = c
  · subst q
    rw [hide_self] at e
    cases e
  · rwa [hide_ne q] at e, Ex.refl A, s, fun _ _ _ _ n => n⟩
section
variable {P : Program} {w0 : World} {K : PySem.W.Frag} {mg : Str → Option Value} {base : Heap}
theorem fn_prC {x qual : Str} {st : Stmt} {f : Addr} {fd : FuncData} {N ps : List Str} {k : Nat} {Rf : List Dat → List Dat → Dat → List Dat → Prop} {Pre : List Dat → List Dat → Prop} (F : Fun K x qual st f fd) (S : FnScope N ps (defScope st)) (hlen : ∀ ds xs, Pre ds xs → xs.length + 1 = ps.length)
    (hbody : ∀ (cdv : Value) (A : Around) (outer : List PySem.Env) (s : Shared) (H : Hp) (E : XK), Room k (A.deeper (envOfC qual (defScope st) s.heap.objs.size f cdv)) →
      ∃ t, PSs (cxOf CX0 P w0 K mg base N qual (defScope st) f cdv A outer s H E).nox (defBody st) t ∧ ∀ c ds xs, Pre ds xs → Run t (Slot.b c ds :: entry (N.drop 1) xs) (fun δ => ∃ ds', δ[0]? = some (Slot.b c ds') ∧ Rf ds xs .non ds') (fun x δ => ∃ ds', δ[0]? = some (Slot.b c ds') ∧ Rf ds xs x ds')) :
    FnOk P w0 K mg base CX0 (k + 1) f fd ps (PrC Rf Pre) := by
  refine F.ok S (fun vs H Q E h => ?_) fun cdv A outer s H vs Q E hr h => ?_
  · obtain ⟨A, c, cs, ds, us, xs, rfl, _, _, _, _, r, hp, _⟩ := h
    rw [List.length_cons, r.len]
    exact hlen ds xs hp
  · obtain ⟨B, c, cs, ds, us, xs, rfl, sub, hB, hH, rc, r, hp, q⟩ := h
    obtain ⟨t, h1, h2⟩ := hbody cdv A outer s H E hr
    have pl := hlen ds xs hp
    have nl : us.length < N.length := by
      have e := congrArg List.length S.pre
      rw [List.length_take] at e
      rw [r.len]
      omega
    have fin : ∀ (v : V) (C H' : Hp) (z : Dat) (σ' : L2.St) (δ : Gam), (∃ ds', δ[0]? = some (Slot.b c ds') ∧ Rf ds xs z ds') → Gr B (hide c H) C H' → Ok (hide c H) C H' σ' δ → Rep C v z → Q v H' := fun v C H' z σ' δ hz g k' rz => by
      obtain ⟨ds', hd, hR⟩ := hz
      obtain ⟨cs', _, _, hC, hc, rc'⟩ := k'.bor 0 c ds' hd
      exact q v C H' z cs' ds' hR g hC hc rc' rz
    refine ⟨t, h1, h2 c ds xs hp B (hide c H) B H _ (gr_lend sub) (ok_entryC sub hB hH rc N r nl) _ (fun δ C H' σ' hn g _ k' => ?_) fun v C H' z σ' δ hz g k' rz => ?_⟩
    · exact fin .non C H' .non σ' δ hn g k' .non
    · exact fin v C H' z σ' δ hz g k' rz
end
end Fr

set_option Elab.async false
set_option linter.all false
set_option maxRecDepth 100000
set_option maxHeartbeats 4000000
namespace Fr
open PySem PySem.Spec PyProof.Rows L2
open Evl (Ex)
/-! # great powers -/
def CPowW (i j : Int) : Prop := 0 ≤ j ∧ (Builtin.Int.intBits i : Int) * j ≤ 2 ^ 27
theorem op_powW {X : Cx} : OpR X (binaryOp .Pow) (rI CPowW fun i j => .int (i ^ j.toNat)) := opI fun _ _ _ _ _ _ _ hc q => pow_int hc.1 hc.2 q
/-- int(n), abs(n), max(m, n), min(m, n) -/
def rInt1 : List V → Hp → VK → Prop := fun xs H Q => (∃ i, xs = [V.int i] ∧ Q (V.int i) H) ∨ ∃ k, xs = [V.bl k] ∧ Q (V.int (if k = true then 1 else 0)) H
theorem call_int1' {X : Cx} : CallR X (.type "int") rInt1 := call_int1
def rAbs1 : List V → Hp → VK → Prop := fun xs H Q => ∃ i, xs = [V.int i] ∧ Q (V.int (if i < 0 then -i else i)) H
theorem call_abs' {X : Cx} : CallR X (.builtin "abs") rAbs1 := call_abs
def rMax2' : List V → Hp → VK → Prop := fun xs H Q => ∃ i j, xs = [V.int i, V.int j] ∧ Q (V.int (if j > i then j else i)) H
theorem call_max2' {X : Cx} (h : X.calm = true) : CallR X (.builtin "max") rMax2' := call_max2 h
def rMin2' : List V → Hp → VK → Prop := fun xs H Q => ∃ i j, xs = [V.int i, V.int j] ∧ Q (V.int (if j < i then j else i)) H
theorem call_min2' {X : Cx} (h : X.calm = true) : CallR X (.builtin "min") rMin2' := call_min2 h
section
variable {K : PySem.W.Frag} {γ δ : Gam} {ta tb te : TE} {x y z : Dat} {xs ys : List Dat} {S S1 S2 : Dat → Gam → Prop} {N M : Gam → Prop} {R : Dat → Gam → Prop} {tu tw : TS}
theorem r2_powW {i j : Int} (h : CPowW i j) : R2D (rI CPowW fun i j => .int (i ^ j.toNat)) (.int i) (.int j) (.int (i ^ j.toNat)) := r2_I h fun _ => .int _
theorem r2_pow {i j : Int} (h : CPow i j) : R2D (rI CPow fun i j => .int (i ^ j.toNat)) (.int i) (.int j) (.int (i ^ j.toNat)) := r2_I h fun _ => .int _
theorem rc_int1 {i : Int} : RCD rInt1 [.int i] (.int i) := fun A H vs s r Q q => by
  cases r with
  | cons r1 r2 =>
    cases r1
    cases r2
    exact .inl ⟨i, rfl, q _ A H (Gr.refl s) (.int _)⟩
theorem rc_abs1 {i : Int} : RCD rAbs1 [.int i] (.int (if i < 0 then -i else i)) := fun A H vs s r Q q => by
  cases r with
  | cons r1 r2 =>
    cases r1
    cases r2
    exact ⟨i, rfl, q _ A H (Gr.refl s) (.int _)⟩
theorem rc_max2 {i j : Int} : RCD rMax2' [.int i, .int j] (.int (if j > i then j else i)) := fun A H vs s r Q q => by
  cases r with
  | cons r1 r2 =>
    cases r1
    cases r2 with
    | cons r2 r3 =>
      cases r2
      cases r3
      exact ⟨i, j, rfl, q _ A H (Gr.refl s) (.int _)⟩
theorem rc_min2 {i j : Int} : RCD rMin2' [.int i, .int j] (.int (if j < i then j else i)) := fun A H vs s r Q q => by
  cases r with
  | cons r1 r2 =>
    cases r1
    cases r2 with
    | cons r2 r3 =>
      cases r2
      cases r3
      exact ⟨i, j, rfl, q _ A H (Gr.refl s) (.int _)⟩
theorem ev_int1 {i : Int} (h : EvD te γ (.int i)) : EvD (tCB rInt1 (tCons te tNil)) γ (.int i) := ev_cb (ea_cons h ea_nil) rc_int1
/-- a built-in upon what changes -/
theorem ex_cb {rc : List V → Hp → VK → Prop} {tr : TA} (h : EvXA tr γ (fun xs δ => ∃ z, RCD rc xs z ∧ S z δ)) : EvX (tCB rc tr) γ S := fun A0 H0 A H σ g0 k Q q =>
  h A0 H0 A H σ g0 k _ fun vs B H1 xs δ hs g1 v1 k1 r1 => by
    obtain ⟨z, hR, hS⟩ := hs
    exact hR B H1 vs g1.sub r1 Q fun v C H2 g2 r2 => q v C H2 z δ hS (g1.trans g2) (v1.trans g2.view) (k1.mono g2) r2
/-- found.append(e), e a thing that changes the crate -/
theorem runx_app {i : Nat} {ys0 : List Dat} (h0 : γ[i]? = some (Slot.o ys0)) (h : EvX te γ (fun x δ => ∃ xs, δ[i]? = some (Slot.o xs) ∧ xs.length < sizeLine ∧ N (δ.set i (.o (xs ++ [x]))))) : Run (tDrop (tBM K "list" rAppend (tVar i) (tCons te tNil))) γ N R := fun A0 H0 A H σ g0 k D dn dr => by
  obtain ⟨l0, vs0, e0, _, _, hH0, _⟩ := k.own i ys0 h0
  refine ⟨.ref l0, e0, .inl ⟨rfl, vs0, SqL.of hH0⟩, h A0 H0 A H σ g0 k _ fun v B H1 x δ hs g1 v1 k1 r1 => ?_⟩
  obtain ⟨xs, hx, hz, hn⟩ := hs
  obtain ⟨l, vs, e, h0', hB, hH, r⟩ := k1.own i xs hx
  rw [e0] at e
  cases e
  refine ⟨l0, vs, v, rfl, rfl, hH, by rw [r.len]; exact hz, ?_⟩
  exact dn _ B _ σ hn (g1.mut h0' hB) v1 (k1.change hx e0 (r.app (Reps.one r1)))
/-- for k in range(e), e a thing that changes the crate -/
theorem runx_forR {tr : TA} {j : Nat} (I : Int → Nat → Gam → Prop) (h : EvXA tr γ (fun xs δ => ∃ n, xs = [.int n] ∧ -(2 ^ 62) ≤ n ∧ n < 2 ^ 62 ∧ I n 0 δ))
    (hs : ∀ (n : Int) (i : Nat) δ, (i : Int) < n → I n i δ → Run tu (δ.set j (.d (.int (i : Int)))) (I n (i + 1)) R) (hd : ∀ n δ, I n n.toNat δ → N δ) : Run (tFor (iRng1 tr) (gName j) tu) γ N R := fun A0 H0 A H σ g0 k D dn dr =>
  h A0 H0 A H σ g0 k _ fun vs B H1 xs δ hs' g1 v1 k1 r1 => by
    obtain ⟨n, rfl, b1, b2, hI0⟩ := hs'
    cases r1 with
    | cons r1 r2 =>
      cases r1
      cases r2
      refine ⟨n, rfl, b1, b2, for_range (lo := 0) (n := n.toNat) (fun i σ' H' => ∃ δ C, I n i δ ∧ Gr A0 H0 C H' ∧ Ex B C ∧ Ok H0 C H' σ' δ) ⟨δ, B, hI0, g1, Ex.refl B, k1⟩ ?_ ?_⟩
      · rintro i σ' H' hi ⟨δ, C, hI, g2, v2, k2⟩
        have e0 : (0 : Int) + (i : Int) = (i : Int) := Int.zero_add _
        rw [e0]
        have k3 := k2.setD (v := .int (i : Int)) (.int _) j
        exact hs n i δ (by omega) hI A0 H0 C H' _ g2 k3 { D with nx := _, ct := _, bk := D.nx } (fun δ' C' H3 σ4 hN g4 v4 k4 => ⟨δ', C', hN, g4, v2.trans v4, k4⟩) dr
      · rintro σ' H' ⟨δ, C, hI, g2, v2, k2⟩
        exact dn δ C H' σ' (hd n δ hI) g2 (v1.trans v2) k2
end
/-! # the law's crate: a number that is used up, one that is not, and how often it was asked -/
def CrOk (ds : List Dat) (n : Nat) : Prop := ∃ a b k : Int, ds = [.int a, .int b, .int k] ∧ 0 ≤ a ∧ 0 ≤ b ∧ b < 2 ^ 140 ∧ 0 ≤ k ∧ k ≤ (n : Int)
theorem CrOk.mono {ds : List Dat} {n m : Nat} (h : CrOk ds n) (hm : n ≤ m) : CrOk ds m := by
  obtain ⟨a, b, k, e, h1, h2, h3, h4, h5⟩ := h
  exact ⟨a, b, k, e, h1, h2, h3, h4, by omega⟩
theorem fmod_in {x m : Int} (h : 0 < m) : 0 ≤ x.fmod m ∧ x.fmod m < m := by
  rw [Int.fmod_eq_emod_of_nonneg x (by omega)]
  exact ⟨Int.emod_nonneg x (by omega), Int.emod_lt_of_pos x h⟩
theorem bits_of {x : Int} {k : Nat} (h0 : 0 ≤ x) (h : x < 2 ^ k) : Builtin.Int.intBits x ≤ k := by
  refine intBits_le ?_
  have e : (x.natAbs : Int) = x := Int.natAbs_of_nonneg h0
  have e2 : ((2 ^ k : Nat) : Int) = 2 ^ k := by norm_cast
  omega
end Fr

set_option Elab.async false
set_option linter.all false
set_option maxRecDepth 100000
set_option maxHeartbeats 4000000
namespace Fr
open PySem PySem.Spec PyProof.Rows L2
open Evl (Ex)
section
variable {K : PySem.W.Frag} {γ δ : Gam} {ta tb te : TE} {t u : TT} {x y z : Dat} {r : R2} {xs ys : List Dat} {S S1 S2 : Dat → Gam → Prop} {N M : Gam → Prop} {R : Dat → Gam → Prop} {tu tw : TS}
theorem exa_consC {tr : TA} {S : List Dat → Gam → Prop} (h : EvX ta γ (fun x δ => EvXA tr δ (fun xs ε => S (x :: xs) ε))) : EvXA (tCons ta tr) γ S := exa_cons h fun _ _ h => h
theorem ex_opC (h : EvX ta γ (fun x δ => EvX tb δ (fun y ε => ∃ z, R2D r x y z ∧ S z ε))) : EvX (tOp r ta tb) γ S := ex_op h fun _ _ h => h
theorem run_seqC (h : Run tu γ (fun δ => Run tw δ N R) R) : Run (tSeq tu tw) γ N R := run_seq h fun _ h => h
theorem ex_ifP {b : Bool} (h : EvT t γ b) (h1 : b = true → EvX ta γ S) (h2 : b = false → EvX tb γ S) : EvX (tIf t ta tb) γ S :=
  ex_if (S1 := fun b' δ => b' = b ∧ δ = γ) (ext_of h ⟨rfl, rfl⟩) (by rintro δ ⟨e, rfl⟩; exact h1 e.symm) (by rintro δ ⟨e, rfl⟩; exact h2 e.symm)
theorem ex_ifC (h : EvXT t γ (fun b δ => (b = true → EvX ta δ S) ∧ (b = false → EvX tb δ S))) : EvX (tIf t ta tb) γ S := ex_if h (fun _ h => h.1 rfl) fun _ h => h.2 rfl
theorem runx_ifC (h : EvXT t γ (fun b δ => (b = true → Run tu δ N R) ∧ (b = false → Run tw δ N R))) : Run (tIfS t tu tw) γ N R := runx_if h (fun _ h => h.1 rfl) fun _ h => h.2 rfl
theorem CrOk.least {ds : List Dat} {n : Nat} (h : CrOk ds n) : ∃ m : Nat, m ≤ n ∧ CrOk ds m ∧ ∀ k, CrOk ds k → m ≤ k := by
  obtain ⟨a, b, k, e, h1, h2, h3, h4, h5⟩ := h
  refine ⟨k.toNat, by omega, ⟨a, b, k, e, h1, h2, h3, h4, by omega⟩, fun n' h' => ?_⟩
  obtain ⟨a', b', k', e', g1, g2, g3, g4, g5⟩ := h'
  rw [e] at e'
  cases e'
  omega
end
structure CalS (P : Program) (w0 : World) (K : PySem.W.Frag) (mg : Str → Option Value) (base : Heap) (x : Str) (ps : List Str) (k : Nat) (S : Sp) (f : Addr) (fd : FuncData) : Prop where
  ok : FnOk P w0 K mg base CX0 k f fd ps S
  bd : Binds K fd ps []
  at_ : mg x = some (.ref f)
  kp : PySem.W.keepIn K (.ref f) = true
def Bits (ns : List Int) : Prop := ∀ b ∈ ns, b = 0 ∨ b = 1
theorem Bits.nil : Bits [] := fun _ h => nomatch h
theorem Bits.app {ns ms : List Int} (h : Bits ns) (k : Bits ms) : Bits (ns ++ ms) := fun b hb => (List.mem_append.mp hb).elim (h b) (k b)
theorem Bits.one {b : Int} (h : b = 0 ∨ b = 1) : Bits [b] := fun c hc => by
  rw [List.mem_singleton.mp hc]
  exact h
theorem Bits.two {b : Int} (h0 : 0 ≤ b) (h1 : b < 2) : Bits [b] := .one (by omega)
theorem Bits.take {ns : List Int} (h : Bits ns) (n : Nat) : Bits (ns.take n) := fun b hb => h b (List.mem_of_mem_take hb)
theorem Bits.drop {ns : List Int} (h : Bits ns) (n : Nat) : Bits (ns.drop n) := fun b hb => h b (List.mem_of_mem_drop hb)
/-- a def of which only a bound is told -/
def PrX (Pre : List Dat → Prop) (Rf : List Dat → Dat → Prop) : Sp := fun vs H Q _ => ∃ A xs, Ex A H ∧ Reps A vs xs ∧ Pre xs ∧ ∀ v B H' x, Rf xs x → Gr A H B H' → Rep B v x → Q v H'
section
variable {K : PySem.W.Frag} {γ δ : Gam} {ta tb te : TE} {t u : TT} {x y z : Dat} {r : R2} {xs ys : List Dat} {S S1 S2 : Dat → Gam → Prop} {N M : Gam → Prop} {R : Dat → Gam → Prop} {tu tw : TS}
theorem ex_callX {Pre : List Dat → Prop} {Rf : List Dat → Dat → Prop} {E : XK} {tr : TA} (h : EvXA tr γ (fun xs δ => Pre xs ∧ ∀ z, Rf xs z → S z δ)) : EvX (tCall (PrX Pre Rf) [] E tr) γ S := fun A0 H0 A H σ g0 k Q q =>
  h A0 H0 A H σ g0 k _ fun vs B H1 xs δ hs g1 v1 k1 r1 => by
    obtain ⟨hP, hS⟩ := hs
    exact ⟨B, xs, g1.sub, by rw [List.append_nil]; exact r1, hP, fun v C H2 z hR g2 r2 => q v C H2 z δ (hS z hR) (g1.trans g2) (v1.trans g2.view) (k1.mono g2) r2⟩
theorem r2_eqS {a b : Str} : R2D rEq (.str a) (.str b) (.bl (decide (a = b))) := fun A H vx vy s r1 r2 Q q => by
  cases r1
  cases r2
  refine ⟨rfl, q _ A H (Gr.refl s) ?_⟩
  have e : decide (V.str a = V.str b) = decide (a = b) := decide_eq_decide.mpr ⟨fun h => V.str.inj h, fun h => h ▸ rfl⟩
  rw [e]
  exact .bl _
theorem runx_forT {tl : TE} {g : TG} (I : List Dat → Nat → Gam → Prop) (h : EvX tl γ (fun x δ => ∃ xs, x = .tup xs ∧ I xs 0 δ))
    (hs : ∀ xs i x δ, xs[i]? = some x → I xs i δ → ∃ js ε, Tg g js δ x ε ∧ Run tu ε (I xs (i + 1)) R) (hd : ∀ xs δ, I xs xs.length δ → N δ) : Run (tFor (iTup K tl) g tu) γ N R := fun A0 H0 A H σ g0 k D dn dr =>
  h A0 H0 A H σ g0 k _ fun v B H1 x δ hs' g1 v1 k1 r1 => by
    obtain ⟨xs, rfl, h0⟩ := hs'
    cases r1 with
    | @tup a us _ ha ru =>
      refine ⟨a, rfl, ⟨us, SqT.of (g1.sub _ _ ha)⟩, for_tup (K := K) (xs := us) (fun i σ' H' => ∃ δ C, I xs i δ ∧ Gr A0 H0 C H' ∧ Ex B C ∧ Ok H0 C H' σ' δ) ⟨δ, B, h0, g1, Ex.refl B, k1⟩ ?_ ?_ ?_⟩
      · rintro i σ' H' _ ⟨δ, C, _, g2, v2, _⟩
        exact SqT.of (g2.sub _ _ (v2 _ _ ha))
      · rintro i u σ' H' hi ⟨δ, C, hI, g2, v2, k2⟩
        obtain ⟨x, hx, rx⟩ := ru.getV hi
        obtain ⟨js, ε, ht, hr⟩ := hs xs i x δ hx hI
        refine ht H0 C H' σ' u k2 (rx.mono v2) _ fun σ3 k3 _ _ => ?_
        exact hr A0 H0 C H' σ3 g2 k3 { D with nx := _, ct := _, bk := D.nx } (fun δ' C' H3 σ4 hN g4 v4 k4 => ⟨δ', C', hN, g4, v2.trans v4, k4⟩) dr
      · rintro σ' H' ⟨δ, C, hI, g2, v2, k2⟩
        rw [ru.len] at hI
        exact dn δ C H' σ' (hd xs δ hI) g2 (v1.trans v2) k2
theorem w_len {a b : List Int} (h : w a = w b) : a.length = b.length := by
  have e := congrArg List.length (Dat.tup.inj h)
  rwa [List.length_map, List.length_map] at e
theorem run_par {i j : Nat} {ta : TA} (h : EvA ta γ [x, y]) (hn : N ((γ.set i (.d x)).set j (.d y))) : Run (tPar i j ta) γ N R := runx_par (exa_of h ⟨x, y, rfl, hn⟩)
end
section
variable {P : Program} {w0 : World} {K : PySem.W.Frag} {mg : Str → Option Value} {base : Heap}
theorem fn_prX {x qual : Str} {st : Stmt} {f : Addr} {fd : FuncData} {N ps : List Str} {k : Nat} {Pre : List Dat → Prop} {Rf : List Dat → Dat → Prop} (F : Fun K x qual st f fd) (S : FnScope N ps (defScope st)) (hlen : ∀ xs, Pre xs → xs.length = ps.length)
    (hbody : ∀ (cdv : Value) (A : Around) (outer : List PySem.Env) (s : Shared) (H : Hp) (E : XK), Room k (A.deeper (envOfC qual (defScope st) s.heap.objs.size f cdv)) →
      ∃ t, PSs (cxOf CX0 P w0 K mg base N qual (defScope st) f cdv A outer s H E).nox (defBody st) t ∧ ∀ xs, Pre xs → Run t (entry N xs) (fun _ => Rf xs .non) (fun z _ => Rf xs z)) : FnOk P w0 K mg base CX0 (k + 1) f fd ps (PrX Pre Rf) := by
  refine F.ok S (fun vs H Q E h => ?_) fun cdv A outer s H vs Q E hr h => ?_
  · obtain ⟨A, xs, s, r, hP, _⟩ := h
    rw [r.len]
    exact hlen xs hP
  · obtain ⟨B, xs, sub, r, hP, q⟩ := h
    obtain ⟨t, h1, h2⟩ := hbody cdv A outer s H E hr
    refine ⟨t, h1, h2 xs hP B H B H _ (Gr.refl sub) (ok_entry sub N r) _ (fun δ C H' σ' hn g _ k' => ?_) fun v C H' z σ' δ hz g _ rz => ?_⟩
    · exact q _ C H' _ hn g .non
    · exact q v C H' z hz g rz
end
end Fr

set_option Elab.async false
set_option linter.all false
set_option maxRecDepth 100000
set_option maxHeartbeats 4000000
namespace Fr
open PySem PySem.Spec PyProof.Rows L2
open Evl (Ex)
theorem Ok.move {H0 A H H0' A' H' : Hp} {σ : L2.St} {γ : Gam} (k : Ok H0 A H σ γ) (s : Ex A' H') (v : Ex A A') (h : ∀ c o, H0 c = none → A c = none → H c = some o → H0' c = none ∧ A' c = none ∧ H' c = some o) : Ok H0' A' H' σ γ := by
  refine ⟨s, k.len, fun i x q => ?_, fun i xs q => ?_, fun i xs q => ?_, fun i c xs q => ?_, fun i K m q => ?_, k.sep⟩
  · obtain ⟨u, a, b⟩ := k.get i x q
    exact ⟨u, a, b.mono v⟩
  · obtain ⟨a, vs, x1, x2, x3, x4, x5⟩ := k.own i xs q
    obtain ⟨y1, y2, y3⟩ := h a _ x2 x3 x4
    exact ⟨a, vs, x1, y1, y2, y3, x5.mono v⟩
  · obtain ⟨a, vs, x1, x2, x3, x4, x5⟩ := k.ownD i xs q
    obtain ⟨y1, y2, y3⟩ := h a _ x2 x3 x4
    exact ⟨a, vs, x1, y1, y2, y3, x5.mono v⟩
  · obtain ⟨vs, x1, x2, x3, x4, x5⟩ := k.bor i c xs q
    obtain ⟨y1, y2, y3⟩ := h c _ x2 x3 x4
    exact ⟨vs, x1, y1, y2, y3, x5.mono v⟩
  · obtain ⟨a, h1, h2⟩ := k.scr i K m q
    exact ⟨a, h1, Evl.ex_l v h2⟩
theorem Ok.unwipe {H0 A H : Hp} {σ : L2.St} {γ : Gam} {vs : List Nat} (k : Ok H0 A H (L2.wipe σ vs) γ) (hv : ∀ v ∈ vs, ∀ s, γ[v]? = some s → s = .no) : Ok H0 A H σ γ := by
  have at_ : ∀ (i : Nat) (s : Slot), γ[i]? = some s → s ≠ .no → (L2.wipe σ vs)[i]? = σ[i]? := fun i s h n => by
    rw [wipe_get, if_neg fun z => n (hv i z.1 s h)]
  have ne : ∀ s : Slot, s.mine = true → s ≠ .no := fun s m z => by rw [z] at m; cases m
  refine ⟨k.sub, by rw [← wipe_length σ vs]; exact k.len, fun i x q => ?_, fun i xs q => ?_, fun i xs q => ?_, fun i c xs q => ?_, fun i K m q => ?_, fun i j l s t h1 h2 h3 h4 h5 h6 => ?_⟩
  · have := k.get i x q
    rwa [at_ i _ q (by intro z; cases z)] at this
  · have := k.own i xs q
    rwa [at_ i _ q (by intro z; cases z)] at this
  · have := k.ownD i xs q
    rwa [at_ i _ q (by intro z; cases z)] at this
  · have := k.bor i c xs q
    rwa [at_ i _ q (by intro z; cases z)] at this
  · have := k.scr i K m q
    rwa [at_ i _ q (by intro z; cases z)] at this
  · exact k.sep i j l s t h1 h2 h3 h4 (by rw [at_ i s h1 (ne s h3)]; exact h5) (by rw [at_ j t h2 (ne t h4)]; exact h6)
theorem t_yes {σ : L2.St} {H : Hp} {X Y : Hp → Prop} (h : X H) : tYes σ H (fun b H3 => if b = true then X H3 else Y H3) := by
  show if true = true then X H else Y H
  rw [if_pos rfl]
  exact h
section
variable {K : PySem.W.Frag} {γ δ : Gam} {ta tb te : TE} {t u : TT} {x y z : Dat} {xs ys : List Dat} {S S1 S2 : Dat → Gam → Prop} {N M : Gam → Prop} {R : Dat → Gam → Prop} {tu tw : TS}
/-- [e for k in range(n)], n and e things that change what is the frame's own -/
theorem ex_lcRX {tr : TA} {j : Nat} {vs : List Nat} (I : Int → Nat → Gam → List Dat → Prop) (hj : j ∈ vs) (h : EvXA tr γ (fun xs δ => ∃ n, xs = [.int n] ∧ -(2 ^ 62) ≤ n ∧ n < sizeLine ∧ I n 0 (wipeG δ vs) []))
    (hv : ∀ n i δ zs, I n i δ zs → ∀ v ∈ vs, ∀ s, δ[v]? = some s → s = .no)
    (hs : ∀ (n : Int) (i : Nat) δ zs, (i : Int) < n → I n i δ zs → EvX te (δ.set j (.d (.int (i : Int)))) (fun x ε => I n (i + 1) (wipeG ε vs) (zs ++ [x]))) (hd : ∀ n δ zs, I n n.toNat δ zs → S (.lst zs) δ) : EvX (tLc (iRng1 tr) (gName j) tYes te vs) γ S := fun A0 H0 A H σ g0 k Q q =>
  h A0 H0 A H σ g0 k _ fun us B H1 xs δ hs' g1 v1 k1 r1 => by
    obtain ⟨n, rfl, b1, b2, hI0⟩ := hs'
    have hsz : (sizeLine : Int) < 2 ^ 62 := by rw [sizeLine_eq]; decide
    cases r1 with
    | cons r1 r2 =>
      cases r1
      cases r2
      refine ⟨n, rfl, b1, by omega, fun D hD => ?_⟩
      have d0 : H0 D = none := Evl.fresh_back g1.up hD
      have dA : A0 D = none := Evl.fresh_back (g1.view.trans g1.sub) hD
      have dB : B D = none := Evl.fresh_back g1.sub hD
      have e0 : ∀ a o, H0 a = some o → a ≠ D := fun a o e => ne_of_none e d0
      have step : ∀ (C H4 : Hp) (σ2 : L2.St) (ε : Gam) (acc us : List V), Gr A0 (upd H0 D (.lst acc)) C H4 → Ok (upd H0 D (.lst acc)) C H4 σ2 ε → Gr A0 (upd H0 D (.lst us)) C (upd H4 D (.lst us)) ∧ Ok (upd H0 D (.lst us)) C (upd H4 D (.lst us)) σ2 ε := fun C H4 σ2 ε acc us g k => by
        have cD : C D = none := g.hid D _ upd_same True.intro dA
        refine ⟨⟨fun a o e => ?_, g.view, g.sub.mut cD, fun a o e m nn => ?_⟩, k.move (g.sub.mut cD) (Ex.refl C) fun c o x1 x2 x3 => ?_⟩
        · by_cases z : a = D
          · subst z
            rw [upd_same] at e ⊢
            exact e
          · rw [upd_ne z] at e ⊢
            exact g.up a o (by rw [upd_ne z]; exact e)
        · by_cases z : a = D
          · subst z
            exact cD
          · rw [upd_ne z] at e
            exact g.hid a o (by rw [upd_ne z]; exact e) m nn
        · have z : c ≠ D := fun z => by
            subst z
            rw [upd_same] at x1
            cases x1
          rw [upd_ne z] at x1 ⊢
          exact ⟨x1, x2, by rw [upd_ne z]; exact x3⟩
      refine lc_range (lo := 0) (n := n.toNat) (fun i H' => ∃ C δ acc zs, I n i δ zs ∧ zs.length = i ∧ Gr A0 (upd H0 D (.lst acc)) C H' ∧ Ex B C ∧ Ok (upd H0 D (.lst acc)) C H' (L2.wipe σ vs) δ ∧ Reps C acc zs) ?_ ?_ ?_
      · refine ⟨B, wipeG δ vs, [], [], hI0, rfl, ⟨fun a o e => ?_, g1.view, g1.sub.trans (Ex.new hD), fun a o e m nn => ?_⟩, Ex.refl B, (k1.wipe vs).move (g1.sub.trans (Ex.new hD)) (Ex.refl B) fun c o x1 x2 x3 => ?_, .nil⟩
        · by_cases z : a = D
          · subst z
            rw [upd_same] at e ⊢
            exact e
          · rw [upd_ne z] at e ⊢
            exact g1.up a o e
        · by_cases z : a = D
          · subst z
            exact dB
          · rw [upd_ne z] at e
            exact g1.hid a o e m nn
        · have z : c ≠ D := ne_of_none x3 hD
          rw [upd_ne z]
          exact ⟨x1, x2, by rw [upd_ne z]; exact x3⟩
      · rintro i H' hi ⟨C, δ, acc, zs, hI, hl, g2, v2, k2, r2⟩
        have ez : (0 : Int) + (i : Int) = (i : Int) := Int.zero_add _
        rw [ez]
        have back : L2.wipe ((L2.wipe σ vs).set j (some (V.int (i : Int)))) vs = L2.wipe σ vs := wipe_back (js := [j]) (by rw [List.length_set]) (fun a ha => by rw [List.getElem?_set_ne (fun e => ha (by rw [e]; exact List.mem_singleton.mpr rfl))]) fun a ha => by rw [List.mem_singleton.mp ha]; exact hj
        refine ⟨back, ?_⟩
        refine t_yes ?_
        refine hs n i δ zs (by omega) hI A0 _ C H' _ g2 (k2.setD (v := .int (i : Int)) (.int _) j) _ fun yv C3 H4 x ε hI3 g3 v3 k3 r3 => ?_
        refine ⟨acc, g3.up _ _ upd_same, by rw [r2.len]; omega, C3, wipeG ε vs, acc ++ [yv], zs ++ [x], hI3, by rw [List.length_append, List.length_singleton, hl], ?_⟩
        have k4 := k3.wipe vs
        rw [back] at k4
        obtain ⟨s1, s2⟩ := step C3 H4 (L2.wipe σ vs) (wipeG ε vs) acc (acc ++ [yv]) g3 k4
        exact ⟨s1, v2.trans v3, s2, (r2.mono v3).app (Reps.one r3)⟩
      · rintro H' ⟨C, δ, acc, zs, hI, hl, g2, v2, k2, r2⟩
        have cD : C D = none := g2.hid D _ upd_same True.intro dA
        have hD' : H' D = some (.lst acc) := g2.up _ _ upd_same
        have g3 : Gr A0 H0 C H' := ⟨fun a o e => g2.up a o (by rw [upd_ne (e0 a o e)]; exact e), g2.view, g2.sub, fun a o e m nn => g2.hid a o (by rw [upd_ne (e0 a o e)]; exact e) m nn⟩
        have g4 := g3.show hD' d0 cD
        refine q (.ref D) _ H' _ δ (hd n δ zs hI) g4 ((v1.trans v2).trans (Ex.new cD)) ?_ (.lst upd_same (r2.mono (Ex.new cD)))
        refine (k2.unwipe (hv n _ δ zs hI)).move g4.sub (Ex.new cD) fun c o x1 x2 x3 => ?_
        have z : c ≠ D := fun z => by
          subst z
          rw [upd_same] at x1
          cases x1
        rw [upd_ne z] at x1 ⊢
        exact ⟨x1, x2, x3⟩
def EvXO (to : TO) (γ : Gam) (S : Option Int → Gam → Prop) : Prop := ∀ A0 H0 A H σ, Gr A0 H0 A H → Ok H0 A H σ γ → ∀ Q : Option Int → Hp → Prop, (∀ b B H' δ, S b δ → Gr A0 H0 B H' → Ex A B → Ok H0 B H' σ δ → Q b H') → to σ H Q
theorem exo_none {S : Option Int → Gam → Prop} (h : S none γ) : EvXO tNoPart γ S := fun A0 H0 A H σ g0 k Q q => q none A H γ h g0 (Ex.refl A) k
theorem exo_some {S : Option Int → Gam → Prop} (h : EvX te γ (fun x δ => ∃ i, x = .int i ∧ S (some i) δ)) : EvXO (tPart te) γ S := fun A0 H0 A H σ g0 k Q q =>
  h A0 H0 A H σ g0 k _ fun v B H1 x δ hs g1 v1 k1 r1 => by
    obtain ⟨i, rfl, hS⟩ := hs
    cases r1
    exact ⟨i, rfl, q _ B H1 δ hS g1 v1 k1⟩
theorem ex_cut {tl th : TO} (h : EvX te γ (fun x δ => ∃ ns, x = w ns ∧ EvXO tl δ (fun lo ε => EvXO th ε (fun hi ζ => S (w (cutI ns lo hi)) ζ)))) : EvX (tSl (rSlA K) te tl th) γ S := fun A0 H0 A H σ g0 k Q q =>
  h A0 H0 A H σ g0 k _ fun v B H1 x δ hs g1 v1 k1 r1 => by
    obtain ⟨ns, rfl, o1⟩ := hs
    refine o1 A0 H0 B H1 σ g1 k1 _ fun lo C H2 ε o2 g2 v2 k2 => o2 A0 H0 C H2 σ g2 k2 _ fun hi D H3 ζ hS g3 v3 k3 => ?_
    have hS : S (w (cutI ns lo hi)) ζ := hS
    rw [show w (cutI ns lo hi) = .tup (cutA (ns.map Dat.int) lo hi) by rw [cutA_map]; rfl] at hS
    cases r1 with
    | @tup a us _ ha R =>
      have vv := v2.trans v3
      refine ⟨a, us, rfl, SqT.of (g3.sub _ _ (vv _ _ ha)), fun e => ?_, fun _ p hp => ?_⟩
      · have ew : cutA (ns.map Dat.int) lo hi = ns.map Dat.int := by
          unfold cutA
          rw [← R.len, e.1, e.2, List.drop_zero, R.len]
          exact List.take_length
        rw [ew] at hS
        exact q _ D H3 _ ζ hS g3 (v1.trans vv) k3 (.tup (vv _ _ ha) (R.mono vv))
      · have g4 := Gr.new (o := .tup (cutV us lo hi)) g3.sub hp
        exact q _ _ _ _ ζ hS (g3.trans g4) ((v1.trans vv).trans g4.view) (k3.mono g4) (.tup upd_same ((R.mono vv).cut.mono g4.view))
end
end Fr

set_option Elab.async false
set_option linter.all false
set_option maxRecDepth 100000
set_option maxHeartbeats 4000000
namespace Fr
open PySem PySem.Spec PyProof.Rows L2
open Evl (Ex)
/-! # sorted: words of unlike lengths, none empty -/
theorem lex_asym : ∀ x y : List Int, HT.lexLt x y = true → HT.lexLt y x = false
  | [], [], h => by cases h
  | [], _ :: _, _ => rfl
  | _ :: _, [], h => by cases h
  | x :: xs, y :: ys, h => by
    rw [HT.lexLt_cons] at h ⊢
    by_cases e : x = y
    · subst e
      rw [if_pos rfl] at h ⊢
      exact lex_asym xs ys h
    · rw [if_neg e] at h
      rw [if_neg (fun z => e z.symm)]
      have := of_decide_eq_true h
      exact decide_eq_false (by omega)
theorem lex_tr : ∀ x y z : List Int, HT.lexLt y x = false → HT.lexLt z y = false → HT.lexLt z x = false
  | [], [], [], _, _ => rfl
  | [], [], _ :: _, _, _ => rfl
  | [], _ :: _, [], _, h => by cases h
  | [], _ :: _, _ :: _, _, _ => rfl
  | _ :: _, [], _, h, _ => by cases h
  | _ :: _, _ :: _, [], _, h => by cases h
  | x :: xs, y :: ys, z :: zs, h1, h2 => by
    rw [HT.lexLt_cons] at h1 h2 ⊢
    by_cases e1 : y = x
    · subst e1
      rw [if_pos rfl] at h1
      by_cases e2 : z = y
      · subst e2
        rw [if_pos rfl] at h2 ⊢
        exact lex_tr xs ys zs h1 h2
      · rw [if_neg e2] at h2 ⊢
        exact h2
    · rw [if_neg e1] at h1
      have a1 := of_decide_eq_false h1
      by_cases e2 : z = y
      · subst e2
        rw [if_neg e1]
        exact h1
      · rw [if_neg e2] at h2
        have a2 := of_decide_eq_false h2
        rw [if_neg (by omega)]
        exact decide_eq_false (by omega)
/-- two of which none is above the other are one -/
theorem lex_tri : ∀ x y : List Int, HT.lexLt x y = false → HT.lexLt y x = false → x = y
  | [], [], _, _ => rfl
  | [], _ :: _, h, _ => by cases h
  | _ :: _, [], _, h => by cases h
  | x :: xs, y :: ys, h1, h2 => by
    rw [HT.lexLt_cons] at h1 h2
    by_cases e : x = y
    · subst e
      rw [if_pos rfl] at h1 h2
      rw [lex_tri xs ys h1 h2]
    · rw [if_neg e] at h1
      rw [if_neg (fun z => e z.symm)] at h2
      have a1 := of_decide_eq_false h1
      have a2 := of_decide_eq_false h2
      omega
theorem swo_words {α : Type} (k : α → List Int) : SrtO.Swo fun v u => HT.lexLt (k v) (k u) := ⟨fun x y => lex_asym _ _, fun x y z => lex_tr _ _ _⟩
section
variable {prog : Program} {w : World} {A : Around} {E : Value → Shared → Prop} {s : Shared}
theorem kat_words {Q : Bool → Shared → Prop} {b fin : Bool} {xs ys : List Value} {ns ms : List Int} (i : Nat) (hx : IntsAre xs ns) (hy : IntsAre ys ms) (hf : fin = decide (ns.length < ms.length)) (h : Q (HT.lexLt ns ms) s) : PySem.W.KatLex prog w A b fin Q (xs.zip ys) i s := by
  induction hx generalizing ys ms i with
  | nil =>
    cases hy with
    | nil =>
      subst hf
      exact PySem.W.kat_nil h
    | cons q u hy =>
      have e : fin = true := by rw [hf]; exact decide_eq_true (Nat.zero_lt_succ _)
      subst e
      exact PySem.W.kat_nil h
  | @cons p t xs ns hx ih =>
    cases hy with
    | nil =>
      have e : fin = false := by rw [hf]; exact decide_eq_false (Nat.not_lt_zero _)
      subst e
      exact PySem.W.kat_nil h
    | @cons q u ys ms hy =>
      show PySem.W.KatLex prog w A b fin Q ((Value.int p t, Value.int q u) :: xs.zip ys) i s
      refine PySem.W.kat_cons (wpAny_eqBool_int ?_)
      rw [HT.lexLt_cons] at h
      have hf' : fin = decide (ns.length < ms.length) := by
        rw [hf]
        exact decide_eq_decide.mpr (by rw [List.length_cons, List.length_cons]; omega)
      by_cases e : p = q
      · subst e
        rw [beq_self_eq_true]
        rw [if_pos rfl] at h
        exact PySem.W.kat_yes (ih (i + 1) hy hf' h)
      · rw [show (p == q) = false from beq_eq_false_iff_ne.mpr e]
        rw [if_neg e] at h
        exact PySem.W.kat_no (TS.oneLt_ints _ h)
/-- each is a tuple of ints, not the empty one -/
def WordsAre (h : Heap) (k : Value → List Int) (vs : List Value) : Prop := ∀ v ∈ vs, TS.TupInts h v (k v) ∧ 0 < (k v).length
theorem words_firsts {h : Heap} {k : Value → List Int} : ∀ vs : List Value, WordsAre h k vs → ∃ fs, PySem.W.KatTups h vs fs ∧ fs.length = vs.length ∧ ∀ f, f ∈ fs → ∃ n t, f = Value.int n t
  | [], _ => ⟨[], PySem.W.KatTups.nil, rfl, fun f hf => by simp at hf⟩
  | v :: vs, x => by
    obtain ⟨fs, kk, hl, hi⟩ := words_firsts vs fun u hu => x u (List.mem_cons_of_mem _ hu)
    obtain ⟨⟨a, xs, rfl, ⟨o, ho, hc, n, hdt⟩, i⟩, hn⟩ := x v List.mem_cons_self
    obtain ⟨y, ys, e⟩ : ∃ y ys, xs.toList = y :: ys := by
      cases q : xs.toList with
      | nil =>
        have l := i.length
        rw [q, List.length_nil] at l
        omega
      | cons y ys => exact ⟨y, ys, rfl⟩
    obtain ⟨m, t, hy⟩ := i.all y (by rw [e]; exact List.mem_cons_self)
    refine ⟨y :: fs, PySem.W.KatTups.cons ho hc hdt ?_ kk, by simp [hl], ?_⟩
    · have z := congrArg (fun l : List Value => l[0]?) e
      simpa using z
    · intro f hf
      rcases List.mem_cons.mp hf with rfl | hf
      · exact ⟨m, t, hy⟩
      · exact hi f hf
theorem words_cmp {k : Value → List Int} {vs : List Value} (hp : WordsAre s.heap k vs) : SrtO.Cmp prog w A s (tuples' true) (fun p => p.1 ∈ vs) (SrtO.lt2 fun v u => HT.lexLt (k v) (k u)) := by
  intro p q hm hm'
  obtain ⟨⟨a, xs, e1, ⟨o, ho, hc, n, hdt⟩, i⟩, _⟩ := hp _ hm
  obtain ⟨⟨a', ys, e2, ⟨o', ho', hc', n', hdt'⟩, i'⟩, _⟩ := hp _ hm'
  show wpAny (model prog w) A (keyLt' (tuples' true) p.1 q.1) (fun r s' => s' = s ∧ r = HT.lexLt (k p.1) (k q.1)) (fun _ _ => False) s
  generalize k p.1 = ns at i ⊢
  generalize k q.1 = ms at i' ⊢
  rw [e1, e2]
  refine PySem.W.kat_lt ho hdt ho' hdt' (kat_words 0 i i' ?_ ⟨rfl, rfl⟩)
  have l1 := i.length
  have l2 := i'.length
  rw [Array.length_toList] at l1 l2
  rw [l1, l2]
theorem words_sortable {a : Addr} {k : Value → List Int} {vs : List Value} (h0 : 0 < vs.length) (hp : WordsAre s.heap k vs) (ha : ∀ o, s.heap.get? a = some o → o.cls ≠ .type "tuple") : SrtO.SortableO prog w A s a vs fun v u => HT.lexLt (k v) (k u) := by
  intro h' keep
  have hp' : WordsAre h' k vs := fun v hm => ⟨(hp v hm).1.keeps fun b o e c => keep b o (fun z => by subst z; exact ha o e c) e, (hp v hm).2⟩
  obtain ⟨fs, h1, h2, h3⟩ := words_firsts vs hp'
  refine ⟨tuples' true, fun Q E hq => ?_, words_cmp hp'⟩
  refine PySem.W.kat_kind (T := .type "int") h1 (by omega) (fun f hm => ?_) (by rfl) ?_
  · obtain ⟨x, t, rfl⟩ := h3 f hm
    exact PySem.W.Looks.now
  · have e : (Value.type "int" != Value.type "tuple") = true := by first | decide +kernel | rfl | decide
    rw [e]
    exact hq
end
/-- sorted(xs), xs a list of words, none empty (k says which) -/
def rSortedI (K : PySem.W.Frag) : List V → Hp → VK → Prop := fun vs H Q => ∃ (a : Addr) (xs : List V) (k : V → List Int), vs = [V.ref a] ∧ SqL K H a xs ∧ (∀ x ∈ xs, ∃ t, x = V.ref t ∧ H t = some (.tup ((k x).map V.int)) ∧ 0 < (k x).length) ∧
  ∀ (ys : List V) (p : Addr), SrtO.Srtd (fun x y => HT.lexLt (k x) (k y)) ys → ys.Perm xs → H p = none → Q (.ref p) (upd H p (.lst ys))
theorem cr_sortedI {X : Cx} : CallR X (.builtin "sorted") (rSortedI X.K) := by
  intro pins s σ H vs us Q I r h
  obtain ⟨a, xs, k, rfl, hs, hx, q⟩ := h
  obtain ⟨its, rv, hl, hz⟩ := I.list hs
  obtain ⟨u, rfl, ru⟩ := vals1 r
  obtain rfl : u = Value.ref a := ru
  obtain ⟨e1, e2⟩ := refs_back rv fun x m => by
    obtain ⟨t, e, _⟩ := hx x m
    exact ⟨t, e⟩
  have hp : WordsAre s.heap (fun u => k (backV u)) its := fun v hv => by
    obtain ⟨t, rfl⟩ := e2 v hv
    have hm : V.ref t ∈ xs := by rw [e1]; exact List.mem_map.mpr ⟨_, hv, rfl⟩
    obtain ⟨t', e, ht, hn⟩ := hx _ hm
    cases e
    obtain ⟨_, its2, r2, o⟩ := I.hok _ _ ht
    exact ⟨⟨t, _, rfl, o, r2.ints⟩, hn⟩
  refine SrtO.sorted_ord (swo_words fun u => k (backV u)) hl.isList (by rw [← rv.length]; exact hz) (fun h2 h₁ a' ha' kk => ?_) fun out h1 h2 => ?_
  · refine words_sortable (s := { s with heap := h₁ }) (by omega) (fun v hm => ⟨(hp v hm).1.keeps fun b o e _ => (kk b o e).2, (hp v hm).2⟩) fun o e => ?_
    have e' : some o = some (seqObj "list" its.toArray 0) := e.symm.trans ha'
    cases e'
    intro c
    exact absurd (Value.type.inj c) (by decide)
  · have h3 : ∀ u ∈ out, ∃ a, u = Value.ref a := fun u hu => e2 u (h2.perm.mem_iff.mp hu)
    obtain ⟨n, hn⟩ := sortedAll_at s.heap its out.toArray
    have hb : SrtO.Stb (fun x y => HT.lexLt (k x) (k y)) (out.map backV) xs := by
      rw [e1]
      exact SrtO.Stb.map (swo_words k) backV h2
    refine ⟨.ref (s.heap.objs.size + 1), upd H (s.heap.objs.size + 1) (.lst (out.map backV)), I.laid (t' := s.toks) (fun _ _ => PyProof.Rows.sortedAll_old) (Nat.le_succ _) ⟨?_, out, n, vals_back h3, hn⟩, rfl, q _ _ (SrtO.srtd_map h1) hb.perm (I.hok.fresh (Nat.le_succ _))⟩
    rw [hb.len]
    exact hz
theorem cr_sortedIK {X : Cx} {K : PySem.W.Frag} (e : X.K = K) : CallR X (.builtin "sorted") (rSortedI K) := e ▸ cr_sortedI
section
variable {K : PySem.W.Frag} {γ δ : Gam} {ta tb te : TE} {t u : TT} {x y z : Dat} {xs ys : List Dat} {N M : Gam → Prop} {R : Dat → Gam → Prop} {tu tw : TS}
end
end Fr

set_option Elab.async false
set_option linter.all false
set_option maxRecDepth 100000
set_option maxHeartbeats 4000000
namespace Fr
open PySem PySem.Spec PyProof.Rows L2
open Evl (Ex)
/-! # a tuple times an int that is 1 or more -/
theorem tuple_mul1 (l : Addr) (items : Array Value) (n : Nat) (dd : Option Addr) (sl : Array (Option Value)) (u : Tok) : Meets (Builtin.«tuple.__mul__» ⟨[.ref l, .int 1 u], []⟩) (fun _ R s => s.heap.get? l = some { cls := .type "tuple", dict := dd, data := .seq items n, slots := sl } ∧ R (.ok (.ret (Value.ref l))) s) :=
  .of_wp fun prog w A R s h => by
    obtain ⟨hp, g, d, tk, os⟩ := s
    obtain ⟨hl, h⟩ := h
    have f1 := AutoSeq1.idx_int
    wp_walk using wpAny_loadPart' hl
    exact ⟨_, rfl, h⟩
def rRepA (K : PySem.W.Frag) : R2 := fun x y H Q => rRepT K x y H Q ∨ ∃ l xs, x = .ref l ∧ y = .int 1 ∧ SqT K H l xs ∧ Q (.ref l) H
theorem op_repA {X : Cx} : OpR X (binaryOp .Mult) (rRepA X.K) := by
  intro pins s σ H x y v u Q I rx ry h
  rcases h with h | ⟨l, xs, rfl, rfl, hT, q⟩
  · exact op_repT pins s σ H x y v u Q I rx ry h
  · cases rx
    obtain ⟨t, rfl⟩ := ry
    obtain ⟨its, r, ⟨⟨cls, dd, data, sl⟩, ho, hc, n, hd⟩, hs⟩ := I.tuple hT
    simp only at hc hd
    subst hc hd
    exact wpAny_binaryOp_repeat_ref (T := "tuple") (U := "int") (by decide) ⟨_, ho, rfl⟩ (fun s' => typeIs_int s' 1 t) noFill_tuple_mul F.fills_int_mul F.slot_int_rmul repeat_tuple F.slot_int_index.lookup
      (call_meets F.slot_int_rmul (typeIs_int s 1 t) F.entry_int_rmul (F.args_int_rmul_2 _ _) (int_rmul_tuple 1 t l its.toArray n dd sl)
        ⟨ho, rfl, ⟨_, ho, rfl⟩, call_meets F.slot_tuple_mul ⟨_, ho, rfl⟩ F.entry_tuple_mul (F.args_tuple_mul_2 _ _) (tuple_mul1 l its.toArray n dd sl t) ⟨ho, ⟨.ref l, H, I, rfl, q⟩⟩⟩)
theorem op_repAK {X : Cx} {K : PySem.W.Frag} (e : X.K = K) : OpR X (binaryOp .Mult) (rRepA K) := e ▸ op_repA
def repW (k : Nat) (ns : List Int) : List Int := (List.replicate k ns).flatten
theorem repW_len (k : Nat) (ns : List Int) : (repW k ns).length = k * ns.length := by
  unfold repW
  rw [List.length_flatten, List.map_replicate, List.sum_replicate_nat]
section
variable {K : PySem.W.Frag} {γ δ : Gam} {ta tb te td tk tv : TE} {t u : TT} {x y z : Dat} {xs ys : List Dat} {es : List (List L2.Key × Dat)} {S : Dat → Gam → Prop} {N M : Gam → Prop} {R : Dat → Gam → Prop} {tu tw : TS}
theorem Reps.rep {A : Hp} {us : List V} (r : Reps A us xs) : ∀ k : Nat, Reps A (List.replicate k us).flatten (List.replicate k xs).flatten
  | 0 => .nil
  | k + 1 => by
    rw [List.replicate_succ, List.replicate_succ, List.flatten_cons, List.flatten_cons]
    exact r.app (Reps.rep r k)
theorem r2_rep {ns : List Int} {k : Int} (h0 : 0 < ns.length) (h1 : ns.length ≤ 1000) (k1 : 1 ≤ k) (k2 : k ≤ 1000) : R2D (rRepA K) (w ns) (.int k) (w (repW k.toNat ns)) := fun A H vx vy s r1 r2 Q q => by
  cases r2
  have e : w (repW k.toNat ns) = .tup (List.replicate k.toNat (ns.map Dat.int)).flatten := by
    unfold w repW
    rw [List.map_flatten, List.map_replicate]
  rw [e] at q
  cases r1 with
  | @tup a us _ ha R =>
    have ul : us.length = ns.length := by rw [R.len, List.length_map]
    by_cases z : k = 1
    · subst z
      refine .inr ⟨a, us, rfl, rfl, SqT.of (s _ _ ha), q _ A H (Gr.refl s) ?_⟩
      have e2 : (List.replicate (1 : Int).toNat (ns.map Dat.int)).flatten = ns.map Dat.int := by
        show (List.replicate 1 (ns.map Dat.int)).flatten = _
        simp
      rw [e2]
      exact .tup ha R
    · refine .inl ⟨a, k, us, rfl, rfl, SqT.of (s _ _ ha), fun z => by rw [z] at ul; rw [List.length_nil] at ul; omega, by omega, k2, by omega, fun p hp => ?_⟩
      have g := Gr.new (o := .tup (List.replicate k.toNat us).flatten) s hp
      exact q _ _ _ g (.tup upd_same ((R.rep k.toNat).mono g.view))
/-! # sorted -/
def sortW (ks : List (List Int)) : List (List Int) := ks.mergeSort fun x y => !HT.lexLt y x
theorem sortW_perm (ks : List (List Int)) : (sortW ks).Perm ks := List.mergeSort_perm _ _
theorem sortW_srtd (ks : List (List Int)) : SrtO.Srtd HT.lexLt (sortW ks) := by
  have h := List.pairwise_mergeSort (le := fun x y => !HT.lexLt y x) (fun a b c h1 h2 => by
    rw [Bool.not_eq_true'] at h1 h2 ⊢
    exact lex_tr a b c h1 h2) (fun a b => by
    cases q : HT.lexLt b a with
    | false => rfl
    | true =>
      rw [lex_asym b a q]
      rfl) ks
  exact h.imp fun h => by rwa [Bool.not_eq_true'] at h
theorem srtd_one : ∀ {l m : List (List Int)}, SrtO.Srtd HT.lexLt l → SrtO.Srtd HT.lexLt m → l.Perm m → l = m
  | [], m, _, _, h => (List.Perm.eq_nil h.symm).symm
  | x :: l, [], _, _, h => List.Perm.eq_nil h
  | x :: l, y :: m, h1, h2, h => by
    have a1 := List.pairwise_cons.mp h1
    have a2 := List.pairwise_cons.mp h2
    have e : x = y := by
      have hx : x ∈ y :: m := h.mem_iff.mp List.mem_cons_self
      have hy : y ∈ x :: l := h.mem_iff.mpr List.mem_cons_self
      rcases List.mem_cons.mp hx with z | z
      · exact z
      · rcases List.mem_cons.mp hy with z2 | z2
        · exact z2.symm
        · exact lex_tri _ _ (a2.1 x z) (a1.1 y z2)
    subst e
    rw [srtd_one a1.2 a2.2 h.cons_inv]
def numV : V → Int
  | .int i => i
  | _ => 0
theorem nums_ints (ns : List Int) : (ns.map V.int).map numV = ns := by
  rw [List.map_map]
  exact List.map_id _
def wordAt (H : Hp) : V → List Int
  | .ref t => match H t with
    | some (.tup vs) => vs.map numV
    | _ => []
  | _ => []
theorem wordAt_rep {A H : Hp} (s : Ex A H) {v : V} {ns : List Int} (r : Rep A v (w ns)) : wordAt H v = ns ∧ ∃ t, v = .ref t ∧ H t = some (.tup (ns.map V.int)) := by
  cases r with
  | @tup a us _ ha R =>
    have e := R.ints
    subst e
    have hH := s _ _ ha
    exact ⟨by simp only [wordAt, hH]; exact nums_ints ns, a, rfl, hH⟩
theorem words_at {A H : Hp} (s : Ex A H) : ∀ {us : List V} {ks : List (List Int)}, Reps A us (ks.map w) → us.map (wordAt H) = ks ∧ ∀ u ∈ us, Rep A u (w (wordAt H u)) ∧ wordAt H u ∈ ks
  | _, [], .nil => ⟨rfl, fun _ h => nomatch h⟩
  | _, k :: ks, .cons (v := u) (vs := us) r rs => by
    obtain ⟨h1, h2⟩ := words_at s rs
    obtain ⟨h3, _⟩ := wordAt_rep s r
    refine ⟨by rw [List.map_cons, h3, h1], fun u' hu => ?_⟩
    rcases List.mem_cons.mp hu with rfl | hu
    · rw [h3]
      exact ⟨r, List.mem_cons_self⟩
    · exact ⟨(h2 u' hu).1, List.mem_cons_of_mem _ (h2 u' hu).2⟩
theorem reps_words {A H : Hp} : ∀ {us : List V}, (∀ u ∈ us, Rep A u (w (wordAt H u))) → Reps A us ((us.map (wordAt H)).map w)
  | [], _ => .nil
  | u :: us, h => .cons (h u List.mem_cons_self) (reps_words fun v hv => h v (List.mem_cons_of_mem _ hv))
theorem en_sorted {ks : List (List Int)} (h : EvR te γ (ks.map w)) (hk : ∀ k ∈ ks, 0 < k.length) : EvN (tCB (rSortedI K) (tCons te tNil)) γ ((sortW ks).map w) := fun H0 A H σ k Q q =>
  h H0 A H σ k _ fun l vs B H1 g1 h1 r1 => by
    obtain ⟨e1, e2⟩ := words_at g1.sub r1
    refine ⟨l, vs, wordAt H1, rfl, SqL.of h1, fun x hx => ?_, fun ys p hs hp hn => ?_⟩
    · obtain ⟨a1, a2⟩ := e2 x hx
      obtain ⟨_, t, b1, b2⟩ := wordAt_rep g1.sub a1
      exact ⟨t, b1, b2, hk _ a2⟩
    · have g2 := Gr.newU (o := .lst ys) g1.sub hn
      have e3 : ys.map (wordAt H1) = sortW ks := srtd_one (List.pairwise_map.mpr hs) (sortW_srtd ks) (by
        have := hp.map (wordAt H1)
        rw [e1] at this
        exact this.trans (sortW_perm ks).symm)
      refine q p ys B _ (g1.trans g2) (Evl.fresh_back g1.up hn) (Evl.fresh_back g1.sub hn) upd_same ?_
      rw [← e3]
      exact reps_words fun u hu => (e2 u (hp.mem_iff.mp hu)).1
/-! # list(d), d a dict with tuple keys -/
def rListDT : List V → Hp → VK → Prop := fun xs H Q => ∃ d kvs, xs = [V.ref d] ∧ Rd H d (.dT kvs) ∧ ∀ p bs, H p = none → IsKeys H kvs bs → Q (.ref p) (upd H p (.lst (bs.map V.ref)))
theorem call_list_dT' {X : Cx} (hc : X.calm = true) : CallR X (.type "list") rListDT := call_list_dT hc
theorem keys_show {H : Hp} : ∀ {kvs : List (List L2.Key × V)} {bs : List Addr}, IsKeys H kvs bs → ∀ {A : Hp} {es : List (List L2.Key × Dat)} {ks : List (List Int)}, Ex A H → RepsK A kvs es → es.map (·.1) = ks.map kw → ∃ B, Gr A H B H ∧ Reps B (bs.map V.ref) (ks.map w)
  | _, _, .nil, A, _, ks, s, .nil, hk => by
    cases ks with
    | nil => exact ⟨A, Gr.refl s, .nil⟩
    | cons k ks => cases hk
  | _, _, .cons h t, A, _, ks, s, .cons r rs, hk => by
    cases ks with
    | nil => cases hk
    | cons k ks =>
      obtain ⟨e1, e2⟩ := List.cons.inj hk
      have g1 := Gr.tup s h
      obtain ⟨B, g2, r2⟩ := keys_show t g1.sub (rs.mono g1.view) e2
      have ek : (kw k).map kV = k.map V.int := by
        unfold kw
        rw [List.map_map]
        rfl
      refine ⟨B, g1.trans g2, .cons (.tup (g2.view _ _ upd_same) ?_) r2⟩
      have e3 : _ = kw k := e1
      simp only at e3
      rw [e3, ek]
      exact Reps.ofInts k
theorem en_listD {ks : List (List Int)} (h : EvK te γ es) (hk : es.map (·.1) = ks.map kw) : EvN (tCB rListDT (tCons te tNil)) γ (ks.map w) := fun H0 A H σ k Q q =>
  h H0 A H σ k _ fun l kvs B H1 g1 h1 r1 => by
    refine ⟨l, kvs, rfl, .inl h1, fun p bs hp hb => ?_⟩
    obtain ⟨C, g2, r2⟩ := keys_show hb g1.sub r1 hk
    have g3 := Gr.newU (o := .lst (bs.map V.ref)) g2.sub hp
    exact q p _ C _ ((g1.trans g2).trans g3) (Evl.fresh_back g1.up hp) (Evl.fresh_back g2.sub hp) upd_same r2
/-! # {} and d[k] = v -/
theorem em_new : EvM tDNewT γ [] := fun H0 A H σ k Q q p hp => q p [] A _ (Gr.newU k.sub hp) hp (Evl.fresh_back k.sub hp) upd_same .nil
/-- a, b = e, {..} -/
theorem runx_parM {i j : Nat} (h : EvX ta γ (fun x δ => ∃ es, EvM td δ es ∧ N ((δ.set i (.d x)).set j (.od es)))) : Run (tPar i j (tCons ta (tCons td tNil))) γ N R := fun A0 H0 A H σ g0 k D dn dr =>
  h A0 H0 A H σ g0 k _ fun v B H1 x δ hs g1 v1 k1 r1 => by
    obtain ⟨es, hm, hn⟩ := hs
    refine hm H0 B H1 σ k1 _ fun l kvs C H2 g2 hl hC h2 r2 => ⟨_, _, rfl, ?_⟩
    have k2 := (k1.mono g2).setD (r1.mono g2.view) i
    refine dn _ C H2 _ hn (g1.trans g2) (v1.trans g2.view) (k2.setM j (fun b t hj mt e => ?_) (fun _ z => nomatch z) (fun _ _ z => nomatch z) (fun _ _ z => nomatch z) (fun _ z => nomatch z) fun _ z => by cases z; exact ⟨kvs, Evl.fresh_back g1.up hl, hC, h2, r2⟩)
    have k0 := k1.setD r1 i
    obtain ⟨a, o, e2, _, _, e3⟩ := k0.addr hj mt
    rw [e2] at e
    cases e
    rw [hl] at e3
    cases e3
/-- a, b = e, {..}, a or b a cell: by a tuple that is thrown away -/
theorem runx_tupM {i j : Nat} (h : EvX ta γ (fun x δ => ∃ es, EvM td δ es ∧ N ((δ.set i (.d x)).set j (.od es)))) : Run (tAsg (tTup (tCons ta (tCons td tNil))) (gTup K 2 (gCons (gName i) (gCons (gName j) gNil)))) γ N R := fun A0 H0 A H σ g0 k D dn dr =>
  h A0 H0 A H σ g0 k _ fun v B H1 x δ hs g1 v1 k1 r1 => by
    obtain ⟨es, hm, hn⟩ := hs
    refine hm H0 B H1 σ k1 _ fun l kvs C H2 g2 hl hC h2 r2 => ⟨by show 2 ≤ sizeLine; decide, fun p hp => ?_⟩
    have g3 := Gr.newU (o := .tup [v, .ref l]) g2.sub hp
    have gg := g2.trans g3
    have nl : l ≠ p := ne_of_none h2 hp
    refine ⟨p, [v, .ref l], rfl, SqT.of upd_same, rfl, v, [.ref l], rfl, .ref l, [], rfl, rfl, ?_⟩
    have k2 := (k1.mono gg).setD (r1.mono gg.view) i
    refine dn _ C _ _ hn (g1.trans gg) (v1.trans gg.view) (k2.setM j (fun b t hj mt e => ?_) (fun _ z => nomatch z) (fun _ _ z => nomatch z) (fun _ _ z => nomatch z) (fun _ z => nomatch z) fun _ z => by cases z; exact ⟨kvs, Evl.fresh_back g1.up hl, hC, by rw [upd_ne nl]; exact h2, r2⟩)
    have k0 := k1.setD r1 i
    obtain ⟨a, o, e2, _, _, e3⟩ := k0.addr hj mt
    rw [e2] at e
    cases e
    rw [hl] at e3
    cases e3
/-- d[k] = e, d an own dict in slot i, e a thing that changes what is lent -/
theorem runx_dput {i : Nat} {ns : List Int} (h : EvX tv γ (fun x δ => ∃ es, δ[i]? = some (Slot.od es) ∧ EvD tk δ (w ns) ∧ es.length < sizeLine ∧ N (δ.set i (.od (putE es (kw ns) x))))) : Run (sDPut (tVar i) tk tv) γ N R := fun A0 H0 A H σ g0 k D dn dr =>
  h A0 H0 A H σ g0 k _ fun v B H1 x δ hs g1 v1 k1 r1 => by
    obtain ⟨es, hi, hk, hz, hn⟩ := hs
    obtain ⟨l, kvs, e, h0, hB, hH, rk⟩ := k1.ownD i es hi
    refine ⟨.ref l, e, hk H0 B H1 σ k1 _ fun y C H2 g2 r2 => ?_⟩
    have k2 := k1.mono g2
    cases r2 with
    | @tup b us _ hb R =>
      have eu := R.ints
      subst eu
      have ek : (kw ns).map kV = ns.map V.int := by
        unfold kw
        rw [List.map_map]
        rfl
      have hl2 : H2 l = some (.dT kvs) := g2.up _ _ hH
      have hC : C l = none := g2.hid l _ hH True.intro hB
      refine ⟨l, _, rfl, DPut.t hl2 (by rw [ek]; exact g2.sub _ _ hb) (by rw [rk.len]; exact hz), ?_⟩
      exact dn _ C _ σ hn ((g1.trans g2).mut h0 hC) (v1.trans g2.view) (k2.turn hi rfl e (fun _ z => nomatch z) (fun _ z => nomatch z) (fun es' z => by cases z; exact ⟨_, rfl, (rk.mono g2.view).put (r1.mono g2.view)⟩) (fun _ _ z => nomatch z) fun _ _ z => nomatch z)
end
end Fr

set_option Elab.async false
set_option linter.all false
set_option maxRecDepth 100000
set_option maxHeartbeats 4000000
namespace Fr
open PySem PySem.Spec PyProof.Rows L2
open Evl (Ex)
def topS (i : Nat) : Stmt := PySem.Challenge.pw_onlyflags_k83_whole_words_parted.main.body.getD i (.Pass ⟨0, 0, 0, 0⟩)
local macro_rules | `(tactic| walk_at "fr r2") => `(tactic| first
  | exact r2_add | exact r2_sub | exact r2_lt | exact r2_le | exact r2_gt | exact r2_ge | exact r2_eqI | exact r2_neI | exact r2_eqW | exact r2_neW | exact r2_ltT | exact r2_inI | exact r2_isN | exact r2_notN | exact r2_and | (refine r2_modN ?_; omega) | (refine r2_shr ?_; omega))
local macro_rules | `(tactic| walk_at "fr ev") => `(tactic| first
  | exact ev_var rfl | exact ev_w0 | exact ev_int | exact ev_bl | exact ev_non | exact ev_str
  | (apply ev_isInt; walk_at "fr ev") | (apply ev_isBool; walk_at "fr ev") | (apply ev_isTup; walk_at "fr ev") | (apply ev_isLst; walk_at "fr ev") | (apply ev_isStr; walk_at "fr ev")
  | (apply ev_op; (case ha => walk_at "fr ev"); (case hb => walk_at "fr ev"); (case hr => walk_at "fr r2"))
  | (apply ev_and; (case h1 => walk_at "fr ev"); (case h2 => intro _; walk_at "fr ev"))
  | (apply ev_or; (case h1 => walk_at "fr ev"); (case h2 => intro _; walk_at "fr ev"))
  | (apply ev_not; walk_at "fr ev")
  | (apply ev_lenW; walk_at "fr ev") | (apply ev_lenT; walk_at "fr ev") | (apply ev_sumW; walk_at "fr ev") | (apply ev_neg; walk_at "fr ev") | (apply ev_bits; walk_at "fr ev")
  | (apply ev_cut; (case h => walk_at "fr ev"); (case h1 => walk_at "fr eo"); (case h2 => walk_at "fr eo"))
  | (apply ev_slT; (case h => walk_at "fr ev"); (case h1 => walk_at "fr eo"); (case h2 => walk_at "fr eo"))
  | (apply ev_tup; (case h => walk_at "fr ea"); (case hl => (show _ ≤ sizeLine; decide)))
  | (apply ev_call; (case h => walk_at "fr ea"); (case hR => walk_at "fr call")))
local macro_rules | `(tactic| walk_at "fr ea") => `(tactic| first
  | exact ea_nil
  | (apply ea_cons; (case h => walk_at "fr ev"); (case hr => walk_at "fr ea")))
local macro_rules | `(tactic| walk_at "fr evr") => `(tactic| (refine' ev_is ?frh ?fre; (case frh => walk_at "fr ev"); (case fre => rfl)))
local macro_rules | `(tactic| walk_at "fr eo") => `(tactic| first
  | exact eo_none
  | (apply eo_some; walk_at "fr ev"))
abbrev s_is_number : Stmt := topS 11
abbrev N_is_number : List Str := ["value"]
theorem sc_is_number : FnScope N_is_number ["value"] (defScope s_is_number) := ⟨rfl, rfl, rfl, by decide +kernel, rfl, by decide +kernel, by decide +kernel⟩
abbrev s_is_bit : Stmt := topS 12
abbrev N_is_bit : List Str := ["value"]
theorem sc_is_bit : FnScope N_is_bit ["value"] (defScope s_is_bit) := ⟨rfl, rfl, rfl, by decide +kernel, rfl, by decide +kernel, by decide +kernel⟩
abbrev s_is_word : Stmt := topS 13
abbrev N_is_word : List Str := ["value", "bit"]
theorem sc_is_word : FnScope N_is_word ["value"] (defScope s_is_word) := ⟨rfl, rfl, rfl, by decide +kernel, rfl, by decide +kernel, by decide +kernel⟩
abbrev s_is_full_word : Stmt := topS 14
abbrev N_is_full_word : List Str := ["value"]
theorem sc_is_full_word : FnScope N_is_full_word ["value"] (defScope s_is_full_word) := ⟨rfl, rfl, rfl, by decide +kernel, rfl, by decide +kernel, by decide +kernel⟩
abbrev s_is_insert : Stmt := topS 17
abbrev N_is_insert : List Str := ["value"]
theorem sc_is_insert : FnScope N_is_insert ["value"] (defScope s_is_insert) := ⟨rfl, rfl, rfl, by decide +kernel, rfl, by decide +kernel, by decide +kernel⟩
abbrev s__are_inserts : Stmt := topS 16
abbrev N__are_inserts : List Str := ["value", "part", "words", "word", "_", "at"]
theorem sc__are_inserts : FnScope N__are_inserts ["value"] (defScope s__are_inserts) := ⟨rfl, rfl, rfl, by decide +kernel, rfl, by decide +kernel, by decide +kernel⟩
abbrev s_is_rule : Stmt := topS 15
abbrev N_is_rule : List Str := ["value", "flag", "inserts", "check"]
theorem sc_is_rule : FnScope N_is_rule ["value"] (defScope s_is_rule) := ⟨rfl, rfl, rfl, by decide +kernel, rfl, by decide +kernel, by decide +kernel⟩
abbrev s_need_rule : Stmt := topS 18
abbrev N_need_rule : List Str := ["value"]
theorem sc_need_rule : FnScope N_need_rule ["value"] (defScope s_need_rule) := ⟨rfl, rfl, rfl, by decide +kernel, rfl, by decide +kernel, by decide +kernel⟩
abbrev s_need_bits : Stmt := topS 19
abbrev N_need_bits : List Str := ["value"]
theorem sc_need_bits : FnScope N_need_bits ["value"] (defScope s_need_bits) := ⟨rfl, rfl, rfl, by decide +kernel, rfl, by decide +kernel, by decide +kernel⟩
abbrev s_check_bits : Stmt := topS 9
abbrev N_check_bits : List Str := ["check", "ones", "width", "place"]
theorem sc_check_bits : FnScope N_check_bits ["check", "ones"] (defScope s_check_bits) := ⟨rfl, rfl, rfl, by decide +kernel, rfl, by decide +kernel, by decide +kernel⟩
abbrev s_next_tail : Stmt := topS 7
abbrev N_next_tail : List Str := ["table", "tail", "bit", "grown"]
theorem sc_next_tail : FnScope N_next_tail ["table", "tail", "bit"] (defScope s_next_tail) := ⟨rfl, rfl, rfl, by decide +kernel, rfl, by decide +kernel, by decide +kernel⟩
abbrev s_tail_of_flag : Stmt := topS 8
abbrev N_tail_of_flag : List Str := ["table", "flag", "tail", "bit"]
theorem sc_tail_of_flag : FnScope N_tail_of_flag ["table", "flag"] (defScope s_tail_of_flag) := ⟨rfl, rfl, rfl, by decide +kernel, rfl, by decide +kernel, by decide +kernel⟩
abbrev s__payload : Stmt := topS 24
abbrev N__payload : List Str := ["check", "read", "size"]
theorem sc__payload : FnScope N__payload ["check", "read"] (defScope s__payload) := ⟨rfl, rfl, rfl, by decide +kernel, rfl, by decide +kernel, by decide +kernel⟩
abbrev s__due : Stmt := topS 6
abbrev N__due : List Str := ["bits", "tail", "start"]
theorem sc__due : FnScope N__due ["bits", "tail"] (defScope s__due) := ⟨rfl, rfl, rfl, by decide +kernel, rfl, by decide +kernel, by decide +kernel⟩
abbrev s_put_table : Stmt := topS 5
abbrev N_put_table : List Str := ["inserts", "bits", "word", "bit", "tails", "size", "tail"]
theorem sc_put_table : FnScope N_put_table ["inserts"] (defScope s_put_table) := ⟨rfl, rfl, rfl, by decide +kernel, rfl, by decide +kernel, by decide +kernel⟩
abbrev s_borders : Stmt := topS 21
abbrev N_borders : List Str := ["rule", "bits", "flag", "size", "at"]
theorem sc_borders : FnScope N_borders ["rule", "bits"] (defScope s_borders) := ⟨rfl, rfl, rfl, by decide +kernel, rfl, by decide +kernel, by decide +kernel⟩
abbrev s__answer : Stmt := topS 23
abbrev N__answer : List Str := ["rule", "table", "text", "flag", "_", "check", "tail", "due", "read", "bit"]
theorem sc__answer : FnScope N__answer ["rule", "table", "text"] (defScope s__answer) := ⟨rfl, rfl, rfl, by decide +kernel, rfl, by decide +kernel, by decide +kernel⟩
abbrev s_loose : Stmt := topS 25
abbrev N_loose : List Str := ["rule", "bits", "places"]
theorem sc_loose : FnScope N_loose ["rule", "bits"] (defScope s_loose) := ⟨rfl, rfl, rfl, by decide +kernel, rfl, by decide +kernel, by decide +kernel⟩
abbrev s_answers : Stmt := topS 22
abbrev N_answers : List Str := ["rule", "bits", "places", "table", "start", "end"]
theorem sc_answers : FnScope N_answers ["rule", "bits"] (defScope s_answers) := ⟨rfl, rfl, rfl, by decide +kernel, rfl, by decide +kernel, by decide +kernel⟩
abbrev s_is_stream : Stmt := topS 26
abbrev N_is_stream : List Str := ["rule", "bits", "answer"]
theorem sc_is_stream : FnScope N_is_stream ["rule", "bits"] (defScope s_is_stream) := ⟨rfl, rfl, rfl, by decide +kernel, rfl, by decide +kernel, by decide +kernel⟩
section
variable {P : Program} {w0 : World} {K : PySem.W.Frag} {mg : Str → Option Value} {base : Heap}
def isNumber : Dat → Bool
  | .int _ => true
  | _ => false
def R_is_number (xs : List Dat) (y : Dat) : Prop := ∃ d, xs = [d] ∧ y = .bl (isNumber d)
theorem len_is_number {xs : List Dat} {y : Dat} (h : R_is_number xs y) : xs.length = 1 := by
  obtain ⟨d, rfl, _⟩ := h
  rfl
theorem ok_is_number {f : Addr} {fd : FuncData} (F : Fun K "is_number" "is_number" s_is_number f fd) (T : Bs mg) : FnOk P w0 K mg base CX0 1 f fd ["value"] (Pr R_is_number) := by
  refine fn_pr F sc_is_number (fun xs y h => len_is_number h) fun cdv A outer s H E hr => ⟨_, (pss_one (ps_ret (pe_and (pe_callB (call_isiK' (K := K) rfl) (by rfl) T.isinstance (by decide +kernel) (pa_cons (pv 0) (pa_cons (pe_bltn (v := .ty "int") (by rfl) T.int (by decide +kernel) rfl) pa_nil))) (pe_one (pe_not (pe_callB (call_isiK' (K := K) rfl) (by rfl) T.isinstance (by decide +kernel) (pa_cons (pv 0) (pa_cons (pe_bltn (v := .ty "bool") (by rfl) T.bool (by decide +kernel) rfl) pa_nil)))))))), ?_⟩
  rintro xs y ⟨d, rfl, rfl⟩
  refine run_ret (ev_is (by walk_at "fr ev") ?_) rfl
  cases d <;> rfl
def isBit : Dat → Bool
  | .int i => 0 == i || 1 == i
  | _ => false
def R_is_bit (xs : List Dat) (y : Dat) : Prop := ∃ d, xs = [d] ∧ y = .bl (isBit d)
theorem len_is_bit {xs : List Dat} {y : Dat} (h : R_is_bit xs y) : xs.length = 1 := by
  obtain ⟨d, rfl, _⟩ := h
  rfl
local macro_rules | `(tactic| walk_at "fr call") => `(tactic| exact ⟨_, rfl, rfl⟩)
theorem ok_is_bit {f : Addr} {fd : FuncData} (F : Fun K "is_bit" "is_bit" s_is_bit f fd) {f_is_number : Addr} {d_is_number : FuncData} (C_is_number : Cal P w0 K mg base "is_number" ["value"] 1 R_is_number f_is_number d_is_number) : FnOk P w0 K mg base CX0 2 f fd ["value"] (Pr R_is_bit) := by
  refine fn_pr F sc_is_bit (fun xs y h => len_is_bit h) fun cdv A outer s H E hr => ⟨_, (pss_one (ps_ret (pe_and (pe_call C_is_number.ok (hr.mono (by decide)) rfl C_is_number.at_ C_is_number.kp C_is_number.bd .nil pass0 (pa_cons (pv 0) pa_nil)) (pe_one (pe_cmpR (op_inK (K := K) rfl) (pv 0) (pe_tup (pa_cons pe_int (pa_cons pe_int pa_nil))) (by rfl)))))), ?_⟩
  rintro xs y ⟨d, rfl, rfl⟩
  cases d with
  | int i =>
    refine run_ret (ev_is (ev_and (by walk_at "fr ev") fun _ => ev_op (ev_var rfl) (ev_tup (by walk_at "fr ea") (by decide)) (r2_inI (ns := [0, 1]))) ?_) rfl
    show Dat.bl (true && (0 == i || (1 == i || false))) = Dat.bl (0 == i || 1 == i)
    rw [Bool.true_and, Bool.or_false]
  | _ => exact run_ret (ev_and (a := false) (b := false) (by walk_at "fr evr") (fun z => by cases z)) rfl
def isWord : Dat → Bool
  | .tup ds => ds.all isBit
  | _ => false
/-- not too long -/
def Sz : Dat → Prop
  | .tup ds => ds.length ≤ 1000000
  | .lst ds => ds.length ≤ 1000000
  | _ => True
theorem big {n : Nat} (h : n ≤ 1000000) : n < sizeLine := by
  rw [sizeLine_eq]
  omega
def R_is_word (xs : List Dat) (y : Dat) : Prop := ∃ d, xs = [d] ∧ Sz d ∧ y = .bl (isWord d)
theorem len_is_word {xs : List Dat} {y : Dat} (h : R_is_word xs y) : xs.length = 1 := by
  obtain ⟨d, rfl, _⟩ := h
  rfl
local macro_rules | `(tactic| walk_at "fr call") => `(tactic| exact ⟨_, rfl, rfl⟩)
theorem ok_is_word {f : Addr} {fd : FuncData} (F : Fun K "is_word" "is_word" s_is_word f fd) {f_is_bit : Addr} {d_is_bit : FuncData} (C_is_bit : Cal P w0 K mg base "is_bit" ["value"] 2 R_is_bit f_is_bit d_is_bit) (T : Bs mg) : FnOk P w0 K mg base CX0 3 f fd ["value"] (Pr R_is_word) := by
  refine fn_pr F sc_is_word (fun xs y h => len_is_word h) fun cdv A outer s H E hr => ⟨_, (pss_one (ps_ret (pe_and (pe_callB (call_isiK' (K := K) rfl) (by rfl) T.isinstance (by decide +kernel) (pa_cons (pv 0) (pa_cons (pe_bltn (v := .ty "tuple") (by rfl) T.tuple (by decide +kernel) rfl) pa_nil))) (pe_one (pe_callB (cr_allK (K := K) rfl rfl) (by rfl) T.all (by decide +kernel) (pa_cons (pe_lc (own := [("bit", 1)]) rfl sc_is_word.nd (pi_tupK (K := K) rfl (pv 0)) (blkOk_by (own := [("bit", 1)]) (N := N_is_word) (sc := defScope s_is_word) (by decide +kernel)) (fun _ _ _ _ _ => (pg_name (i := 1) sc_is_word.nd rfl (Or.inl rfl))) (fun _ _ _ _ _ => pts_nil) (fun _ _ _ _ _ => (pe_call C_is_bit.ok (hr.mono (by decide)) rfl C_is_bit.at_ C_is_bit.kp C_is_bit.bd .nil pass0 (pa_cons (pv 1) pa_nil)))) pa_nil)))))), ?_⟩
  rintro xs y ⟨d, rfl, hz, rfl⟩
  cases d with
  | tup ds =>
    refine run_ret (ev_is (ev_and (by walk_at "fr ev") fun _ => ev_all (bs := ds.map isBit) (er_is (er_ofN (en_lcT (js := [1]) (l := ds) (enc := id) (f := fun _ => true) (v := fun d => .bl (isBit d)) ?_ (by decide) (big hz) fun d _ => ⟨_, tg_name 1, et_yes, fun _ => by walk_at "fr ev"⟩)) ?_)) ?_) rfl
    · rw [List.map_id]
      exact ev_var rfl
    · rw [filter_yes, List.map_map]
      rfl
    · show Dat.bl (true && (ds.map isBit).all id) = Dat.bl (ds.all isBit)
      rw [Bool.true_and, List.all_map]
      rfl
  | _ => exact run_ret (ev_and (a := false) (b := false) (by walk_at "fr evr") (fun z => by cases z)) rfl
def isFull : Dat → Bool
  | .tup ds => ds.all isBit && decide (0 < ds.length)
  | _ => false
def R_is_full_word (xs : List Dat) (y : Dat) : Prop := ∃ d, xs = [d] ∧ Sz d ∧ y = .bl (isFull d)
theorem len_is_full_word {xs : List Dat} {y : Dat} (h : R_is_full_word xs y) : xs.length = 1 := by
  obtain ⟨d, rfl, _⟩ := h
  rfl
local macro_rules | `(tactic| walk_at "fr call") => `(tactic| exact ⟨_, rfl, by assumption, rfl⟩)
theorem ok_is_full_word {f : Addr} {fd : FuncData} (F : Fun K "is_full_word" "is_full_word" s_is_full_word f fd) {f_is_word : Addr} {d_is_word : FuncData} (C_is_word : Cal P w0 K mg base "is_word" ["value"] 3 R_is_word f_is_word d_is_word) (T : Bs mg) : FnOk P w0 K mg base CX0 4 f fd ["value"] (Pr R_is_full_word) := by
  refine fn_pr F sc_is_full_word (fun xs y h => len_is_full_word h) fun cdv A outer s H E hr => ⟨_, (pss_one (ps_ret (pe_and (pe_call C_is_word.ok (hr.mono (by decide)) rfl C_is_word.at_ C_is_word.kp C_is_word.bd .nil pass0 (pa_cons (pv 0) pa_nil)) (pe_one (pe_cmpR op_gt (pe_callB (call_lenK (K := K) rfl) (by rfl) T.len PySem.boot_len (pa_cons (pv 0) pa_nil)) pe_int (nomark _)))))), ?_⟩
  rintro xs y ⟨d, rfl, hz, rfl⟩
  cases d with
  | tup ds =>
    refine run_ret (ev_is (by walk_at "fr ev") ?_) rfl
    show Dat.bl (ds.all isBit && decide ((0 : Int) < (ds.length : Int))) = Dat.bl (ds.all isBit && decide (0 < ds.length))
    have e : decide ((0 : Int) < (ds.length : Int)) = decide (0 < ds.length) := decide_eq_decide.mpr (by omega)
    rw [e]
  | _ => exact run_ret (ev_and (a := false) (b := false) (by walk_at "fr evr") (fun z => by cases z)) rfl
def isIns : Dat → Bool
  | .tup [a, b] => isFull a && isBit b
  | _ => false
def Sz1 : Dat → Prop
  | .tup ds => ds.length ≤ 1000000 ∧ ∀ d ∈ ds, Sz d
  | .lst ds => ds.length ≤ 1000000 ∧ ∀ d ∈ ds, Sz d
  | _ => True
def R_is_insert (xs : List Dat) (y : Dat) : Prop := ∃ d, xs = [d] ∧ Sz1 d ∧ y = .bl (isIns d)
theorem len_is_insert {xs : List Dat} {y : Dat} (h : R_is_insert xs y) : xs.length = 1 := by
  obtain ⟨d, rfl, _⟩ := h
  rfl
local macro_rules | `(tactic| walk_at "fr call") => `(tactic| first | exact ⟨_, rfl, by assumption, rfl⟩ | exact ⟨_, rfl, rfl⟩)
theorem ok_is_insert {f : Addr} {fd : FuncData} (F : Fun K "is_insert" "is_insert" s_is_insert f fd) {f_is_full_word : Addr} {d_is_full_word : FuncData} (C_is_full_word : Cal P w0 K mg base "is_full_word" ["value"] 4 R_is_full_word f_is_full_word d_is_full_word) {f_is_bit : Addr} {d_is_bit : FuncData} (C_is_bit : Cal P w0 K mg base "is_bit" ["value"] 2 R_is_bit f_is_bit d_is_bit) (T : Bs mg) : FnOk P w0 K mg base CX0 5 f fd ["value"] (Pr R_is_insert) := by
  refine fn_pr F sc_is_insert (fun xs y h => len_is_insert h) fun cdv A outer s H E hr => ⟨_, (pss_one (ps_ret (pe_and (pe_callB (call_isiK' (K := K) rfl) (by rfl) T.isinstance (by decide +kernel) (pa_cons (pv 0) (pa_cons (pe_bltn (v := .ty "tuple") (by rfl) T.tuple (by decide +kernel) rfl) pa_nil))) (pe_and (pe_cmpR op_eq (pe_callB (call_lenK (K := K) rfl) (by rfl) T.len PySem.boot_len (pa_cons (pv 0) pa_nil)) pe_int (nomark _)) (pe_and (pe_call C_is_full_word.ok (hr.mono (by decide)) rfl C_is_full_word.at_ C_is_full_word.kp C_is_full_word.bd .nil pass0 (pa_cons (pe_ix (ix_tupK (K := K) rfl) (pv 0) pe_int (fun _ _ => rfl)) pa_nil)) (pe_one (pe_call C_is_bit.ok (hr.mono (by decide)) rfl C_is_bit.at_ C_is_bit.kp C_is_bit.bd .nil pass0 (pa_cons (pe_ix (ix_tupK (K := K) rfl) (pv 0) pe_int (fun _ _ => rfl)) pa_nil)))))))), ?_⟩
  rintro xs y ⟨d, rfl, hz, rfl⟩
  cases d with
  | tup ds =>
    rcases ds with _ | ⟨a, _ | ⟨b, _ | ⟨c, r⟩⟩⟩
    · exact run_ret (ev_is (ev_and (a := true) (b := false) (by walk_at "fr evr") fun _ => ev_is (ev_and (a := false) (b := false) (by walk_at "fr evr") (fun z => by cases z)) rfl) rfl) rfl
    · exact run_ret (ev_is (ev_and (a := true) (b := false) (by walk_at "fr evr") fun _ => ev_is (ev_and (a := false) (b := false) (by walk_at "fr evr") (fun z => by cases z)) rfl) rfl) rfl
    · have ha : Sz a := hz.2 a List.mem_cons_self
      refine run_ret (ev_is (ev_and (a := true) (by walk_at "fr evr") fun _ => ev_and (a := true) (by walk_at "fr evr") fun _ => ev_and (ev_call (ea_cons (ev_op (ev_var rfl) ev_int (r2_ixT (z := a) rfl)) ea_nil) ⟨_, rfl, ha, rfl⟩) fun _ => ev_call (ea_cons (ev_op (ev_var rfl) ev_int (r2_ixT (z := b) rfl)) ea_nil) ⟨_, rfl, rfl⟩) ?_) rfl
      show Dat.bl (true && (true && (isFull a && isBit b))) = Dat.bl (isFull a && isBit b)
      rw [Bool.true_and, Bool.true_and]
    · refine run_ret (ev_is (ev_and (a := true) (b := false) (by walk_at "fr evr") fun _ => ev_is (ev_and (a := false) (b := false) (ev_is (by walk_at "fr ev") ?_) (fun z => by cases z)) rfl) rfl) rfl
      show Dat.bl (decide (((r.length + 1 + 1 + 1 : Nat) : Int) = 2)) = Dat.bl false
      rw [decide_eq_false (by omega)]
  | _ => exact run_ret (ev_and (a := false) (b := false) (by walk_at "fr evr") (fun z => by cases z)) rfl
/-- a rule without addresses -/
structure Rule where
  flag : List Int
  ins : List (List Int × Int)
  chk : Int
def rowD (p : List Int × Int) : Dat := .tup [w p.1, .int p.2]
def Rule.dat (r : Rule) : Dat := .tup [w r.flag, .tup (r.ins.map rowD), .int r.chk]
def isB (b : Int) : Bool := isBit (.int b)
structure Wd (ns : List Int) : Prop where
  bits : ns.all isB = true
  short : ns.length ≤ 100000
structure Good (r : Rule) : Prop where
  flag : r.flag.all isB = true
  flag0 : 0 < r.flag.length
  flag1 : r.flag.length ≤ 1000
  many : r.ins.length ≤ 1000
  rows : ∀ p ∈ r.ins, p.1.all isB = true ∧ 0 < p.1.length ∧ p.1.length ≤ 1000 ∧ isB p.2 = true
  order : ∀ (i : Nat) (p q : List Int × Int), r.ins[i]? = some p → r.ins[i + 1]? = some q → HT.lexLt p.1 q.1 = true
  chk0 : 1 ≤ r.chk
  chk1 : Builtin.Int.intBits (r.chk - 1) ≤ 1000
theorem isWord_w (ns : List Int) : isWord (w ns) = ns.all isB := by
  show (ns.map Dat.int).all isBit = ns.all isB
  rw [List.all_map]
  rfl
theorem isFull_w (ns : List Int) : isFull (w ns) = (ns.all isB && decide (0 < ns.length)) := by
  show ((ns.map Dat.int).all isBit && decide (0 < (ns.map Dat.int).length)) = _
  rw [List.all_map, List.length_map]
  rfl
theorem Good.ins_ok {r : Rule} (G : Good r) : (r.ins.map rowD).all isIns = true := by
  rw [List.all_map]
  refine List.all_eq_true.mpr fun p hp => ?_
  obtain ⟨a, b, c, d⟩ := G.rows p hp
  show (isFull (w p.1) && isBit (.int p.2)) = true
  rw [isFull_w, a, decide_eq_true b]
  exact d
theorem sz_w {ns : List Int} (h : ns.length ≤ 1000000) : Sz (w ns) := by
  show (ns.map Dat.int).length ≤ 1000000
  rw [List.length_map]
  exact h
theorem Good.row_sz {r : Rule} (G : Good r) {p : List Int × Int} (hp : p ∈ r.ins) : Sz1 (rowD p) := by
  refine ⟨by show 2 ≤ 1000000; omega, fun d hd => ?_⟩
  rcases List.mem_cons.mp hd with rfl | hd
  · exact sz_w (by have := (G.rows p hp).2.2.1; omega)
  · rcases List.mem_cons.mp hd with rfl | hd
    · trivial
    · cases hd
def R__are_inserts (xs : List Dat) (y : Dat) : Prop := ∃ r, Good r ∧ xs = [.tup (r.ins.map rowD)] ∧ y = .bl true
theorem len__are_inserts {xs : List Dat} {y : Dat} (h : R__are_inserts xs y) : xs.length = 1 := by
  obtain ⟨r, _, rfl, _⟩ := h
  rfl
theorem ok__are_inserts {f : Addr} {fd : FuncData} (F : Fun K "_are_inserts" "_are_inserts" s__are_inserts f fd) {f_is_insert : Addr} {d_is_insert : FuncData} (C_is_insert : Cal P w0 K mg base "is_insert" ["value"] 5 R_is_insert f_is_insert d_is_insert) (T : Bs mg) : FnOk P w0 K mg base CX0 6 f fd ["value"] (Pr R__are_inserts) := by
  refine fn_pr F sc__are_inserts (fun xs y h => len__are_inserts h) fun cdv A outer s H E hr => ⟨_, (pss_cons (ps_if (PW.pt (pw_or (pt_not (pt_val (pe_callB (call_isiK' (K := K) rfl) (by rfl) T.isinstance (by decide +kernel) (pa_cons (pv 0) (pa_cons (pe_bltn (v := .ty "tuple") (by rfl) T.tuple (by decide +kernel) rfl) pa_nil))))) (pw_or1 (pt_not (pt_val (pe_callB (cr_allK (K := K) rfl rfl) (by rfl) T.all (by decide +kernel) (pa_cons (pe_lc (own := [("part", 1)]) rfl sc__are_inserts.nd (pi_tupK (K := K) rfl (pv 0)) (blkOk_by (own := [("part", 1)]) (N := N__are_inserts) (sc := defScope s__are_inserts) (by decide +kernel)) (fun _ _ _ _ _ => (pg_name (i := 1) sc__are_inserts.nd rfl (Or.inl rfl))) (fun _ _ _ _ _ => pts_nil) (fun _ _ _ _ _ => (pe_call C_is_insert.ok (hr.mono (by decide)) rfl C_is_insert.at_ C_is_insert.kp C_is_insert.bd .nil pass0 (pa_cons (pv 1) pa_nil)))) pa_nil))))))) (pss_one (ps_ret pe_bl)) pss_nil)
      (pss_cons (ps_set (i := 2) sc__are_inserts.nd rfl (Or.inr rfl) (pe_lc (own := [("word", 3), ("_", 4)]) rfl sc__are_inserts.nd (pi_tupK (K := K) rfl (pv 0)) (blkOk_by (own := [("word", 3), ("_", 4)]) (N := N__are_inserts) (sc := defScope s__are_inserts) (by decide +kernel)) (fun _ _ _ _ _ => by exact (pg_tupK (K := K) 2 rfl rfl (pgs_cons (pg_name (i := 3) sc__are_inserts.nd rfl (Or.inl rfl)) (pgs_cons (pg_name (i := 4) sc__are_inserts.nd rfl (Or.inl rfl)) pgs_nil)))) (fun _ _ _ _ _ => pts_nil) (fun _ _ _ _ _ => (pv 3))))
      (pss_one (ps_ret (pe_callB (cr_allK (K := K) rfl rfl) (by rfl) T.all (by decide +kernel) (pa_cons (pe_lc (own := [("at", 5)]) rfl sc__are_inserts.nd (pi_range1 (by rfl) T.range (pa_cons (pe_op op_sub (pe_callB (call_lenK (K := K) rfl) (by rfl) T.len PySem.boot_len (pa_cons (pv 2) pa_nil)) pe_int) pa_nil)) (blkOk_by (own := [("at", 5)]) (N := N__are_inserts) (sc := defScope s__are_inserts) (by decide +kernel)) (fun _ _ _ _ _ => (pg_name (i := 5) sc__are_inserts.nd rfl (Or.inl rfl))) (fun _ _ _ _ _ => pts_nil) (fun _ _ _ _ _ => (pe_cmpR (op_ltK (K := K) rfl hr.units0) (pe_ix (ix_listK (K := K) rfl) (pv 2) (pv 5) (fun _ _ => rfl)) (pe_ix (ix_listK (K := K) rfl) (pv 2) (pe_op op_add (pv 5) pe_int) (fun _ _ => rfl)) (nomark _)))) pa_nil)))))), ?_⟩
  rintro xs y ⟨r, G, rfl, rfl⟩
  have hlen : r.ins.length < sizeLine := big (by have := G.many; omega)
  refine run_seq1 (run_if (b := false) (et_or (a := false) (et_not (a := true) (et_B (by walk_at "fr evr"))) fun _ => et_not (a := true) (et_B (ev_is (ev_all (bs := (r.ins.map fun p => isIns (rowD p)))
    (er_is (er_ofN (en_lcT (js := [1]) (l := r.ins) (enc := rowD) (f := fun _ => true) (v := fun p => .bl (isIns (rowD p))) (ev_var rfl) (by decide) hlen fun p hp => ⟨_, tg_name 1, et_yes, fun _ => ev_call (ea_cons (ev_var rfl) ea_nil) ⟨_, rfl, G.row_sz hp, rfl⟩⟩)) ?_)) ?_))) (fun z => by cases z) fun _ => run_next rfl) ?_
  · rw [filter_yes, List.map_map]
    rfl
  · have h := G.ins_ok
    rw [List.all_map] at h
    rw [List.all_map]
    exact congrArg Dat.bl h
  refine run_seq1 (run_asgN (xs := r.ins.map fun p => w p.1) (en_is (en_lcT (js := [3, 4]) (l := r.ins) (enc := rowD) (f := fun _ => true) (v := fun p => w p.1) (ev_var rfl) (by decide) hlen fun p hp => ⟨_, tg_tup (tgs_cons (tg_name 3) (tgs_cons (tg_name 4) tgs_nil)) rfl, et_yes, fun _ => ev_var rfl⟩) (by rw [filter_yes])) rfl) ?_
  refine run_ret (ev_is (ev_all (bs := (List.range (r.ins.length - 1)).map fun _ => true) (er_is (er_ofN (en_lcR (js := [5]) (n := (r.ins.length : Int) - 1) (f := fun _ => true) (v := fun _ => .bl true) (ea_cons (ev_op (ev_is (ev_lenL (er_var rfl)) ?_) ev_int r2_sub) ea_nil) (by decide) ?_ fun a ha => ⟨_, tg_name 5, et_yes, fun _ => ?_⟩)) ?_)) ?_) rfl
  · rw [List.length_map]
  · have := hlen
    omega
  · obtain ⟨p, hp⟩ : ∃ p, r.ins[a]? = some p := ⟨r.ins[a]'(by omega), List.getElem?_eq_getElem (by omega)⟩
    obtain ⟨q, hq⟩ : ∃ q, r.ins[a + 1]? = some q := ⟨r.ins[a + 1]'(by omega), List.getElem?_eq_getElem (by omega)⟩
    refine ev_is (ev_op (ev_ixL (er_var rfl) (ev_var rfl) (z := w p.1) ?_) (ev_ixL (er_var rfl) (ev_op (ev_var rfl) ev_int r2_add) (z := w q.1) ?_) r2_ltT) (congrArg Dat.bl (G.order a p q hp hq))
    · rw [atI_nat (j := a) (by rw [List.getElem?_map, hp]; rfl)]
    · have e : ((a : Int) + 1) = ((a + 1 : Nat) : Int) := by omega
      rw [e, atI_nat (j := a + 1) (by rw [List.getElem?_map, hq]; rfl)]
  · rw [filter_yes, List.map_map]
    have e : ((r.ins.length : Int) - 1).toNat = r.ins.length - 1 := by omega
    rw [e]
    rfl
  · rw [List.all_map]
    exact congrArg Dat.bl (List.all_eq_true.mpr fun _ _ => rfl)
def R_is_rule (xs : List Dat) (y : Dat) : Prop := ∃ r, Good r ∧ xs = [r.dat] ∧ y = .bl true
theorem len_is_rule {xs : List Dat} {y : Dat} (h : R_is_rule xs y) : xs.length = 1 := by
  obtain ⟨r, _, rfl, _⟩ := h
  rfl
theorem ok_is_rule {f : Addr} {fd : FuncData} (F : Fun K "is_rule" "is_rule" s_is_rule f fd) {f_is_full_word : Addr} {d_is_full_word : FuncData} (C_is_full_word : Cal P w0 K mg base "is_full_word" ["value"] 4 R_is_full_word f_is_full_word d_is_full_word) {f__are_inserts : Addr} {d__are_inserts : FuncData} (C__are_inserts : Cal P w0 K mg base "_are_inserts" ["value"] 6 R__are_inserts f__are_inserts d__are_inserts) {f_is_number : Addr} {d_is_number : FuncData} (C_is_number : Cal P w0 K mg base "is_number" ["value"] 1 R_is_number f_is_number d_is_number) (T : Bs mg) : FnOk P w0 K mg base CX0 7 f fd ["value"] (Pr R_is_rule) := by
  refine fn_pr F sc_is_rule (fun xs y h => len_is_rule h) fun cdv A outer s H E hr => ⟨_, (pss_cons (ps_if (PW.pt (pw_or (pt_not (pt_val (pe_callB (call_isiK' (K := K) rfl) (by rfl) T.isinstance (by decide +kernel) (pa_cons (pv 0) (pa_cons (pe_bltn (v := .ty "tuple") (by rfl) T.tuple (by decide +kernel) rfl) pa_nil))))) (pw_or1 (pt_cmpR op_ne (pe_callB (call_lenK (K := K) rfl) (by rfl) T.len PySem.boot_len (pa_cons (pv 0) pa_nil)) pe_int (nomark _))))) (pss_one (ps_ret pe_bl)) pss_nil)
      (pss_cons (ps_asg (pv 0) (pg_tupK (K := K) 3 rfl rfl (pgs_cons (pg_name (i := 1) sc_is_rule.nd rfl (Or.inl rfl)) (pgs_cons (pg_name (i := 2) sc_is_rule.nd rfl (Or.inl rfl)) (pgs_cons (pg_name (i := 3) sc_is_rule.nd rfl (Or.inl rfl)) pgs_nil)))))
      (pss_one (ps_ret (pe_and (pe_call C_is_full_word.ok (hr.mono (by decide)) rfl C_is_full_word.at_ C_is_full_word.kp C_is_full_word.bd .nil pass0 (pa_cons (pv 1) pa_nil)) (pe_and (pe_call C__are_inserts.ok (hr.mono (by decide)) rfl C__are_inserts.at_ C__are_inserts.kp C__are_inserts.bd .nil pass0 (pa_cons (pv 2) pa_nil)) (pe_and (pe_call C_is_number.ok (hr.mono (by decide)) rfl C_is_number.at_ C_is_number.kp C_is_number.bd .nil pass0 (pa_cons (pv 3) pa_nil)) (pe_one (pe_cmpR op_ge (pv 3) pe_int (nomark _)))))))))), ?_⟩
  rintro xs y ⟨r, G, rfl, rfl⟩
  refine run_seq1 (run_if (b := false) (et_or (a := false) (et_not (a := true) (et_B (by walk_at "fr evr"))) fun _ => et_test (by walk_at "fr evr")) (fun z => by cases z) fun _ => run_next rfl) ?_
  refine run_seq1 (run_asgT (ev_var rfl) (tg_tup (tgs_cons (tg_name 1) (tgs_cons (tg_name 2) (tgs_cons (tg_name 3) tgs_nil))) rfl) rfl) ?_
  refine run_ret (ev_is (ev_and (a := true) (ev_is (ev_call (ea_cons (ev_var rfl) ea_nil) ⟨_, rfl, sz_w (by have := G.flag1; omega), rfl⟩) ?_) fun _ => ev_and (a := true) (ev_call (ea_cons (ev_var rfl) ea_nil) ⟨r, G, rfl, rfl⟩) fun _ => ev_and (a := true) (ev_call (ea_cons (ev_var rfl) ea_nil) ⟨_, rfl, rfl⟩) fun _ => ev_op (ev_var rfl) ev_int r2_ge) ?_) rfl
  · rw [isFull_w, G.flag, decide_eq_true G.flag0]
    rfl
  · rw [decide_eq_true G.chk0]
    rfl
def R_need_rule (xs : List Dat) (y : Dat) : Prop := ∃ r, Good r ∧ xs = [r.dat] ∧ y = .non
theorem len_need_rule {xs : List Dat} {y : Dat} (h : R_need_rule xs y) : xs.length = 1 := by
  obtain ⟨r, _, rfl, _⟩ := h
  rfl
theorem ok_need_rule {f : Addr} {fd : FuncData} (F : Fun K "need_rule" "need_rule" s_need_rule f fd) {f_is_rule : Addr} {d_is_rule : FuncData} (C_is_rule : Cal P w0 K mg base "is_rule" ["value"] 7 R_is_rule f_is_rule d_is_rule) : FnOk P w0 K mg base CX0 8 f fd ["value"] (Pr R_need_rule) := by
  refine fn_pr F sc_need_rule (fun xs y h => len_need_rule h) fun cdv A outer s H E hr => ⟨_, (pss_one (ps_if (pt_not (pt_val (pe_call C_is_rule.ok (hr.mono (by decide)) rfl C_is_rule.at_ C_is_rule.kp C_is_rule.bd .nil pass0 (pa_cons (pv 0) pa_nil)))) (pss_one ps_never) pss_nil)), ?_⟩
  rintro xs y ⟨r, G, rfl, rfl⟩
  exact run_if (b := false) (et_not (a := true) (et_B (ev_call (ea_cons (ev_var rfl) ea_nil) ⟨r, G, rfl, rfl⟩))) (fun z => by cases z) fun _ => run_next rfl
def R_need_bits (xs : List Dat) (y : Dat) : Prop := ∃ ns, Wd ns ∧ xs = [w ns] ∧ y = .non
theorem len_need_bits {xs : List Dat} {y : Dat} (h : R_need_bits xs y) : xs.length = 1 := by
  obtain ⟨r, _, rfl, _⟩ := h
  rfl
theorem ok_need_bits {f : Addr} {fd : FuncData} (F : Fun K "need_bits" "need_bits" s_need_bits f fd) {f_is_word : Addr} {d_is_word : FuncData} (C_is_word : Cal P w0 K mg base "is_word" ["value"] 3 R_is_word f_is_word d_is_word) : FnOk P w0 K mg base CX0 4 f fd ["value"] (Pr R_need_bits) := by
  refine fn_pr F sc_need_bits (fun xs y h => len_need_bits h) fun cdv A outer s H E hr => ⟨_, (pss_one (ps_if (pt_not (pt_val (pe_call C_is_word.ok (hr.mono (by decide)) rfl C_is_word.at_ C_is_word.kp C_is_word.bd .nil pass0 (pa_cons (pv 0) pa_nil)))) (pss_one ps_never) pss_nil)), ?_⟩
  rintro xs y ⟨ns, W, rfl, rfl⟩
  refine run_if (b := false) (et_not (a := true) (et_B (ev_is (ev_call (ea_cons (ev_var rfl) ea_nil) ⟨_, rfl, sz_w (by have := W.short; omega), rfl⟩) ?_))) (fun z => by cases z) fun _ => run_next rfl
  rw [isWord_w, W.bits]
def cbits (c o : Int) : List Int := (List.range (Builtin.Int.intBits (c - 1))).map fun (a : Nat) => Builtin.bitAnd (o.fmod c / 2 ^ (((Builtin.Int.intBits (c - 1) : Nat) : Int) - 1 - (a : Int)).toNat) 1
def R_check_bits (xs : List Dat) (y : Dat) : Prop := ∃ c o, 1 ≤ c ∧ Builtin.Int.intBits (c - 1) ≤ 1000 ∧ xs = [.int c, .int o] ∧ y = w (cbits c o)
theorem len_check_bits {xs : List Dat} {y : Dat} (h : R_check_bits xs y) : xs.length = 2 := by
  obtain ⟨r, _, _, _, rfl, _⟩ := h
  rfl
theorem ok_check_bits {f : Addr} {fd : FuncData} (F : Fun K "check_bits" "check_bits" s_check_bits f fd) (T : Bs mg) : FnOk P w0 K mg base CX0 1 f fd ["check", "ones"] (Pr R_check_bits) := by
  refine fn_pr F sc_check_bits (fun xs y h => len_check_bits h) fun cdv A outer s H E hr => ⟨_, (pss_cons (ps_set (i := 2) sc_check_bits.nd rfl (Or.inl rfl) (pe_bits (pe_op op_sub (pv 0) pe_int)))
      (pss_one (ps_ret (pe_callTy (call_tupK (K := K) rfl) (by rfl) T.tuple (by decide +kernel) (pa_cons (pe_lc (own := [("place", 3)]) rfl sc_check_bits.nd (pi_revR (by rfl) T.reversed (prg_1 (by rfl) T.range (pv 2))) (blkOk_by (own := [("place", 3)]) (N := N_check_bits) (sc := defScope s_check_bits) (by decide +kernel)) (fun _ _ _ _ _ => (pg_name (i := 3) sc_check_bits.nd rfl (Or.inl rfl))) (fun _ _ _ _ _ => pts_nil) (fun _ _ _ _ _ => (pe_op op_and (pe_op op_shr (pe_op op_modN (pv 1) (pv 0)) (pv 3)) pe_int))) pa_nil))))), ?_⟩
  rintro xs y ⟨c, o, h1, h2, rfl, rfl⟩
  refine run_seq1 (run_asg (ev_bits (ev_op (ev_var rfl) ev_int r2_sub)) rfl) ?_
  refine run_ret (ev_tupL (er_is (er_ofN (en_lcRev (js := [3]) (n := ((Builtin.Int.intBits (c - 1) : Nat) : Int)) (v := fun (a : Nat) => .int (Builtin.bitAnd (o.fmod c / 2 ^ (((Builtin.Int.intBits (c - 1) : Nat) : Int) - 1 - (a : Int)).toNat) 1)) (ev_var rfl) (by decide) ⟨by omega, by have := big (n := Builtin.Int.intBits (c - 1)) (by omega); omega⟩ fun a ha => ⟨_, tg_name 3, et_yes, ?_⟩)) ?_)) rfl
  · exact ev_op (ev_op (ev_op (ev_var rfl) (ev_var rfl) (r2_modN (by omega))) (ev_var rfl) (r2_shr (by omega))) ev_int r2_and
  · rw [Int.toNat_natCast]
    unfold cbits
    rw [List.map_map]
    rfl
/-- a table of tails: () is in it, each key a word -/
def inT (es : List (List L2.Key × Dat)) (ns : List Int) : Bool := (lk es (kw ns)).isSome
structure Tab (es : List (List L2.Key × Dat)) : Prop where
  nil : inT es [] = true
def nextF (es : List (List L2.Key × Dat)) : List Int → List Int
  | [] => []
  | n :: ns => if inT es (n :: ns) = true then n :: ns else nextF es ns
theorem nextF_in (es : List (List L2.Key × Dat)) (T : Tab es) : ∀ ns, inT es (nextF es ns) = true
  | [] => T.nil
  | n :: ns => by
    unfold nextF
    split
    · assumption
    · exact nextF_in es T ns
theorem nextF_len (es : List (List L2.Key × Dat)) : ∀ ns, (nextF es ns).length ≤ ns.length
  | [] => Nat.le_refl _
  | n :: ns => by
    unfold nextF
    split
    · exact Nat.le_refl _
    · exact Nat.le_succ_of_le (nextF_len es ns)
def R_next_tail (xs : List Dat) (y : Dat) : Prop := ∃ es ns b, Tab es ∧ ns.length ≤ 1000000 ∧ xs = [.dic es, w ns, .int b] ∧ y = w (nextF es (ns ++ [b]))
theorem len_next_tail {xs : List Dat} {y : Dat} (h : R_next_tail xs y) : xs.length = 3 := by
  obtain ⟨_, _, _, _, _, rfl, _⟩ := h
  rfl
theorem cut1 (n : Int) (ns : List Int) : cutA ((n :: ns).map Dat.int) (some 1) none = ns.map Dat.int := by
  unfold cutA
  rw [HT.sIx_none, show HT.sIx ((n :: ns).map Dat.int).length 0 (some 1) = min 1 ((n :: ns).map Dat.int).length from HT.sIx_nat _ 0 1]
  rw [List.length_map, List.length_cons, show min 1 (ns.length + 1) = 1 by omega, List.map_cons]
  show List.take (ns.length + 1 - 1) (ns.map Dat.int) = _
  rw [Nat.add_sub_cancel, List.take_of_length_le (by rw [List.length_map]; exact Nat.le_refl _)]
theorem ok_next_tail {f : Addr} {fd : FuncData} (F : Fun K "next_tail" "next_tail" s_next_tail f fd) : FnOk P w0 K mg base CX0 1 f fd ["table", "tail", "bit"] (Pr R_next_tail) := by
  refine fn_pr F sc_next_tail (fun xs y h => len_next_tail h) fun cdv A outer s H E hr => ⟨_, (pss_cons (ps_set (i := 3) sc_next_tail.nd rfl (Or.inl rfl) (pe_op (op_catK (K := K) rfl) (pv 1) (pe_tup (pa_cons (pv 2) pa_nil))))
      (pss_cons (ps_while PassesOwn.never (pt_cmp (pc_dnotin (hu_of hr) (pv 3) (pv 0))) (pss_one (ps_set (i := 3) sc_next_tail.nd rfl (Or.inl rfl) (pe_slice (sl_tupK (K := K) rfl) (pv 3) (po_some pe_int) po_none))))
      (pss_one (ps_ret (pv 3))))), ?_⟩
  rintro xs y ⟨es, ns, b, T, hz, rfl, rfl⟩
  refine run_seq1 (run_asg (ev_op (ev_var rfl) (ev_w1 (ev_var rfl)) (r2_cat (by show (ns.map Dat.int).length + 1 ≤ sizeLine; rw [List.length_map]; have := big hz; omega))) rfl) ?_
  refine run_seq (M := fun δ => δ = [.d (.dic es), .d (w ns), .d (.int b), .d (w (nextF es (ns ++ [b])))]) (run_while (fun m δ => ∃ gs, m = gs.length ∧ δ = [.d (.dic es), .d (w ns), .d (.int b), .d (w gs)] ∧ nextF es gs = nextF es (ns ++ [b])) (ns ++ [b]).length ⟨ns ++ [b], rfl, ?_, rfl⟩ ?_) fun δ e => by subst e; exact run_ret (ev_var rfl) rfl
  · show [Slot.d (.dic es), .d (w ns), .d (.int b), .d (.tup (ns.map .int ++ [.int b]))] = _
    rw [show ns.map Dat.int ++ [Dat.int b] = (ns ++ [b]).map .int by rw [List.map_append]; rfl]
    rfl
  · rintro m δ ⟨gs, rfl, rfl, e⟩
    refine ⟨!(inT es gs), et_B (ev_dnotin (ns := gs) (ek_ofD (ev_var rfl)) (ev_var rfl)), fun hb => ?_, fun hb => ?_⟩
    · cases gs with
      | nil =>
        rw [T.nil] at hb
        cases hb
      | cons n gs =>
        refine run_asg (ev_slT (ev_var rfl) (eo_some ev_int) eo_none) ⟨gs.length, by simp, gs, rfl, ?_, ?_⟩
        · show [Slot.d (.dic es), .d (w ns), .d (.int b), .d (.tup (cutA ((n :: gs).map Dat.int) (some 1) none))] = _
          rw [cut1]
          rfl
        · rw [← e]
          show _ = (if inT es (n :: gs) = true then n :: gs else nextF es gs)
          rw [if_neg]
          intro z
          rw [z] at hb
          cases hb
    · have hin : inT es gs = true := by
        cases q : inT es gs with
        | true => rfl
        | false =>
          rw [q] at hb
          cases hb
      have e2 : nextF es gs = gs := by
        cases gs with
        | nil => rfl
        | cons n gs =>
          show (if inT es (n :: gs) = true then n :: gs else nextF es gs) = _
          rw [if_pos hin]
      rw [← e, e2]
def flagTail (es : List (List L2.Key × Dat)) (flag : List Int) : List Int := flag.foldl (fun t b => nextF es (t ++ [b])) []
theorem tails_len (es : List (List L2.Key × Dat)) : ∀ (bs t : List Int), (bs.foldl (fun t b => nextF es (t ++ [b])) t).length ≤ t.length + bs.length
  | [], t => Nat.le_refl _
  | b :: bs, t => by
    have h1 := tails_len es bs (nextF es (t ++ [b]))
    have h2 := nextF_len es (t ++ [b])
    rw [List.length_append, List.length_singleton] at h2
    rw [List.foldl_cons, List.length_cons]
    omega
theorem fold_more {α β : Type} {f : β → α → β} {z : β} {l : List α} {i : Nat} {a : α} (h : l[i]? = some a) : (l.take (i + 1)).foldl f z = f ((l.take i).foldl f z) a := by
  rw [List.take_add_one, h, List.foldl_append]
  rfl
def R_tail_of_flag (xs : List Dat) (y : Dat) : Prop := ∃ es flag, Tab es ∧ flag.length ≤ 1000000 ∧ xs = [.dic es, w flag] ∧ y = w (flagTail es flag)
theorem len_tail_of_flag {xs : List Dat} {y : Dat} (h : R_tail_of_flag xs y) : xs.length = 2 := by
  obtain ⟨_, _, _, _, rfl, _⟩ := h
  rfl
theorem ok_tail_of_flag {f : Addr} {fd : FuncData} (F : Fun K "tail_of_flag" "tail_of_flag" s_tail_of_flag f fd) {f_next_tail : Addr} {d_next_tail : FuncData} (C_next_tail : Cal P w0 K mg base "next_tail" ["table", "tail", "bit"] 1 R_next_tail f_next_tail d_next_tail) : FnOk P w0 K mg base CX0 2 f fd ["table", "flag"] (Pr R_tail_of_flag) := by
  refine fn_pr F sc_tail_of_flag (fun xs y h => len_tail_of_flag h) fun cdv A outer s H E hr => ⟨_, (pss_cons (ps_set (i := 2) sc_tail_of_flag.nd rfl (Or.inl rfl) (pe_tup pa_nil))
      (pss_cons (ps_for PassesOwn.never rfl (pi_tupK (K := K) rfl (pv 1)) (pg_name (i := 3) sc_tail_of_flag.nd rfl (Or.inl rfl)) (pss_one (ps_set (i := 2) sc_tail_of_flag.nd rfl (Or.inl rfl) (pe_call C_next_tail.ok (hr.mono (by decide)) rfl C_next_tail.at_ C_next_tail.kp C_next_tail.bd .nil pass0 (pa_cons (pv 0) (pa_cons (pv 2) (pa_cons (pv 3) pa_nil)))))))
      (pss_one (ps_ret (pv 2))))), ?_⟩
  rintro xs y ⟨es, flag, T, hz, rfl, rfl⟩
  refine run_seq1 (run_asg (ev_tup ea_nil (by decide)) rfl) ?_
  refine run_seq (M := fun δ => ∃ s, δ = [.d (.dic es), .d (w flag), .d (w (flagTail es flag)), s]) (run_forT (ev_var rfl) (fun i δ => ∃ s, δ = [.d (.dic es), .d (w flag), .d (w (flagTail es (flag.take i))), s]) ⟨.no, rfl⟩ ?_ ?_) fun δ ⟨s, e⟩ => by subst e; exact run_ret (ev_var rfl) rfl
  · rintro i x δ hx ⟨s, rfl⟩
    rw [List.getElem?_map] at hx
    cases hb : flag[i]? with
    | none =>
      rw [hb] at hx
      cases hx
    | some b =>
      rw [hb] at hx
      cases hx
      refine ⟨_, _, tg_name 3, run_asg (ev_call (ea_cons (ev_var rfl) (ea_cons (ev_var rfl) (ea_cons (ev_var rfl) ea_nil))) ⟨es, _, b, T, ?_, rfl, rfl⟩) ⟨.d (.int b), ?_⟩⟩
      · have := tails_len es (flag.take i) []
        rw [List.length_take] at this
        have e0 : ([] : List Int).length = 0 := rfl
        unfold flagTail
        omega
      · have e : flagTail es (flag.take (i + 1)) = nextF es (flagTail es (flag.take i) ++ [b]) := fold_more hb
        rw [e]
        rfl
  · rintro δ ⟨s, rfl⟩
    rw [List.length_map, List.take_length]
    exact ⟨s, rfl⟩
def payF (c : Int) (read : List Int) : Dat :=
  if read.length < (cbits c 0).length then .str "check"
  else if cbits c (read.take (read.length - (cbits c 0).length)).sum = read.drop (read.length - (cbits c 0).length) then w (read.take (read.length - (cbits c 0).length)) else .str "check"
def R__payload (xs : List Dat) (y : Dat) : Prop := ∃ c read, 1 ≤ c ∧ Builtin.Int.intBits (c - 1) ≤ 1000 ∧ xs = [.int c, w read] ∧ y = payF c read
theorem len__payload {xs : List Dat} {y : Dat} (h : R__payload xs y) : xs.length = 2 := by
  obtain ⟨_, _, _, _, rfl, _⟩ := h
  rfl
theorem ok__payload {f : Addr} {fd : FuncData} (F : Fun K "_payload" "_payload" s__payload f fd) {f_check_bits : Addr} {d_check_bits : FuncData} (C_check_bits : Cal P w0 K mg base "check_bits" ["check", "ones"] 1 R_check_bits f_check_bits d_check_bits) (T : Bs mg) : FnOk P w0 K mg base CX0 2 f fd ["check", "read"] (Pr R__payload) := by
  refine fn_pr F sc__payload (fun xs y h => len__payload h) fun cdv A outer s H E hr => ⟨_, (pss_cons (ps_set (i := 2) sc__payload.nd rfl (Or.inl rfl) (pe_op op_sub (pe_callB (call_lenK (K := K) rfl) (by rfl) T.len PySem.boot_len (pa_cons (pv 1) pa_nil)) (pe_callB (call_lenK (K := K) rfl) (by rfl) T.len PySem.boot_len (pa_cons (pe_call C_check_bits.ok (hr.mono (by decide)) rfl C_check_bits.at_ C_check_bits.kp C_check_bits.bd .nil pass0 (pa_cons (pv 0) (pa_cons pe_int pa_nil))) pa_nil))))
      (pss_cons (ps_if (PW.pt (pw_or (pt_cmpR op_lt (pv 2) pe_int (nomark _)) (pw_or1 (pt_cmpR (op_neK (K := K) rfl hr.units) (pe_call C_check_bits.ok (hr.mono (by decide)) rfl C_check_bits.at_ C_check_bits.kp C_check_bits.bd .nil pass0 (pa_cons (pv 0) (pa_cons (pe_callB (cr_sumT (K := K) rfl rfl) (by rfl) T.sum (by decide +kernel) (pa_cons (pe_slice (sl_tupK (K := K) rfl) (pv 1) po_none (po_some (pv 2))) pa_nil)) pa_nil))) (pe_slice (sl_tupK (K := K) rfl) (pv 1) (po_some (pv 2)) po_none) (nomark _))))) (pss_one (ps_ret pe_str)) pss_nil)
      (pss_one (ps_ret (pe_slice (sl_tupK (K := K) rfl) (pv 1) po_none (po_some (pv 2))))))), ?_⟩
  rintro xs y ⟨c, read, h1, h2, rfl, rfl⟩
  refine run_seq1 (run_asg (ev_op (ev_lenW (ev_var rfl)) (ev_lenW (ev_call (ea_cons (ev_var rfl) (ea_cons ev_int ea_nil)) ⟨c, 0, h1, h2, rfl, rfl⟩)) r2_sub) rfl) ?_
  by_cases hs : read.length < (cbits c 0).length
  · have e : payF c read = .str "check" := if_pos hs
    rw [e]
    refine run_seq (M := fun _ => False) (run_if (b := true) (et_or (a := true) (b := false) (et_test (ev_is (ev_op (ev_var rfl) ev_int r2_lt) ?_)) fun z => by cases z) (fun _ => run_ret ev_str rfl) fun z => by cases z) fun _ z => z.elim
    exact congrArg Dat.bl (decide_eq_true (by omega))
  · obtain ⟨k, hk⟩ : ∃ k : Nat, k = read.length - (cbits c 0).length := ⟨_, rfl⟩
    have ek : (read.length : Int) - ((cbits c 0).length : Int) = (k : Int) := by omega
    rw [ek]
    by_cases hc : cbits c (read.take k).sum = read.drop k
    · have e : payF c read = w (read.take k) := by
        unfold payF
        rw [if_neg hs, ← hk, if_pos hc]
      rw [e]
      refine run_seq1 (run_if (b := false) (et_is (et_or (a := false) (b := !decide (cbits c (read.take k).sum = read.drop k)) (et_test (ev_is (ev_op (ev_var rfl) ev_int r2_lt) (congrArg Dat.bl (decide_eq_false (by omega))))) fun _ => et_test (ev_op (ev_call (ea_cons (ev_var rfl) (ea_cons (ev_sumW (ev_is (ev_cut (ev_var rfl) eo_none (eo_some (ev_var rfl))) (congrArg w (cutI_to read k)))) ea_nil)) ⟨c, (read.take k).sum, h1, h2, rfl, rfl⟩) (ev_is (ev_cut (ev_var rfl) (eo_some (ev_var rfl)) eo_none) (congrArg w (cutI_from read k))) r2_neW)) (by rw [decide_eq_true hc]; rfl)) (fun z => by cases z) fun _ => run_next rfl) ?_
      exact run_ret (ev_is (ev_cut (ev_var rfl) eo_none (eo_some (ev_var rfl))) (by rw [cutI_to])) rfl
    · have e : payF c read = .str "check" := by
        unfold payF
        rw [if_neg hs, ← hk, if_neg hc]
      rw [e]
      refine run_seq (M := fun _ => False) (run_if (b := true) (et_is (et_or (a := false) (b := !decide (cbits c (read.take k).sum = read.drop k)) (et_test (ev_is (ev_op (ev_var rfl) ev_int r2_lt) (congrArg Dat.bl (decide_eq_false (by omega))))) fun _ => et_test (ev_op (ev_call (ea_cons (ev_var rfl) (ea_cons (ev_sumW (ev_is (ev_cut (ev_var rfl) eo_none (eo_some (ev_var rfl))) (congrArg w (cutI_to read k)))) ea_nil)) ⟨c, (read.take k).sum, h1, h2, rfl, rfl⟩) (ev_is (ev_cut (ev_var rfl) (eo_some (ev_var rfl)) eo_none) (congrArg w (cutI_from read k))) r2_neW)) (by rw [decide_eq_false hc]; rfl)) (fun _ => run_ret ev_str rfl) fun z => by cases z) fun _ z => z.elim
def dueF (es : List (List L2.Key × Dat)) : List Int → Dat
  | [] => .non
  | n :: ns => match lk es (kw (n :: ns)) with
    | some x => x
    | none => dueF es ns
def R__due (xs : List Dat) (y : Dat) : Prop := ∃ es ns, ns.length ≤ 1000000 ∧ xs = [.dic es, w ns] ∧ y = dueF es ns
theorem len__due {xs : List Dat} {y : Dat} (h : R__due xs y) : xs.length = 2 := by
  obtain ⟨_, _, _, rfl, _⟩ := h
  rfl
theorem ok__due {f : Addr} {fd : FuncData} (F : Fun K "_due" "_due" s__due f fd) (T : Bs mg) : FnOk P w0 K mg base CX0 1 f fd ["bits", "tail"] (Pr R__due) := by
  refine fn_pr F sc__due (fun xs y h => len__due h) fun cdv A outer s H E hr => ⟨_, (pss_cons (ps_for PassesOwn.never rfl (pi_range1 (by rfl) T.range (pa_cons (pe_callB (call_lenK (K := K) rfl) (by rfl) T.len PySem.boot_len (pa_cons (pv 1) pa_nil)) pa_nil)) (pg_name (i := 2) sc__due.nd rfl (Or.inl rfl)) (pss_one (ps_if (pt_cmp (pc_din (hu_of hr) (pe_slice (sl_tupK (K := K) rfl) (pv 1) (po_some (pv 2)) po_none) (pv 0))) (pss_one (ps_ret (pe_dget (hu_of hr) (pv 0) (pe_slice (sl_tupK (K := K) rfl) (pv 1) (po_some (pv 2)) po_none) (fun _ _ => rfl)))) pss_nil)))
      (pss_one (ps_ret pe_non))), ?_⟩
  rintro xs y ⟨es, ns, hz, rfl, rfl⟩
  refine run_seq (M := fun δ => dueF es ns = .non) (run_forR (n := (ns.length : Int)) (ea_cons (ev_lenW (ev_var rfl)) ea_nil) (by omega) (fun i δ => dueF es (ns.drop i) = dueF es ns ∧ ∃ s, δ = [.d (.dic es), .d (w ns), s]) ⟨rfl, _, rfl⟩ ?_ ?_) fun δ e => by rw [e]; exact run_ret ev_non rfl
  · rintro i δ hi ⟨e, s, rfl⟩
    obtain ⟨m, ms, hm⟩ : ∃ m ms, ns.drop i = m :: ms := ⟨ns[i]'(by omega), ns.drop (i + 1), List.drop_eq_getElem_cons (by omega)⟩
    have hd : ns.drop (i + 1) = ms := by
      rw [← List.tail_drop, hm]
      rfl
    have step : dueF es (m :: ms) = match lk es (kw (m :: ms)) with | some x => x | none => dueF es ms := rfl
    have here : EvD (tSl (rSlA K) (tVar 1) (tPart (tVar 2)) tNoPart) [.d (.dic es), .d (w ns), .d (.int (i : Int))] (w (m :: ms)) := ev_is (ev_cut (ev_var rfl) (eo_some (ev_var rfl)) eo_none) (by rw [cutI_from, hm])
    refine run_if (b := (lk es (kw (m :: ms))).isSome) (et_B (ev_din (ek_ofD (ev_var rfl)) here)) (fun hb => ?_) (fun hb => run_next ⟨?_, _, rfl⟩)
    · obtain ⟨x, hx⟩ := Option.isSome_iff_exists.mp hb
      refine run_ret (ev_dget (ek_ofD (ev_var rfl)) here hx) ?_
      rw [← e, hm, step, hx]
    · have hx : lk es (kw (m :: ms)) = none := by
        cases q : lk es (kw (m :: ms)) with
        | none => rfl
        | some x =>
          rw [q] at hb
          cases hb
      rw [hd, ← e, hm, step, hx]
  · rintro δ ⟨e, _⟩
    rw [Int.toNat_natCast, List.drop_length] at e
    exact e.symm
def unkw (k : List L2.Key) : List Int := k.filterMap Sum.getLeft?
theorem unkw_kw : ∀ ns : List Int, unkw (kw ns) = ns
  | [] => rfl
  | n :: ns => by
    show n :: unkw (kw ns) = n :: ns
    rw [unkw_kw ns]
def ksOf (es : List (List L2.Key × Dat)) : List (List Int) := es.map fun e => unkw e.1
/-- all keys are words, those of ks -/
def KeysIn (P : List Int → Prop) (es : List (List L2.Key × Dat)) : Prop := ∀ e ∈ es, ∃ ns, e.1 = kw ns ∧ P ns
theorem KeysIn.put {P : List Int → Prop} {es : List (List L2.Key × Dat)} (h : KeysIn P es) {ns : List Int} (hn : P ns) (x : Dat) : KeysIn P (putE es (kw ns) x) := by
  intro e he
  unfold putE at he
  split at he
  · obtain ⟨e0, h0, rfl⟩ := List.mem_map.mp he
    obtain ⟨ms, h1, h2⟩ := h e0 h0
    refine ⟨ms, ?_, h2⟩
    split <;> exact h1
  · rcases List.mem_append.mp he with he | he
    · exact h e he
    · rw [List.mem_singleton.mp he]
      exact ⟨ns, rfl, hn⟩
theorem putAll_keys {α : Type} {P : List Int → Prop} {kf : α → List Int} {vf : α → Dat} : ∀ (l : List α), (∀ a ∈ l, P (kf a)) → KeysIn P (putAll l kf vf) := by
  intro l
  have gen : ∀ (l : List α) (es : List (List L2.Key × Dat)), (∀ a ∈ l, P (kf a)) → KeysIn P es → KeysIn P (l.foldl (fun es a => putE es (kw (kf a)) (vf a)) es) := by
    intro l
    induction l with
    | nil => intro es _ h; exact h
    | cons a l ih =>
      intro es hP h
      exact ih _ (fun b hb => hP b (List.mem_cons_of_mem _ hb)) (h.put (hP a List.mem_cons_self) _)
  exact fun h => gen l [] h fun e he => nomatch he
theorem ksOf_kw {P : List Int → Prop} {es : List (List L2.Key × Dat)} (h : KeysIn P es) : es.map (·.1) = (ksOf es).map kw := by
  unfold ksOf
  rw [List.map_map]
  refine List.map_congr_left fun e he => ?_
  obtain ⟨ns, h1, _⟩ := h e he
  show e.1 = kw (unkw e.1)
  rw [h1, unkw_kw]
theorem ksOf_in {P : List Int → Prop} {es : List (List L2.Key × Dat)} (h : KeysIn P es) : ∀ ns ∈ ksOf es, P ns := by
  intro ns hn
  obtain ⟨e, he, rfl⟩ := List.mem_map.mp hn
  obtain ⟨ms, h1, h2⟩ := h e he
  rw [h1, unkw_kw]
  exact h2
def bitsE (ins : List (List Int × Int)) : List (List L2.Key × Dat) := putAll ins (·.1) fun p => .int p.2
/-- the ends' beginnings -/
def starts (ks : List (List Int)) : List (List Int) := (ks.map fun ns => (List.range (ns.length + 1)).map fun a => ns.take a).flatten
def tableE (ins : List (List Int × Int)) : List (List L2.Key × Dat) := putAll ([] :: starts (ksOf (bitsE ins))) id fun t => dueF (bitsE ins) t
theorem starts_flat (ks : List (List Int)) : flat2 ks (fun ns => ns.length + 1) (fun ns a => w (ns.take a)) = (starts ks).map w := by
  unfold flat2 starts
  induction ks with
  | nil => rfl
  | cons k ks ih =>
    rw [List.map_cons, List.flatten_cons, List.map_cons, List.flatten_cons, List.map_append, ih, List.map_map]
    rfl
theorem starts_in {ks : List (List Int)} {t : List Int} (h : t ∈ starts ks) : ∃ ns ∈ ks, t.length ≤ ns.length := by
  obtain ⟨l, hl, ht⟩ := List.mem_flatten.mp h
  obtain ⟨ns, hn, rfl⟩ := List.mem_map.mp hl
  obtain ⟨a, _, rfl⟩ := List.mem_map.mp ht
  exact ⟨ns, hn, by rw [List.length_take]; exact Nat.min_le_right _ _⟩
def R_put_table (xs : List Dat) (y : Dat) : Prop := ∃ r, Good r ∧ xs = [.tup (r.ins.map rowD)] ∧ y = .dic (tableE r.ins)
theorem len_put_table {xs : List Dat} {y : Dat} (h : R_put_table xs y) : xs.length = 1 := by
  obtain ⟨_, _, rfl, _⟩ := h
  rfl
theorem ok_put_table {f : Addr} {fd : FuncData} (F : Fun K "put_table" "put_table" s_put_table f fd) {f__due : Addr} {d__due : FuncData} (C__due : Cal P w0 K mg base "_due" ["bits", "tail"] 1 R__due f__due d__due) (T : Bs mg) : FnOk P w0 K mg base CX0 2 f fd ["inserts"] (Pr R_put_table) := by
  refine fn_pr F sc_put_table (fun xs y h => len_put_table h) fun cdv A outer s H E hr => ⟨_, (pss_cons (ps_set (i := 1) sc_put_table.nd rfl (Or.inr rfl) (pe_dcT (own := [("word", 2), ("bit", 3)]) (hu_of hr) rfl sc_put_table.nd (pi_tupK (K := K) rfl (pv 0)) (blkOk_by (own := [("word", 2), ("bit", 3)]) (N := N_put_table) (sc := defScope s_put_table) (by decide +kernel)) (fun _ _ _ _ _ => by exact (pg_tupK (K := K) 2 rfl rfl (pgs_cons (pg_name (i := 2) sc_put_table.nd rfl (Or.inl rfl)) (pgs_cons (pg_name (i := 3) sc_put_table.nd rfl (Or.inl rfl)) pgs_nil)))) (fun _ _ _ _ _ => pts_nil) (fun _ _ _ _ _ => (pv 2)) (fun _ _ _ _ _ => (pv 3))))
      (pss_cons (ps_lock (ps_setLc2 (i := 4) (own := [("word", 2), ("size", 5)]) (vs1 := [5]) rfl sc_put_table.nd rfl rfl (sw_true rfl rfl rfl (by decide +kernel)) (pi_keys (pv 1)) (blkOk_by (own := [("word", 2), ("size", 5)]) (N := N_put_table) (sc := defScope s_put_table) (by decide +kernel)) (by decide) (fun _ _ _ _ _ => (pg_name (i := 2) sc_put_table.nd rfl (Or.inl rfl))) (fun _ _ _ _ _ => pts_nil) (fun _ _ _ _ _ => (pi_range1 (by rfl) T.range (pa_cons (pe_op op_add (pe_callB (call_lenK (K := K) rfl) (by rfl) T.len PySem.boot_len (pa_cons (pv 2) pa_nil)) pe_int) pa_nil))) (fun _ _ _ _ _ => (pg_name (i := 5) sc_put_table.nd rfl (Or.inl rfl))) (fun _ _ _ _ _ => pts_nil) (fun _ _ _ _ _ => (pe_slice (sl_tupK (K := K) rfl) (pv 2) po_none (po_some (pv 5))))))
      (pss_one (ps_ret (pe_dcT (own := [("tail", 6)]) (hu_of hr) rfl sc_put_table.nd (pi_listK (K := K) rfl (pe_lst (pa_cons (pe_tup pa_nil) (pa_starK rfl (StX.pa_star (pv 4) pa_nil))))) (blkOk_by (own := [("tail", 6)]) (N := N_put_table) (sc := defScope s_put_table) (by decide +kernel)) (fun _ _ _ _ _ => (pg_name (i := 6) sc_put_table.nd rfl (Or.inl rfl))) (fun _ _ _ _ _ => pts_nil) (fun _ _ _ _ _ => (pv 6)) (fun _ _ _ _ _ => (pe_call C__due.ok (hr.mono (by decide)) rfl C__due.at_ C__due.kp C__due.bd .nil pass0 (pa_cons (pv 1) (pa_cons (pv 6) pa_nil))))))))), ?_⟩
  rintro xs y ⟨r, G, rfl, rfl⟩
  have hlen : r.ins.length < sizeLine := big (by have := G.many; omega)
  have keys : KeysIn (fun ns => ns.length ≤ 1000) (bitsE r.ins) := putAll_keys r.ins fun p hp => (G.rows p hp).2.2.1
  have many : (ksOf (bitsE r.ins)).length ≤ 1000 := by
    unfold ksOf bitsE
    rw [List.length_map]
    exact Nat.le_trans (putAll_len _ _ _) G.many
  have room : (ksOf (bitsE r.ins)).length * 1001 + 1001 < sizeLine := by
    rw [sizeLine_eq]
    omega
  refine run_seq1 (run_asgM (es := bitsE r.ins) (em_dcT (js := [2, 3]) (l := r.ins) (enc := rowD) (kf := (·.1)) (vf := fun p => .int p.2) (ev_var rfl) (by decide) hlen fun p hp => ⟨_, tg_tup (tgs_cons (tg_name 2) (tgs_cons (tg_name 3) tgs_nil)) rfl, et_yes, ev_var rfl, ev_var rfl⟩) rfl) ?_
  refine run_seq1 (run_lc2 (i := 1) (j := 4) (a0 := 2) (a1 := 5) (m := 1001) (ks := ksOf (bitsE r.ins)) (n := fun ns => ns.length + 1) (v := fun ns a => w (ns.take a)) rfl (ksOf_kw keys) room (fun ns hn => by have := ksOf_in keys ns hn; omega) (by decide)
    (fun ns hn => ⟨ea_cons (ev_op (ev_lenW (ev_var rfl)) ev_int r2_add) ea_nil, fun a ha => ev_is (ev_cut (ev_var rfl) eo_none (eo_some (ev_var rfl))) (by rw [cutI_to])⟩) rfl) ?_
  rw [starts_flat]
  refine run_freezeD (i := 1) rfl ?_
  have many2 : ([] :: starts (ksOf (bitsE r.ins))).length < sizeLine := by
    have z := flat2_len (ksOf (bitsE r.ins)) (fun ns => ns.length + 1) (fun ns a => w (ns.take a)) 1001 fun ns hn => by have := ksOf_in keys ns hn; omega
    rw [starts_flat, List.length_map] at z
    rw [List.length_cons]
    omega
  refine run_ret (ev_ofM (em_dcL (js := [6]) (l := [] :: starts (ksOf (bitsE r.ins))) (enc := w) (kf := id) (vf := fun t => dueF (bitsE r.ins) t) (er_is (er_ofN (en_lst (ea_cons ev_w0 (ea_star (er_var rfl) ea_nil)) ?_)) ?_) (by decide) many2 fun t ht => ⟨_, tg_name 6, et_yes, ev_var rfl, ev_call (ea_cons (ev_var rfl) (ea_cons (ev_var rfl) ea_nil)) ⟨bitsE r.ins, t, ?_, rfl, rfl⟩⟩)) rfl
  · rw [List.append_nil, List.length_cons, List.length_map]
    rw [List.length_cons] at many2
    omega
  · rw [List.append_nil]
    rfl
  · rcases List.mem_cons.mp ht with rfl | ht
    · exact Nat.zero_le _
    · obtain ⟨ns, hn, hl⟩ := starts_in ht
      have := ksOf_in keys ns hn
      omega
def bordersF (flag ns : List Int) : List Nat := (List.range ((ns.length : Int) - (flag.length : Int) + 1).toNat).filter fun a => decide ((ns.take (a + flag.length)).drop a = flag)
def R_borders (xs : List Dat) (y : Dat) : Prop := ∃ r ns, Good r ∧ Wd ns ∧ xs = [r.dat, w ns] ∧ y = .lst ((bordersF r.flag ns).map fun a => .int (a : Nat))
theorem len_borders {xs : List Dat} {y : Dat} (h : R_borders xs y) : xs.length = 2 := by
  obtain ⟨_, _, _, _, rfl, _⟩ := h
  rfl
theorem ok_borders {f : Addr} {fd : FuncData} (F : Fun K "borders" "borders" s_borders f fd) {f_need_rule : Addr} {d_need_rule : FuncData} (C_need_rule : Cal P w0 K mg base "need_rule" ["value"] 8 R_need_rule f_need_rule d_need_rule) {f_need_bits : Addr} {d_need_bits : FuncData} (C_need_bits : Cal P w0 K mg base "need_bits" ["value"] 4 R_need_bits f_need_bits d_need_bits) (T : Bs mg) : FnOk P w0 K mg base CX0 9 f fd ["rule", "bits"] (Pr R_borders) := by
  refine fn_pr F sc_borders (fun xs y h => len_borders h) fun cdv A outer s H E hr => ⟨_, (pss_cons (ps_expr (pe_call C_need_rule.ok (hr.mono (by decide)) rfl C_need_rule.at_ C_need_rule.kp C_need_rule.bd .nil pass0 (pa_cons (pv 0) pa_nil)))
      (pss_cons (ps_expr (pe_call C_need_bits.ok (hr.mono (by decide)) rfl C_need_bits.at_ C_need_bits.kp C_need_bits.bd .nil pass0 (pa_cons (pv 1) pa_nil)))
      (pss_cons (ps_set (i := 2) sc_borders.nd rfl (Or.inr rfl) (pe_ix (ix_tupK (K := K) rfl) (pv 0) pe_int (fun _ _ => rfl)))
      (pss_cons (ps_set (i := 3) sc_borders.nd rfl (Or.inr rfl) (pe_callB (call_lenK (K := K) rfl) (by rfl) T.len PySem.boot_len (pa_cons (pv 2) pa_nil)))
      (pss_one (ps_ret (pe_lc (own := [("at", 4)]) rfl sc_borders.nd (pi_range1 (by rfl) T.range (pa_cons (pe_op op_add (pe_op op_sub (pe_callB (call_lenK (K := K) rfl) (by rfl) T.len PySem.boot_len (pa_cons (pv 1) pa_nil)) (pv 3)) pe_int) pa_nil)) (blkOk_by (own := [("at", 4)]) (N := N_borders) (sc := defScope s_borders) (by decide +kernel)) (fun _ _ _ _ _ => (pg_name (i := 4) sc_borders.nd rfl (Or.inl rfl))) (fun _ _ _ _ _ => (pts_one (pt_cmpR (op_eqK (K := K) rfl hr.units) (pe_slice (sl_tupK (K := K) rfl) (pv 1) (po_some (pv 4)) (po_some (pe_op op_add (pv 4) (pv 3)))) (pv 2) (nomark _)))) (fun _ _ _ _ _ => (pv 4))))))))), ?_⟩
  rintro xs y ⟨r, ns, G, W, rfl, rfl⟩
  refine run_seq1 (run_drop (ev_call (ea_cons (ev_var rfl) ea_nil) ⟨r, G, rfl, rfl⟩) rfl) ?_
  refine run_seq1 (run_drop (ev_call (ea_cons (ev_var rfl) ea_nil) ⟨ns, W, rfl, rfl⟩) rfl) ?_
  refine run_seq1 (run_asg (ev_op (ev_var rfl) ev_int (r2_ixT (z := w r.flag) rfl)) rfl) ?_
  refine run_seq1 (run_asg (ev_lenW (ev_var rfl)) rfl) ?_
  refine run_ret (ev_ofN (en_lcR (js := [4]) (n := (ns.length : Int) - (r.flag.length : Int) + 1) (f := fun a => decide ((ns.take (a + r.flag.length)).drop a = r.flag)) (v := fun a => .int (a : Nat)) (ea_cons (ev_op (ev_op (ev_lenW (ev_var rfl)) (ev_var rfl) r2_sub) ev_int r2_add) ea_nil) (by decide) ?_ fun a ha => ⟨_, tg_name 4, et_test ?_, fun _ => ev_var rfl⟩)) rfl
  · have h1 := big (n := ns.length) (by have := W.short; omega)
    have h2 := G.flag0
    have h3 := G.flag1
    exact ⟨by omega, by omega⟩
  · refine ev_is (ev_op (ev_cut (ev_var rfl) (eo_some (ev_var rfl)) (eo_some (ev_op (ev_var rfl) (ev_var rfl) r2_add))) (ev_var rfl) r2_eqW) ?_
    have e : ((a : Int) + (r.flag.length : Int)) = ((a + r.flag.length : Nat) : Int) := by omega
    rw [e, cutI_both]
def lkD (es : List (List L2.Key × Dat)) (t : List Int) : Dat := (lk es (kw t)).getD .non
def ansGo (es : List (List L2.Key × Dat)) (c : Int) : List Int → Dat → List Int → List Int → Dat
  | _, due, read, [] => match due with
    | .non => payF c read
    | _ => .str "short"
  | tail, due, read, b :: bs => match due with
    | .non => ansGo es c (nextF es (tail ++ [b])) (lkD es (nextF es (tail ++ [b]))) (read ++ [b]) bs
    | .int d => if b = d then ansGo es c (nextF es (tail ++ [b])) .non read bs else .str "bit"
    | _ => .str "bit"
def ansF (r : Rule) (es : List (List L2.Key × Dat)) (text : List Int) : Dat :=
  if text.length < r.flag.length then .str "overlap" else ansGo es r.chk (flagTail es r.flag) (lkD es (flagTail es r.flag)) [] (text.drop r.flag.length)
/-- what is put in: None or an int -/
def Due (x : Dat) : Prop := x = .non ∨ ∃ d, x = .int d
structure TabV (es : List (List L2.Key × Dat)) : Prop where
  tab : Tab es
  due : ∀ k x, lk es k = some x → Due x
theorem lkD_at {es : List (List L2.Key × Dat)} {t : List Int} (h : inT es t = true) : lk es (kw t) = some (lkD es t) := by
  unfold inT at h
  obtain ⟨x, hx⟩ := Option.isSome_iff_exists.mp h
  unfold lkD
  rw [hx]
  rfl
def R__answer (xs : List Dat) (y : Dat) : Prop := ∃ r es text, Good r ∧ TabV es ∧ text.length ≤ 100000 ∧ xs = [r.dat, .dic es, w text] ∧ y = ansF r es text
theorem len__answer {xs : List Dat} {y : Dat} (h : R__answer xs y) : xs.length = 3 := by
  obtain ⟨_, _, _, _, _, _, rfl, _⟩ := h
  rfl
theorem flagTail_in {es : List (List L2.Key × Dat)} (T : Tab es) : ∀ (bs t : List Int), inT es t = true → inT es (bs.foldl (fun t b => nextF es (t ++ [b])) t) = true
  | [], _, h => h
  | _ :: bs, _, _ => flagTail_in T bs _ (nextF_in es T _)
theorem ok__answer {f : Addr} {fd : FuncData} (F : Fun K "_answer" "_answer" s__answer f fd) {f_tail_of_flag : Addr} {d_tail_of_flag : FuncData} (C_tail_of_flag : Cal P w0 K mg base "tail_of_flag" ["table", "flag"] 2 R_tail_of_flag f_tail_of_flag d_tail_of_flag) {f__payload : Addr} {d__payload : FuncData} (C__payload : Cal P w0 K mg base "_payload" ["check", "read"] 2 R__payload f__payload d__payload) {f_next_tail : Addr} {d_next_tail : FuncData} (C_next_tail : Cal P w0 K mg base "next_tail" ["table", "tail", "bit"] 1 R_next_tail f_next_tail d_next_tail) (T : Bs mg) : FnOk P w0 K mg base CX0 3 f fd ["rule", "table", "text"] (Pr R__answer) := by
  refine fn_pr F sc__answer (fun xs y h => len__answer h) fun cdv A outer s H E hr => ⟨_, (pss_cons (ps_asg (pv 0) (pg_tupK (K := K) 3 rfl rfl (pgs_cons (pg_name (i := 3) sc__answer.nd rfl (Or.inl rfl)) (pgs_cons (pg_name (i := 4) sc__answer.nd rfl (Or.inl rfl)) (pgs_cons (pg_name (i := 5) sc__answer.nd rfl (Or.inl rfl)) pgs_nil)))))
      (pss_cons (ps_if (pt_cmpR op_lt (pe_callB (call_lenK (K := K) rfl) (by rfl) T.len PySem.boot_len (pa_cons (pv 2) pa_nil)) (pe_callB (call_lenK (K := K) rfl) (by rfl) T.len PySem.boot_len (pa_cons (pv 3) pa_nil)) (nomark _)) (pss_one (ps_ret pe_str)) pss_nil)
      (pss_cons (ps_set (i := 6) sc__answer.nd rfl (Or.inl rfl) (pe_call C_tail_of_flag.ok (hr.mono (by decide)) rfl C_tail_of_flag.at_ C_tail_of_flag.kp C_tail_of_flag.bd .nil pass0 (pa_cons (pv 1) (pa_cons (pv 3) pa_nil))))
      (pss_cons (ps_set (i := 7) sc__answer.nd rfl (Or.inl rfl) (pe_dget (hu_of hr) (pv 1) (pv 6) (fun _ _ => rfl)))
      (pss_cons (ps_set (i := 8) sc__answer.nd rfl (Or.inl rfl) (pe_lst pa_nil))
      (pss_cons (ps_for PassesOwn.never rfl (pi_tupK (K := K) rfl (pe_slice (sl_tupK (K := K) rfl) (pv 2) (po_some (pe_callB (call_lenK (K := K) rfl) (by rfl) T.len PySem.boot_len (pa_cons (pv 3) pa_nil))) po_none)) (pg_name (i := 9) sc__answer.nd rfl (Or.inl rfl)) (pss_cons (ps_set (i := 6) sc__answer.nd rfl (Or.inl rfl) (pe_call C_next_tail.ok (hr.mono (by decide)) rfl C_next_tail.at_ C_next_tail.kp C_next_tail.bd .nil pass0 (pa_cons (pv 1) (pa_cons (pv 6) (pa_cons (pv 9) pa_nil)))))
      (pss_one (ps_if (pt_cmpR op_isN (pv 7) pe_non (nomark _)) (pss_cons (ps_expr (pe_bm PySem.F.plainAttrs_list PySem.F.slot_list_append PySem.F.type_list_append mt_append (pv 8) (pa_cons (pv 9) pa_nil)))
      (pss_one (ps_set (i := 7) sc__answer.nd rfl (Or.inl rfl) (pe_dget (hu_of hr) (pv 1) (pv 6) (fun _ _ => rfl))))) (pss_one (ps_if (pt_cmpR op_eq (pv 9) (pv 7) (nomark _)) (pss_one (ps_set (i := 7) sc__answer.nd rfl (Or.inl rfl) pe_non)) (pss_one (ps_ret pe_str))))))))
      (pss_cons (ps_if (pt_cmpR op_notN (pv 7) pe_non (nomark _)) (pss_one (ps_ret pe_str)) pss_nil)
      (pss_one (ps_ret (pe_call C__payload.ok (hr.mono (by decide)) rfl C__payload.at_ C__payload.kp C__payload.bd .nil pass0 (pa_cons (pv 5) (pa_cons (pe_callTy (call_tupK (K := K) rfl) (by rfl) T.tuple (by decide +kernel) (pa_cons (pv 8) pa_nil)) pa_nil)))))))))))), ?_⟩
  rintro xs y ⟨r, es, text, G, T, hz, rfl, rfl⟩
  have fl := G.flag1
  refine run_seq1 (run_asgT (ev_var rfl) (tg_tup (tgs_cons (tg_name 3) (tgs_cons (tg_name 4) (tgs_cons (tg_name 5) tgs_nil))) rfl) rfl) ?_
  by_cases hs : text.length < r.flag.length
  · have e : ansF r es text = .str "overlap" := if_pos hs
    rw [e]
    exact run_seq (M := fun _ => False) (run_if (b := true) (et_test (ev_is (ev_op (ev_lenW (ev_var rfl)) (ev_lenW (ev_var rfl)) r2_lt) (congrArg Dat.bl (decide_eq_true (by omega))))) (fun _ => run_ret ev_str rfl) fun z => by cases z) fun _ z => z.elim
  · have e : ansF r es text = ansGo es r.chk (flagTail es r.flag) (lkD es (flagTail es r.flag)) [] (text.drop r.flag.length) := if_neg hs
    rw [e]
    refine run_seq1 (run_if (b := false) (et_test (ev_is (ev_op (ev_lenW (ev_var rfl)) (ev_lenW (ev_var rfl)) r2_lt) (congrArg Dat.bl (decide_eq_false (by omega))))) (fun z => by cases z) fun _ => run_next rfl) ?_
    have ft : inT es (flagTail es r.flag) = true := flagTail_in T.tab r.flag [] T.tab.nil
    refine run_seq1 (run_asg (ev_call (ea_cons (ev_var rfl) (ea_cons (ev_var rfl) ea_nil)) ⟨es, r.flag, T.tab, by omega, rfl, rfl⟩) rfl) ?_
    refine run_seq1 (run_asg (ev_dget (ek_ofD (ev_var rfl)) (ev_var rfl) (lkD_at ft)) rfl) ?_
    refine run_seq1 (run_asgN (en_lst ea_nil (Nat.zero_le _)) rfl) ?_
    generalize hB : text.drop r.flag.length = body
    have hBl : body.length ≤ 100000 := by
      rw [← hB, List.length_drop]
      omega
    generalize hR : ansGo es r.chk (flagTail es r.flag) (lkD es (flagTail es r.flag)) [] body = RES
    refine run_seq (M := fun δ => ∃ tail due read s, δ = [.d r.dat, .d (.dic es), .d (w text), .d (w r.flag), .d (.tup (r.ins.map rowD)), .d (.int r.chk), .d (w tail), .d due, .o (read.map .int), s] ∧ Due due ∧ read.length ≤ 100000 ∧ ansGo es r.chk tail due read [] = RES)
      (run_forT (xs := body.map .int) (ev_is (ev_cut (ev_var rfl) (eo_some (ev_lenW (ev_var rfl))) eo_none) (by rw [cutI_from, hB]; rfl))
        (fun i δ => ∃ tail due read s, δ = [.d r.dat, .d (.dic es), .d (w text), .d (w r.flag), .d (.tup (r.ins.map rowD)), .d (.int r.chk), .d (w tail), .d due, .o (read.map .int), s] ∧ Due due ∧ inT es tail = true ∧ tail.length ≤ 1000 + i ∧ read.length ≤ i ∧ ansGo es r.chk tail due read (body.drop i) = RES)
        ⟨_, _, [], .no, rfl, T.due _ _ (lkD_at ft), ft, ?_, Nat.le_refl _, hR⟩ ?_ ?_) ?_
    · have z := tails_len es r.flag []
      have e0 : ([] : List Int).length = 0 := rfl
      show (List.foldl _ [] r.flag).length ≤ _
      omega
    · rintro i x δ hx ⟨tail, due, read, s, rfl, hd, ht, hl, hr', hgo⟩
      rw [List.getElem?_map] at hx
      cases hb : body[i]? with
      | none =>
        rw [hb] at hx
        cases hx
      | some b =>
        rw [hb] at hx
        cases hx
        have hi := (List.getElem?_eq_some_iff.mp hb).1
        have hdrop : body.drop i = b :: body.drop (i + 1) := by
          rw [List.drop_eq_getElem_cons hi]
          congr 1
          exact (List.getElem?_eq_some_iff.mp hb).2
        rw [hdrop] at hgo
        have nl := nextF_len es (tail ++ [b])
        rw [List.length_append, List.length_singleton] at nl
        refine ⟨_, _, tg_name 9, ?_⟩
        refine run_seq1 (run_asg (ev_call (ea_cons (ev_var rfl) (ea_cons (ev_var rfl) (ea_cons (ev_var rfl) ea_nil))) ⟨es, tail, b, T.tab, by omega, rfl, rfl⟩) rfl) ?_
        have hin := nextF_in es T.tab (tail ++ [b])
        rcases hd with rfl | ⟨d, rfl⟩
        · refine run_if (b := true) (et_test (ev_op (ev_var rfl) ev_non r2_isN)) (fun _ => ?_) fun z => by cases z
          refine run_seq1 (run_app (i := 8) rfl (ev_var rfl) ?_ rfl) ?_
          · rw [List.length_map]
            exact big (by omega)
          refine run_asg (ev_dget (ek_ofD (ev_var rfl)) (ev_var rfl) (lkD_at hin)) ⟨_, _, read ++ [b], .d (.int b), ?_, T.due _ _ (lkD_at hin), hin, by omega, by rw [List.length_append, List.length_singleton]; omega, hgo⟩
          rw [List.map_append]
          rfl
        · refine run_if (b := false) (et_test (ev_op (ev_var rfl) ev_non r2_isN)) (fun z => by cases z) fun _ => ?_
          have step : ansGo es r.chk tail (.int d) read (b :: body.drop (i + 1)) = if b = d then ansGo es r.chk (nextF es (tail ++ [b])) .non read (body.drop (i + 1)) else .str "bit" := rfl
          rw [step] at hgo
          refine run_if (b := decide (b = d)) (et_test (ev_op (ev_var rfl) (ev_var rfl) r2_eqI)) (fun hb => ?_) fun hb => ?_
          · rw [if_pos (of_decide_eq_true hb)] at hgo
            exact run_asg ev_non ⟨_, _, read, .d (.int b), rfl, .inl rfl, hin, by omega, by omega, hgo⟩
          · rw [if_neg (of_decide_eq_false hb)] at hgo
            exact run_ret ev_str hgo
    · rintro δ ⟨tail, due, read, s, rfl, hd, _, _, hr', hgo⟩
      rw [List.length_map] at hr' hgo
      rw [List.drop_length] at hgo
      exact ⟨tail, due, read, s, rfl, hd, by omega, hgo⟩
    · rintro δ ⟨tail, due, read, s, rfl, hd, hl, hgo⟩
      rcases hd with rfl | ⟨d, rfl⟩
      · refine run_seq1 (run_if (b := false) (et_test (ev_op (ev_var rfl) ev_non r2_notN)) (fun z => by cases z) fun _ => run_next rfl) ?_
        exact run_ret (ev_call (ea_cons (ev_var rfl) (ea_cons (ev_tupL (er_var rfl)) ea_nil)) ⟨r.chk, read, G.chk0, G.chk1, rfl, rfl⟩) hgo
      · exact run_seq (M := fun _ => False) (run_if (b := true) (et_test (ev_op (ev_var rfl) ev_non r2_notN)) (fun _ => run_ret ev_str hgo) fun z => by cases z) fun _ z => z.elim
def looseF (flag ns : List Int) : List Int := match bordersF flag ns with
  | [] => [(ns.length : Int), 0]
  | a :: as => [(a : Int), (ns.length : Int) - (((a :: as).getLast (List.cons_ne_nil _ _) : Nat) : Int) - (flag.length : Int)]
def R_loose (xs : List Dat) (y : Dat) : Prop := ∃ r ns, Good r ∧ Wd ns ∧ xs = [r.dat, w ns] ∧ y = w (looseF r.flag ns)
theorem len_loose {xs : List Dat} {y : Dat} (h : R_loose xs y) : xs.length = 2 := by
  obtain ⟨_, _, _, _, rfl, _⟩ := h
  rfl
theorem atI_lastD {xs : List Dat} (h : xs ≠ []) : atI xs (-1) = some (xs.getLast h) := by
  have e : xs = xs.dropLast ++ [xs.getLast h] := (List.dropLast_concat_getLast h).symm
  have := atI_last xs.dropLast (xs.getLast h)
  rw [← e] at this
  exact this
theorem ok_loose {f : Addr} {fd : FuncData} (F : Fun K "loose" "loose" s_loose f fd) {f_borders : Addr} {d_borders : FuncData} (C_borders : Cal P w0 K mg base "borders" ["rule", "bits"] 9 R_borders f_borders d_borders) (T : Bs mg) : FnOk P w0 K mg base CX0 10 f fd ["rule", "bits"] (Pr R_loose) := by
  refine fn_pr F sc_loose (fun xs y h => len_loose h) fun cdv A outer s H E hr => ⟨_, (pss_cons (ps_set (i := 2) sc_loose.nd rfl (Or.inl rfl) (pe_call C_borders.ok (hr.mono (by decide)) rfl C_borders.at_ C_borders.kp C_borders.bd .nil pass0 (pa_cons (pv 0) (pa_cons (pv 1) pa_nil))))
      (pss_cons (ps_if (pt_not (pt_truth (pv 2) (by intro _; rfl))) (pss_one (ps_ret (pe_tup (pa_cons (pe_callB (call_lenK (K := K) rfl) (by rfl) T.len PySem.boot_len (pa_cons (pv 1) pa_nil)) (pa_cons pe_int pa_nil))))) pss_nil)
      (pss_one (ps_ret (pe_tup (pa_cons (pe_ix (ix_listK (K := K) rfl) (pv 2) pe_int (fun _ _ => rfl)) (pa_cons (pe_op op_sub (pe_op op_sub (pe_callB (call_lenK (K := K) rfl) (by rfl) T.len PySem.boot_len (pa_cons (pv 1) pa_nil)) (pe_ix (ix_listK (K := K) rfl) (pv 2) (pe_un un_neg pe_int) (fun _ _ => rfl))) (pe_callB (call_lenK (K := K) rfl) (by rfl) T.len PySem.boot_len (pa_cons (pe_ix (ix_tupK (K := K) rfl) (pv 0) pe_int (fun _ _ => rfl)) pa_nil))) pa_nil))))))), ?_⟩
  rintro xs y ⟨r, ns, G, W, rfl, rfl⟩
  refine run_seq1 (run_asg (ev_call (ea_cons (ev_var rfl) (ea_cons (ev_var rfl) ea_nil)) ⟨r, ns, G, W, rfl, rfl⟩) rfl) ?_
  cases hb : bordersF r.flag ns with
  | nil =>
    refine run_seq (M := fun _ => False) (run_if (b := true) (et_not (a := false) (et_is (et_truL (er_ofD (ev_var rfl))) rfl)) (fun _ => run_ret (ev_is (ev_tup (ea_cons (ev_lenW (ev_var rfl)) (ea_cons ev_int ea_nil)) (by show 2 ≤ sizeLine; decide)) ?_) rfl) fun z => by cases z) fun _ z => z.elim
    unfold looseF
    rw [hb]
    rfl
  | cons a as =>
    refine run_seq1 (run_if (b := false) (et_not (a := true) (et_is (et_truL (er_ofD (ev_var rfl))) rfl)) (fun z => by cases z) fun _ => run_next rfl) ?_
    have last : ((a :: as).map fun a => Dat.int ((a : Nat) : Int)).getLast (List.cons_ne_nil _ _) = .int (((a :: as).getLast (List.cons_ne_nil _ _) : Nat) : Int) := List.getLast_map ..
    refine run_ret (ev_is (ev_tup (ea_cons (ev_ixL (er_ofD (ev_var rfl)) ev_int (z := .int (a : Nat)) (atI_nat (j := 0) rfl)) (ea_cons (ev_op (ev_op (ev_lenW (ev_var rfl)) (ev_is (ev_ixL (er_ofD (ev_var rfl)) (ev_neg ev_int) (atI_lastD (List.cons_ne_nil _ _))) last) r2_sub) (ev_lenW (ev_op (ev_var rfl) ev_int (r2_ixT (z := w r.flag) rfl))) r2_sub) ea_nil)) (by show 2 ≤ sizeLine; decide)) ?_) rfl
    unfold looseF
    rw [hb]
    rfl
theorem mem_putE {es : List (List L2.Key × Dat)} {k : List L2.Key} {x : Dat} {e : List L2.Key × Dat} (h : e ∈ putE es k x) : e ∈ es ∨ e.2 = x := by
  unfold putE at h
  split at h
  · obtain ⟨e0, h0, rfl⟩ := List.mem_map.mp h
    split
    · exact .inr rfl
    · exact .inl h0
  · rcases List.mem_append.mp h with h | h
    · exact .inl h
    · rw [List.mem_singleton.mp h]
      exact .inr rfl
theorem has_putE {es : List (List L2.Key × Dat)} {k k0 : List L2.Key} {x : Dat} (h : (lk es k0).isSome = true) : (lk (putE es k x) k0).isSome = true := by
  unfold lk at h ⊢
  rw [Option.isSome_map] at h ⊢
  rw [List.find?_isSome] at h ⊢
  obtain ⟨e, he, hk⟩ := h
  unfold putE
  split
  · refine ⟨if e.1 = k then (e.1, x) else e, List.mem_map.mpr ⟨e, he, rfl⟩, ?_⟩
    split <;> exact hk
  · exact ⟨e, List.mem_append_left _ he, hk⟩
theorem putAll_vals {α : Type} {kf : α → List Int} {vf : α → Dat} {P : Dat → Prop} : ∀ (l : List α) (es : List (List L2.Key × Dat)), (∀ a ∈ l, P (vf a)) → (∀ e ∈ es, P e.2) → ∀ e ∈ l.foldl (fun es a => putE es (kw (kf a)) (vf a)) es, P e.2
  | [], _, _, h => h
  | a :: l, es, hv, h => putAll_vals l _ (fun b hb => hv b (List.mem_cons_of_mem _ hb)) fun e he => by
    rcases mem_putE he with he | he
    · exact h e he
    · rw [he]
      exact hv a List.mem_cons_self
theorem putAll_has {α : Type} {kf : α → List Int} {vf : α → Dat} {k0 : List L2.Key} : ∀ (l : List α) (es : List (List L2.Key × Dat)), (lk es k0).isSome = true → (lk (l.foldl (fun es a => putE es (kw (kf a)) (vf a)) es) k0).isSome = true
  | [], _, h => h
  | _ :: l, _, h => putAll_has l _ (has_putE h)
theorem lk_val {es : List (List L2.Key × Dat)} {P : Dat → Prop} (h : ∀ e ∈ es, P e.2) {k : List L2.Key} {x : Dat} (hx : lk es k = some x) : P x := by
  unfold lk at hx
  cases q : es.find? fun p => decide (p.1 = k) with
  | none =>
    rw [q] at hx
    cases hx
  | some e =>
    rw [q] at hx
    cases hx
    exact h e (List.mem_of_find?_eq_some q)
theorem tableE_due (ins : List (List Int × Int)) : TabV (tableE ins) := by
  have bitsDue : ∀ k x, lk (bitsE ins) k = some x → Due x := fun k x hx => lk_val (P := Due) (putAll_vals ins [] (fun p _ => .inr ⟨_, rfl⟩) fun e he => nomatch he) hx
  have dueDue : ∀ t, Due (dueF (bitsE ins) t) := by
    intro t
    induction t with
    | nil => exact .inl rfl
    | cons n ns ih =>
      show Due (match lk (bitsE ins) (kw (n :: ns)) with | some x => x | none => dueF (bitsE ins) ns)
      cases q : lk (bitsE ins) (kw (n :: ns)) with
      | none => exact ih
      | some x => exact bitsDue _ x q
  exact ⟨⟨putAll_has (starts (ksOf (bitsE ins))) (putE [] (kw []) (dueF (bitsE ins) [])) rfl⟩, fun k x hx => lk_val (P := Due) (putAll_vals ([] :: starts (ksOf (bitsE ins))) [] (fun t _ => dueDue t) fun e he => nomatch he) hx⟩
def answersF (r : Rule) (ns : List Int) : List Dat := ((bordersF r.flag ns).zip ((bordersF r.flag ns).drop 1)).map fun p => ansF r (tableE r.ins) ((ns.take p.2).drop p.1)
def R_answers (xs : List Dat) (y : Dat) : Prop := ∃ r ns, Good r ∧ Wd ns ∧ xs = [r.dat, w ns] ∧ y = .lst (answersF r ns)
theorem len_answers {xs : List Dat} {y : Dat} (h : R_answers xs y) : xs.length = 2 := by
  obtain ⟨_, _, _, _, rfl, _⟩ := h
  rfl
theorem borders_len (flag ns : List Int) (hf : 0 < flag.length) : (bordersF flag ns).length ≤ ns.length := by
  unfold bordersF
  have := List.length_filter_le (fun a => decide ((ns.take (a + flag.length)).drop a = flag)) (List.range ((ns.length : Int) - (flag.length : Int) + 1).toNat)
  rw [List.length_range] at this
  omega
theorem ok_answers {f : Addr} {fd : FuncData} (F : Fun K "answers" "answers" s_answers f fd) {f_borders : Addr} {d_borders : FuncData} (C_borders : Cal P w0 K mg base "borders" ["rule", "bits"] 9 R_borders f_borders d_borders) {f_put_table : Addr} {d_put_table : FuncData} (C_put_table : Cal P w0 K mg base "put_table" ["inserts"] 2 R_put_table f_put_table d_put_table) {f__answer : Addr} {d__answer : FuncData} (C__answer : Cal P w0 K mg base "_answer" ["rule", "table", "text"] 3 R__answer f__answer d__answer) (T : Bs mg) : FnOk P w0 K mg base CX0 10 f fd ["rule", "bits"] (Pr R_answers) := by
  refine fn_pr F sc_answers (fun xs y h => len_answers h) fun cdv A outer s H E hr => ⟨_, (pss_cons (ps_set (i := 2) sc_answers.nd rfl (Or.inl rfl) (pe_call C_borders.ok (hr.mono (by decide)) rfl C_borders.at_ C_borders.kp C_borders.bd .nil pass0 (pa_cons (pv 0) (pa_cons (pv 1) pa_nil))))
      (pss_cons (ps_set (i := 3) sc_answers.nd rfl (Or.inr rfl) (pe_call C_put_table.ok (hr.mono (by decide)) rfl C_put_table.at_ C_put_table.kp C_put_table.bd .nil pass0 (pa_cons (pe_ix (ix_tupK (K := K) rfl) (pv 0) pe_int (fun _ _ => rfl)) pa_nil)))
      (pss_one (ps_ret (pe_lc (own := [("start", 4), ("end", 5)]) rfl sc_answers.nd (pi_zip (by rfl) T.zip (pa_cons (pv 2) (pa_cons (pe_slice (sl_listK (K := K) rfl) (pv 2) (po_some pe_int) po_none) pa_nil))) (blkOk_by (own := [("start", 4), ("end", 5)]) (N := N_answers) (sc := defScope s_answers) (by decide +kernel)) (fun _ _ _ _ _ => by exact (pg_tupK (K := K) 2 rfl rfl (pgs_cons (pg_name (i := 4) sc_answers.nd rfl (Or.inl rfl)) (pgs_cons (pg_name (i := 5) sc_answers.nd rfl (Or.inl rfl)) pgs_nil)))) (fun _ _ _ _ _ => pts_nil) (fun _ _ _ _ _ => (pe_call C__answer.ok (hr.mono (by decide)) rfl C__answer.at_ C__answer.kp C__answer.bd .nil pass0 (pa_cons (pv 0) (pa_cons (pv 3) (pa_cons (pe_slice (sl_tupK (K := K) rfl) (pv 1) (po_some (pv 4)) (po_some (pv 5))) pa_nil)))))))))), ?_⟩
  rintro xs y ⟨r, ns, G, W, rfl, rfl⟩
  refine run_seq1 (run_asg (ev_call (ea_cons (ev_var rfl) (ea_cons (ev_var rfl) ea_nil)) ⟨r, ns, G, W, rfl, rfl⟩) rfl) ?_
  refine run_seq1 (run_asg (ev_call (ea_cons (ev_op (ev_var rfl) ev_int (r2_ixT (z := .tup (r.ins.map rowD)) rfl)) ea_nil) ⟨r, G, rfl, rfl⟩) rfl) ?_
  have hl := borders_len r.flag ns G.flag0
  refine run_ret (ev_ofN (en_is (en_lcZip (js := [4, 5]) (l := bordersF r.flag ns) (m := (bordersF r.flag ns).drop 1) (enc := fun a => .int (a : Nat)) (enc2 := fun a => .int (a : Nat)) (f := fun _ => true) (v := fun p => ansF r (tableE r.ins) ((ns.take p.2).drop p.1)) (er_ofD (ev_var rfl))
    (er_is (er_ofN (en_slL (er_ofD (ev_var rfl)) (eo_some ev_int) eo_none)) ?_) (by decide) (big (by have := W.short; omega)) fun p hp => ⟨_, tg_tup (tgs_cons (tg_name 4) (tgs_cons (tg_name 5) tgs_nil)) rfl, et_yes, fun _ => ev_call (ea_cons (ev_var rfl) (ea_cons (ev_var rfl) (ea_cons (ev_cut (ev_var rfl) (eo_some (ev_var rfl)) (eo_some (ev_var rfl))) ea_nil))) ⟨r, tableE r.ins, (ns.take p.2).drop p.1, G, tableE_due r.ins, ?_, ?_, rfl⟩⟩) ?_)) rfl
  · rw [show (1 : Int) = ((1 : Nat) : Int) from rfl, cutA_from, List.map_drop]
  · rw [List.length_drop, List.length_take]
    have := W.short
    omega
  · rw [cutI_both]
  · rw [filter_yes]
    rfl
def streamF (r : Rule) (ns : List Int) : Bool := (!(bordersF r.flag ns).isEmpty) && (decide (looseF r.flag ns = [0, 0]) && (answersF r ns).all isWord)
def R_is_stream (xs : List Dat) (y : Dat) : Prop := ∃ r ns, Good r ∧ Wd ns ∧ xs = [r.dat, w ns] ∧ y = .bl (streamF r ns)
theorem len_is_stream {xs : List Dat} {y : Dat} (h : R_is_stream xs y) : xs.length = 2 := by
  obtain ⟨_, _, _, _, rfl, _⟩ := h
  rfl
theorem payF_sz (c : Int) (read : List Int) (h : read.length ≤ 1000000) : Sz (payF c read) := by
  unfold payF
  split
  · trivial
  · split
    · exact sz_w (by rw [List.length_take]; omega)
    · trivial
theorem ansGo_sz (es : List (List L2.Key × Dat)) (c : Int) : ∀ (bs tail : List Int) (due : Dat) (read : List Int), read.length + bs.length ≤ 1000000 → Sz (ansGo es c tail due read bs)
  | [], _, due, read, h => by
    cases due <;> first | exact payF_sz c read (by simpa using h) | trivial
  | b :: bs, tail, due, read, h => by
    rw [List.length_cons] at h
    cases due with
    | non => exact ansGo_sz es c bs _ _ _ (by rw [List.length_append, List.length_singleton]; omega)
    | int d =>
      show Sz (if b = d then _ else _)
      split
      · exact ansGo_sz es c bs _ _ _ (by omega)
      · trivial
    | _ => trivial
theorem ansF_sz (r : Rule) (es : List (List L2.Key × Dat)) (text : List Int) (h : text.length ≤ 100000) : Sz (ansF r es text) := by
  unfold ansF
  split
  · trivial
  · exact ansGo_sz _ _ _ _ _ _ (by rw [List.length_drop]; show 0 + _ ≤ _; omega)
theorem answersF_sz (r : Rule) (ns : List Int) (h : ns.length ≤ 100000) : ∀ d ∈ answersF r ns, Sz d := by
  intro d hd
  obtain ⟨p, _, rfl⟩ := List.mem_map.mp hd
  exact ansF_sz r _ _ (by rw [List.length_drop, List.length_take]; omega)
theorem answers_len (r : Rule) (ns : List Int) (G : Good r) : (answersF r ns).length ≤ ns.length := by
  unfold answersF
  rw [List.length_map, List.length_zip]
  have := borders_len r.flag ns G.flag0
  omega
theorem ok_is_stream {f : Addr} {fd : FuncData} (F : Fun K "is_stream" "is_stream" s_is_stream f fd) {f_borders : Addr} {d_borders : FuncData} (C_borders : Cal P w0 K mg base "borders" ["rule", "bits"] 9 R_borders f_borders d_borders) {f_loose : Addr} {d_loose : FuncData} (C_loose : Cal P w0 K mg base "loose" ["rule", "bits"] 10 R_loose f_loose d_loose) {f_is_word : Addr} {d_is_word : FuncData} (C_is_word : Cal P w0 K mg base "is_word" ["value"] 3 R_is_word f_is_word d_is_word) {f_answers : Addr} {d_answers : FuncData} (C_answers : Cal P w0 K mg base "answers" ["rule", "bits"] 10 R_answers f_answers d_answers) (T : Bs mg) : FnOk P w0 K mg base CX0 11 f fd ["rule", "bits"] (Pr R_is_stream) := by
  refine fn_pr F sc_is_stream (fun xs y h => len_is_stream h) fun cdv A outer s H E hr => ⟨_, (pss_cons (ps_if (PW.pt (pw_or (pt_not (pt_truth (pe_call C_borders.ok (hr.mono (by decide)) rfl C_borders.at_ C_borders.kp C_borders.bd .nil pass0 (pa_cons (pv 0) (pa_cons (pv 1) pa_nil))) (by intro _; rfl))) (pw_or1 (pt_cmpR (op_neK (K := K) rfl hr.units) (pe_call C_loose.ok (hr.mono (by decide)) rfl C_loose.at_ C_loose.kp C_loose.bd .nil pass0 (pa_cons (pv 0) (pa_cons (pv 1) pa_nil))) (pe_tup (pa_cons pe_int (pa_cons pe_int pa_nil))) (nomark _))))) (pss_one (ps_ret pe_bl)) pss_nil)
      (pss_one (ps_ret (pe_callB (cr_allK (K := K) rfl rfl) (by rfl) T.all (by decide +kernel) (pa_cons (pe_lc (own := [("answer", 2)]) rfl sc_is_stream.nd (pi_listK (K := K) rfl (pe_call C_answers.ok (hr.mono (by decide)) rfl C_answers.at_ C_answers.kp C_answers.bd .nil pass0 (pa_cons (pv 0) (pa_cons (pv 1) pa_nil)))) (blkOk_by (own := [("answer", 2)]) (N := N_is_stream) (sc := defScope s_is_stream) (by decide +kernel)) (fun _ _ _ _ _ => (pg_name (i := 2) sc_is_stream.nd rfl (Or.inl rfl))) (fun _ _ _ _ _ => pts_nil) (fun _ _ _ _ _ => (pe_call C_is_word.ok (hr.mono (by decide)) rfl C_is_word.at_ C_is_word.kp C_is_word.bd .nil pass0 (pa_cons (pv 2) pa_nil)))) pa_nil))))), ?_⟩
  rintro xs y ⟨r, ns, G, W, rfl, rfl⟩
  have hb : ∀ b : Bool, b = ((bordersF r.flag ns).map fun a => Dat.int ((a : Nat) : Int)).isEmpty → b = (bordersF r.flag ns).isEmpty := fun b hb => by
    rw [hb]
    cases bordersF r.flag ns <;> rfl
  have e1 : ((bordersF r.flag ns).map fun a => Dat.int ((a : Nat) : Int)).isEmpty = (bordersF r.flag ns).isEmpty := hb _ rfl
  refine run_seq (M := fun δ => δ = [.d r.dat, .d (w ns), .no] ∧ (!(bordersF r.flag ns).isEmpty) = true ∧ decide (looseF r.flag ns = [0, 0]) = true) (run_if (b := ((bordersF r.flag ns).isEmpty || !decide (looseF r.flag ns = [0, 0])))
    (et_or (et_is (et_not (et_truL (er_ofD (ev_call (ea_cons (ev_var rfl) (ea_cons (ev_var rfl) ea_nil)) ⟨r, ns, G, W, rfl, rfl⟩)))) (by rw [Bool.not_not, e1])) fun _ => et_test (ev_op (ev_call (ea_cons (ev_var rfl) (ea_cons (ev_var rfl) ea_nil)) ⟨r, ns, G, W, rfl, rfl⟩) (ev_tup (ea_cons ev_int (ea_cons ev_int ea_nil)) (by decide)) (r2_neW (ms := [0, 0]))))
    (fun hb => run_ret ev_bl ?_) fun hb => run_next ⟨rfl, ?_, ?_⟩) ?_
  · unfold streamF
    cases q1 : (bordersF r.flag ns).isEmpty with
    | true => rfl
    | false =>
      rw [q1] at hb
      cases q2 : decide (looseF r.flag ns = [0, 0]) with
      | false => rfl
      | true =>
        rw [q2] at hb
        cases hb
  · cases q1 : (bordersF r.flag ns).isEmpty with
    | false => rfl
    | true =>
      rw [q1] at hb
      cases hb
  · cases q2 : decide (looseF r.flag ns = [0, 0]) with
    | true => rfl
    | false =>
      rw [q2] at hb
      rw [show (!false) = true from rfl, Bool.or_true] at hb
      cases hb
  · rintro δ ⟨rfl, h1, h2⟩
    refine run_ret (ev_is (ev_all (bs := (answersF r ns).map isWord) (er_is (er_ofN (en_lcL (js := [2]) (l := answersF r ns) (enc := id) (f := fun _ => true) (v := fun d => .bl (isWord d)) (er_is (er_ofD (ev_call (ea_cons (ev_var rfl) (ea_cons (ev_var rfl) ea_nil)) ⟨r, ns, G, W, rfl, rfl⟩)) (List.map_id _).symm) (by decide) (big (by have := answers_len r ns G; have := W.short; omega)) fun d hd => ⟨_, tg_name 2, et_yes, fun _ => ev_call (ea_cons (ev_var rfl) ea_nil) ⟨d, rfl, answersF_sz r ns W.short d hd, rfl⟩⟩)) ?_)) ?_) rfl
    · rw [filter_yes, List.map_map]
      rfl
    · unfold streamF
      rw [h1, h2, List.all_map]
      rfl
end
end Fr

set_option Elab.async false
set_option linter.all false
set_option maxRecDepth 100000
set_option maxHeartbeats 4000000
namespace Fr
open PySem PySem.Spec PyProof.Rows L2
open Evl (Ex)
abbrev s__law_haul : Stmt := topS 29
abbrev N__law_haul : List Str := ["crate", "below", "digit", "churn"]
theorem sc__law_haul : FnScope N__law_haul ["crate", "below"] (defScope s__law_haul) := ⟨rfl, rfl, rfl, by decide +kernel, rfl, by decide +kernel, by decide +kernel⟩
abbrev s__law_bits : Stmt := topS 30
abbrev N__law_bits : List Str := ["crate", "size", "way", "same", "found", "k", "steady"]
theorem sc__law_bits : FnScope N__law_bits ["crate", "size"] (defScope s__law_bits) := ⟨rfl, rfl, rfl, by decide +kernel, rfl, by decide +kernel, by decide +kernel⟩
abbrev s__law_put : Stmt := topS 40
abbrev N__law_put : List Str := ["rows", "line", "found", "size", "word", "bit"]
theorem sc__law_put : FnScope N__law_put ["rows", "line"] (defScope s__law_put) := ⟨rfl, rfl, rfl, by decide +kernel, rfl, by decide +kernel, by decide +kernel⟩
abbrev s__law_sum_bits : Stmt := topS 32
abbrev N__law_sum_bits : List Str := ["rule_here", "payload_here", "size", "many", "found", "rest", "bit", "k"]
theorem sc__law_sum_bits : FnScope N__law_sum_bits ["rule_here", "payload_here"] (defScope s__law_sum_bits) := ⟨rfl, rfl, rfl, by decide +kernel, rfl, by decide +kernel, by decide +kernel⟩
abbrev s__law_frame : Stmt := topS 33
abbrev N__law_frame : List Str := ["rule_here", "payload_here", "flag", "rows", "top", "line", "put", "bit"]
theorem sc__law_frame : FnScope N__law_frame ["rule_here", "payload_here"] (defScope s__law_frame) := ⟨rfl, rfl, rfl, by decide +kernel, rfl, by decide +kernel, by decide +kernel⟩
abbrev s__law_stream : Stmt := topS 34
abbrev N__law_stream : List Str := ["rule_here", "many", "line", "payload_here"]
theorem sc__law_stream : FnScope N__law_stream ["rule_here", "many"] (defScope s__law_stream) := ⟨rfl, rfl, rfl, by decide +kernel, rfl, by decide +kernel, by decide +kernel⟩
abbrev s__law_spoilt : Stmt := topS 35
abbrev N__law_spoilt : List Str := ["line", "change_here", "k"]
theorem sc__law_spoilt : FnScope N__law_spoilt ["line", "change_here"] (defScope s__law_spoilt) := ⟨rfl, rfl, rfl, by decide +kernel, rfl, by decide +kernel, by decide +kernel⟩
abbrev s__law_list : Stmt := topS 36
abbrev N__law_list : List Str := ["crate", "many_here", "size", "k"]
theorem sc__law_list : FnScope N__law_list ["crate", "many_here", "size"] (defScope s__law_list) := ⟨rfl, rfl, rfl, by decide +kernel, rfl, by decide +kernel, by decide +kernel⟩
abbrev s__law_change : Stmt := topS 37
abbrev N__law_change : List Str := ["crate", "line", "way"]
theorem sc__law_change : FnScope N__law_change ["crate", "line"] (defScope s__law_change) := ⟨rfl, rfl, rfl, by decide +kernel, rfl, by decide +kernel, by decide +kernel⟩
abbrev s__law_line : Stmt := topS 38
abbrev N__law_line : List Str := ["crate", "rule_here", "most", "way", "line", "turn"]
theorem sc__law_line : FnScope N__law_line ["crate", "rule_here", "most"] (defScope s__law_line) := ⟨rfl, rfl, rfl, by decide +kernel, rfl, by decide +kernel, by decide +kernel⟩
section
variable {P : Program} {w0 : World} {K : PySem.W.Frag} {mg : Str → Option Value} {base : Heap}
def Pre__law_haul (ds xs : List Dat) : Prop := ∃ (n : Nat) (m : Int), CrOk ds n ∧ n < 2 ^ 60 ∧ xs = [.int m] ∧ 0 < m ∧ m < 1000000
def Rf__law_haul (ds xs : List Dat) (x : Dat) (ds' : List Dat) : Prop := ∃ m d : Int, xs = [.int m] ∧ x = .int d ∧ 0 ≤ d ∧ d < m ∧ ∀ n, CrOk ds n → CrOk ds' (n + 1)
theorem len__law_haul {ds xs : List Dat} (h : Pre__law_haul ds xs) : xs.length + 1 = 2 := by
  obtain ⟨_, _, _, _, rfl, _⟩ := h
  rfl
theorem ok__law_haul {f : Addr} {fd : FuncData} (F : Fun K "_law_haul" "_law_haul" s__law_haul f fd) (T : Bs mg) : FnOk P w0 K mg base CX0 1 f fd ["crate", "below"] (PrC Rf__law_haul Pre__law_haul) := by
  refine fn_prC F sc__law_haul (fun ds xs h => len__law_haul h) fun cdv A outer s H E hr => ⟨_, (pss_cons (ps_if (pt_cmpR op_gt (pe_ix (ix_listK (K := K) rfl) (pv 0) pe_int (fun _ _ => rfl)) pe_int (nomark _)) (pss_cons (ps_set (i := 2) sc__law_haul.nd rfl (Or.inl rfl) (pe_op op_modN (pe_callTy call_int1 (by rfl) T.int (by decide +kernel) (pa_cons (pe_ix (ix_listK (K := K) rfl) (pv 0) pe_int (fun _ _ => rfl)) pa_nil)) (pv 1)))
      (pss_cons (ps_asg (pe_op op_fdivN (pe_ix (ix_listK (K := K) rfl) (pv 0) pe_int (fun _ _ => rfl)) (pv 1)) (pg_sub (pv 0) pe_int set_list))
      (pss_one (ps_ret (pv 2))))) pss_nil)
      (pss_cons (ps_asg (pe_op op_add (pe_ix (ix_listK (K := K) rfl) (pv 0) pe_int (fun _ _ => rfl)) pe_int) (pg_sub (pv 0) pe_int set_list))
      (pss_cons (ps_set (i := 3) sc__law_haul.nd rfl (Or.inl rfl) (pe_op op_modN (pe_op op_powW (pe_callTy call_int1 (by rfl) T.int (by decide +kernel) (pa_cons (pe_op op_add (pe_ix (ix_listK (K := K) rfl) (pv 0) pe_int (fun _ _ => rfl)) (pe_op op_mul pe_int (pe_ix (ix_listK (K := K) rfl) (pv 0) pe_int (fun _ _ => rfl)))) pa_nil)) pe_int) (pe_op op_add (pe_op op_pow pe_int pe_int) pe_int)))
      (pss_cons (ps_set (i := 3) sc__law_haul.nd rfl (Or.inl rfl) (pe_op op_modN (pe_op op_powW (pe_callTy call_int1 (by rfl) T.int (by decide +kernel) (pa_cons (pe_op op_add (pv 3) (pe_op op_mul pe_int (pe_ix (ix_listK (K := K) rfl) (pv 0) pe_int (fun _ _ => rfl)))) pa_nil)) pe_int) (pe_op op_add (pe_op op_pow pe_int pe_int) pe_int)))
      (pss_one (ps_ret (pe_op op_modN (pe_op op_fdivN (pv 3) pe_int) (pv 1)))))))), ?_⟩
  rintro c ds xs ⟨n, m, ⟨a, b, k, rfl, a0, b0, b1, k0, k1⟩, hn, rfl, hm, hm1⟩
  have cr : ∀ {a b k : Int}, EvR (tVar 0) (Slot.b c [.int a, .int b, .int k] :: entry (N__law_haul.drop 1) [.int m]) [.int a, .int b, .int k] := er_varB rfl
  have e0 : ∀ {a b k : Int} {s t : Slot}, EvD (tOp (rIxL K) (tVar 0) (tC (V.int 0))) [Slot.b c [.int a, .int b, .int k], .d (.int m), s, t] (.int a) := ev_ixL (er_varB rfl) ev_int rfl
  have e1 : ∀ {a b k : Int} {s t : Slot}, EvD (tOp (rIxL K) (tVar 0) (tC (V.int 1))) [Slot.b c [.int a, .int b, .int k], .d (.int m), s, t] (.int b) := ev_ixL (er_varB rfl) ev_int rfl
  have e2 : ∀ {a b k : Int} {s t : Slot}, EvD (tOp (rIxL K) (tVar 0) (tC (V.int 2))) [Slot.b c [.int a, .int b, .int k], .d (.int m), s, t] (.int k) := ev_ixL (er_varB rfl) ev_int rfl
  by_cases h : 0 < a
  · refine run_seq (M := fun _ => False) (run_if (b := true) (et_test (ev_is (ev_op e0 ev_int r2_gt) (congrArg Dat.bl (decide_eq_true h)))) (fun _ => ?_) fun z => by cases z) fun _ z => z.elim
    have f0 := fmod_in (x := a) hm
    refine run_seq1 (run_asg (ev_op (ev_int1 e0) (ev_var rfl) (r2_modN (by omega))) rfl) ?_
    refine run_seq1 (run_setB (j := 0) rfl (ev_op e0 (ev_var rfl) (r2_fdivN ⟨by omega, by omega⟩)) (Nat.zero_lt_succ _) rfl) ?_
    refine run_ret (ev_var rfl) ⟨_, rfl, m, _, rfl, rfl, f0.1, f0.2, fun n' h' => ?_⟩
    obtain ⟨a', b', k', e, _, g2, g3, g4, g5⟩ := h'
    cases e
    exact ⟨_, _, _, rfl, Int.fdiv_nonneg a0 (by omega), b0, b1, k0, by omega⟩
  · refine run_seq1 (run_if (b := false) (et_test (ev_is (ev_op e0 ev_int r2_gt) (congrArg Dat.bl (decide_eq_false h)))) (fun z => by cases z) fun _ => run_next rfl) ?_
    have hk : (n : Int) < 2 ^ 60 := by exact_mod_cast hn
    refine run_seq1 (run_setB (j := 2) rfl (ev_op e2 ev_int r2_add) (Nat.lt_succ_self _) rfl) ?_
    refine run_seq1 (run_asg (ev_op (ev_op (ev_int1 (ev_op e1 (ev_op ev_int e2 (r2_mul (.inl (by omega)))) r2_add)) ev_int (r2_powW ?_)) (ev_op (ev_op ev_int ev_int (r2_pow ?_)) ev_int r2_add) (r2_modN ?_)) rfl) ?_
    · refine ⟨by omega, ?_⟩
      have := bits_of (x := b + 50021 * (k + 1)) (k := 141) (by omega) (by omega)
      omega
    · exact ⟨by omega, by omega, by decide⟩
    · decide
    generalize hc : Int.fmod _ _ = ch
    have c0 : 0 ≤ ch ∧ ch < 10 ^ 39 + 3 := by
      rw [← hc]
      exact fmod_in (by decide)
    refine run_seq1 (run_asg (ev_op (ev_op (ev_int1 (ev_op (ev_var rfl) (ev_op ev_int e2 (r2_mul (.inl (by omega)))) r2_add)) ev_int (r2_powW ?_)) (ev_op (ev_op ev_int ev_int (r2_pow ?_)) ev_int r2_add) (r2_modN ?_)) rfl) ?_
    · refine ⟨by omega, ?_⟩
      have := bits_of (x := ch + 1100009 * (k + 1)) (k := 131) (by omega) (by omega)
      omega
    · exact ⟨by omega, by omega, by decide⟩
    · decide
    have f0 := fun x : Int => fmod_in (x := x) hm
    refine run_ret (ev_op (ev_op (ev_var rfl) ev_int (r2_fdivN ⟨by omega, by omega⟩)) (ev_var rfl) (r2_modN (by omega))) ⟨_, rfl, m, _, rfl, rfl, (f0 _).1, (f0 _).2, fun n' h' => ?_⟩
    obtain ⟨a', b', k', e, _, g2, g3, g4, g5⟩ := h'
    cases e
    exact ⟨_, _, _, rfl, a0, b0, b1, by omega, by omega⟩
theorem ex_haul {γ : Gam} {i : Nat} {ds : List Dat} {n : Nat} {m : Int} {te : TE} {S : Dat → Gam → Prop} {E : XK} (hl : Lends γ i ds) (hm : EvD te γ (.int m)) (hc : CrOk ds n) (hn : n < 2 ^ 60) (h0 : 0 < m) (h1 : m < 1000000)
    (hS : ∀ (d : Int) (ds' : List Dat), 0 ≤ d → d < m → CrOk ds' (n + 1) → S (.int d) (relend γ i ds')) : EvX (tCall (PrC Rf__law_haul Pre__law_haul) [] E (tCons (tVar i) (tCons te tNil))) γ S :=
  ex_lend hl (exa_of (ea_cons hm ea_nil) ⟨ds, hl, ⟨n, m, hc, hn, rfl, h0, h1⟩, fun x ds' hR => by
    obtain ⟨m', d, e, rfl, d0, d1, hk⟩ := hR
    cases e
    exact hS d ds' d0 d1 (hk n hc)⟩)
def Pre__law_bits (ds xs : List Dat) : Prop := ∃ (n : Nat) (m : Int), CrOk ds n ∧ n < 2 ^ 59 ∧ xs = [.int m] ∧ 0 ≤ m ∧ m ≤ 401
def Rf__law_bits (ds xs : List Dat) (x : Dat) (ds' : List Dat) : Prop := ∃ (m : Int) (ns : List Int), xs = [.int m] ∧ x = w ns ∧ (ns.length : Int) = m ∧ Bits ns ∧ ∀ n, CrOk ds n → CrOk ds' (n + 1000)
theorem len__law_bits {ds xs : List Dat} (h : Pre__law_bits ds xs) : xs.length + 1 = 2 := by
  obtain ⟨_, _, _, _, rfl, _⟩ := h
  rfl
theorem ok__law_bits {f : Addr} {fd : FuncData} (F : Fun K "_law_bits" "_law_bits" s__law_bits f fd) {f__law_haul : Addr} {d__law_haul : FuncData} (C__law_haul : CalS P w0 K mg base "_law_haul" ["crate", "below"] 1 (PrC Rf__law_haul Pre__law_haul) f__law_haul d__law_haul) (T : Bs mg) : FnOk P w0 K mg base CX0 2 f fd ["crate", "size"] (PrC Rf__law_bits Pre__law_bits) := by
  refine fn_prC F sc__law_bits (fun ds xs h => len__law_bits h) fun cdv A outer s H E hr => ⟨_, (pss_cons (ps_par (i := 2) (j := 3) (by rfl) sc__law_bits.nd rfl rfl (by decide) rfl rfl (pa_cons (pe_call C__law_haul.ok (hr.mono (by decide)) rfl C__law_haul.at_ C__law_haul.kp C__law_haul.bd .nil pass0 (pa_cons (pv 0) (pa_cons pe_int pa_nil))) (pa_cons (pe_call C__law_haul.ok (hr.mono (by decide)) rfl C__law_haul.at_ C__law_haul.kp C__law_haul.bd .nil pass0 (pa_cons (pv 0) (pa_cons pe_int pa_nil))) pa_nil)) (by rfl))
      (pss_cons (ps_set (i := 4) sc__law_bits.nd rfl (Or.inl rfl) (pe_lst pa_nil))
      (pss_cons (ps_for PassesOwn.never rfl (pi_range1 (by rfl) T.range (pa_cons (pv 1) pa_nil)) (pg_name (i := 5) sc__law_bits.nd rfl (Or.inl rfl)) (pss_cons (ps_set (i := 6) sc__law_bits.nd rfl (Or.inl rfl) (pe_or (pe_cmpR op_eq (pv 2) pe_int (nomark _)) (pe_one (pe_and (pe_cmpR op_eq (pv 2) pe_int (nomark _)) (pe_one (pe_cmpR op_gt (pe_call C__law_haul.ok (hr.mono (by decide)) rfl C__law_haul.at_ C__law_haul.kp C__law_haul.bd .nil pass0 (pa_cons (pv 0) (pa_cons pe_int pa_nil))) pe_int (nomark _)))))))
      (pss_one (ps_expr (pe_bm PySem.F.plainAttrs_list PySem.F.slot_list_append PySem.F.type_list_append mt_append (pv 4) (pa_cons (pe_ifExp (pt_val (pv 6)) (pv 3) (pe_call C__law_haul.ok (hr.mono (by decide)) rfl C__law_haul.at_ C__law_haul.kp C__law_haul.bd .nil pass0 (pa_cons (pv 0) (pa_cons pe_int pa_nil)))) pa_nil))))))
      (pss_one (ps_ret (pe_callTy (call_tupK (K := K) rfl) (by rfl) T.tuple (by decide +kernel) (pa_cons (pv 4) pa_nil))))))), ?_⟩
  rintro c ds xs ⟨n, m, hc, hn, rfl, hm, hm1⟩
  obtain ⟨n0, hle, hc0, hmin⟩ := hc.least
  refine run_seqC (runx_par (exa_consC (ex_haul (.inr ⟨c, rfl⟩) ev_int hc0 (by omega) (by decide) (by decide) fun a ds1 a0 a1 h1 => exa_consC (ex_haul (.inr ⟨c, rfl⟩) ev_int h1 (by omega) (by decide) (by decide) fun b ds2 b0 b1 h2 => exa_nil ⟨_, _, rfl, ?_⟩))))
  refine run_seq1 (run_asgN (en_lst ea_nil (Nat.zero_le _)) rfl) ?_
  refine run_seq (M := fun δ => ∃ ds' ns s t, δ = [.b c ds', .d (.int m), .d (.int a), .d (.int b), .o (ns.map .int), s, t] ∧ (ns.length : Int) = m ∧ Bits ns ∧ CrOk ds' (n0 + 1000)) (run_forR (n := m) (ea_cons (ev_var rfl) ea_nil) ⟨by omega, by omega⟩
    (fun i δ => ∃ ds' ns s t, δ = [.b c ds', .d (.int m), .d (.int a), .d (.int b), .o (ns.map .int), s, t] ∧ ns.length = i ∧ Bits ns ∧ CrOk ds' (n0 + 2 + 2 * i)) ⟨ds2, [], _, _, rfl, rfl, .nil, h2⟩ ?_ ?_) ?_
  · rintro i δ hi ⟨ds', ns, s, t, rfl, hl, hb, hk⟩
    have next : ∀ (ds3 : List Dat) (v : Bool), CrOk ds3 (n0 + 2 + 2 * i + 1) → Run (tDrop (tBM K "list" rAppend (tVar 4) (tCons (tIf (tB (tVar 6)) (tVar 3) (tCall (PrC Rf__law_haul Pre__law_haul) [] E0 (tCons (tVar 0) (tCons (tC (V.int 2)) tNil)))) tNil))) [.b c ds3, .d (.int m), .d (.int a), .d (.int b), .o (ns.map .int), .d (.int (i : Int)), .d (.bl v)]
        (fun δ => ∃ ds' ns s t, δ = [.b c ds', .d (.int m), .d (.int a), .d (.int b), .o (ns.map .int), s, t] ∧ ns.length = i + 1 ∧ Bits ns ∧ CrOk ds' (n0 + 2 + 2 * (i + 1))) (fun x δ => ∃ ds', δ[0]? = some (Slot.b c ds') ∧ Rf__law_bits ds [.int m] x ds') := fun ds3 v h3 => by
      have big0 : (ns.map Dat.int).length < sizeLine := by
        rw [List.length_map]
        exact big (by omega)
      have fin : ∀ (d : Int), 0 ≤ d → d < 2 → ∀ ds4, CrOk ds4 (n0 + 2 + 2 * (i + 1)) → ∃ ds' ns' s t, [Slot.b c ds4, .d (.int m), .d (.int a), .d (.int b), .o (ns.map Dat.int ++ [.int d]), .d (.int (i : Int)), .d (.bl v)] = [.b c ds', .d (.int m), .d (.int a), .d (.int b), .o (ns'.map .int), s, t] ∧ ns'.length = i + 1 ∧ Bits ns' ∧ CrOk ds' (n0 + 2 + 2 * (i + 1)) := fun d d0 d1 ds4 h4 =>
        ⟨ds4, ns ++ [d], _, _, by rw [List.map_append]; rfl, by rw [List.length_append, List.length_singleton, hl], hb.app (.two d0 d1), h4⟩
      refine runx_app (i := 4) rfl (ex_ifP (b := v) (et_B (ev_var rfl)) (fun _ => ex_of (ev_var rfl) ⟨_, rfl, big0, fin b b0 b1 _ (h3.mono (by omega))⟩) fun _ => ?_)
      exact ex_haul (.inr ⟨c, rfl⟩) ev_int h3 (by omega) (by decide) (by decide) fun d ds4 d0 d1 h4 => ⟨_, rfl, big0, fin d d0 d1 _ (h4.mono (by omega))⟩
    refine run_seqC (runx_asg (ex_or (ex_of (ev_op (ev_var rfl) ev_int r2_eqI) ⟨_, rfl, fun _ => ?_, fun _ => next _ _ (hk.mono (by omega))⟩)))
    refine ex_and (ex_of (ev_op (ev_var rfl) ev_int r2_eqI) ⟨_, rfl, fun _ => ?_, fun _ => next _ _ (hk.mono (by omega))⟩)
    exact ex_opC (ex_haul (.inr ⟨c, rfl⟩) ev_int hk (by omega) (by decide) (by decide) fun d ds4 d0 d1 h4 => ex_of ev_int ⟨_, r2_gt, next _ _ h4⟩)
  · rintro δ ⟨ds', ns, s, t, rfl, hl, hb, hk⟩
    exact ⟨ds', ns, s, t, rfl, by omega, hb, hk.mono (by omega)⟩
  · rintro δ ⟨ds', ns, s, t, rfl, hl, hb, hk⟩
    exact run_ret (ev_tupL (er_var rfl)) ⟨ds', rfl, m, ns, rfl, rfl, hl, hb, fun n' h' => hk.mono (by have := hmin n' h'; omega)⟩
/-- rows of bits, as the law draws them -/
structure Rows (ins : List (List Int × Int)) : Prop where
  many : ins.length ≤ 1000
  row : ∀ p ∈ ins, Bits p.1 ∧ 0 < p.1.length ∧ p.1.length ≤ 1000 ∧ (p.2 = 0 ∨ p.2 = 1)
def Put (x : Dat) : Prop := x = .non ∨ ∃ b : Int, x = .int b ∧ (b = 0 ∨ b = 1)
def Pre__law_put (xs : List Dat) : Prop := ∃ ins ns, Rows ins ∧ ns.length ≤ 100000 ∧ xs = [.tup (ins.map rowD), w ns]
def Rf__law_put (xs : List Dat) (x : Dat) : Prop := Put x
theorem len__law_put {xs : List Dat} (h : Pre__law_put xs) : xs.length = 2 := by
  obtain ⟨_, _, _, _, rfl⟩ := h
  rfl
theorem ok__law_put {f : Addr} {fd : FuncData} (F : Fun K "_law_put" "_law_put" s__law_put f fd) (T : Bs mg) : FnOk P w0 K mg base CX0 1 f fd ["rows", "line"] (PrX Pre__law_put Rf__law_put) := by
  refine fn_prX F sc__law_put (fun xs h => len__law_put h) fun cdv A outer s H E hr => ⟨_, (pss_cons (ps_asg (pe_tup (pa_cons pe_non (pa_cons pe_int pa_nil))) (pg_tupK (K := K) 2 rfl rfl (pgs_cons (pg_name (i := 2) sc__law_put.nd rfl (Or.inl rfl)) (pgs_cons (pg_name (i := 3) sc__law_put.nd rfl (Or.inl rfl)) pgs_nil))))
      (pss_cons (ps_for PassesOwn.never rfl (pi_tupK (K := K) rfl (pv 0)) (pg_tupK (K := K) 2 rfl rfl (pgs_cons (pg_name (i := 4) sc__law_put.nd rfl (Or.inl rfl)) (pgs_cons (pg_name (i := 5) sc__law_put.nd rfl (Or.inl rfl)) pgs_nil))) (pss_one (ps_if (PW.pt (pw_and (pt_cmpR op_gt (pe_callB (call_lenK (K := K) rfl) (by rfl) T.len PySem.boot_len (pa_cons (pv 4) pa_nil)) (pv 3) (nomark _)) (pw_and1 (pt_cmpR (op_eqK (K := K) rfl hr.units) (pe_slice (sl_tupK (K := K) rfl) (pv 1) (po_some (pe_callB (call_max2 rfl) (by rfl) T.max (by decide +kernel) (pa_cons pe_int (pa_cons (pe_op op_sub (pe_callB (call_lenK (K := K) rfl) (by rfl) T.len PySem.boot_len (pa_cons (pv 1) pa_nil)) (pe_callB (call_lenK (K := K) rfl) (by rfl) T.len PySem.boot_len (pa_cons (pv 4) pa_nil))) pa_nil)))) po_none) (pv 4) (nomark _))))) (pss_one (ps_par (i := 2) (j := 3) (by rfl) sc__law_put.nd rfl rfl (by decide) rfl rfl (pa_cons (pv 5) (pa_cons (pe_callB (call_lenK (K := K) rfl) (by rfl) T.len PySem.boot_len (pa_cons (pv 4) pa_nil)) pa_nil)) (by rfl))) pss_nil)))
      (pss_one (ps_ret (pv 2))))), ?_⟩
  rintro xs ⟨ins, ns, hR, hl, rfl⟩
  refine run_seq1 (run_asgT (ev_tup (ea_cons ev_non (ea_cons ev_int ea_nil)) (by show 2 ≤ sizeLine; decide)) (tg_tup (tgs_cons (tg_name 2) (tgs_cons (tg_name 3) tgs_nil)) rfl) rfl) ?_
  refine run_seq (M := fun δ => ∃ x y s t, δ = [.d (.tup (ins.map rowD)), .d (w ns), .d x, y, s, t] ∧ Put x) (run_forT (xs := ins.map rowD) (ev_var rfl)
    (fun i δ => ∃ x z s t, δ = [.d (.tup (ins.map rowD)), .d (w ns), .d x, .d (.int z), s, t] ∧ Put x) ⟨_, _, _, _, rfl, .inl rfl⟩ ?_ ?_) ?_
  · rintro i x δ hx ⟨x0, z, s, t, rfl, hp⟩
    rw [List.getElem?_map] at hx
    cases hb : ins[i]? with
    | none =>
      rw [hb] at hx
      cases hx
    | some p =>
      rw [hb] at hx
      cases hx
      obtain ⟨b1, b2, b3, b4⟩ := hR.row p (List.mem_of_getElem? hb)
      refine ⟨_, _, tg_tup (tgs_cons (tg_name 4) (tgs_cons (tg_name 5) tgs_nil)) rfl, ?_⟩
      refine run_if (et_and (et_test (ev_op (ev_lenW (ev_var rfl)) (ev_var rfl) r2_gt)) fun _ => et_test (ev_op (ev_cut (ev_var rfl) (eo_some (ev_cb (ea_cons ev_int (ea_cons (ev_op (ev_lenW (ev_var rfl)) (ev_lenW (ev_var rfl)) r2_sub) ea_nil)) rc_max2)) eo_none) (ev_var rfl) r2_eqW)) (fun _ => ?_) fun _ => run_next ⟨_, _, _, _, rfl, hp⟩
      exact run_par (ea_cons (ev_var rfl) (ea_cons (ev_lenW (ev_var rfl)) ea_nil)) ⟨_, _, _, _, rfl, .inr ⟨p.2, rfl, b4⟩⟩
  · rintro δ ⟨x0, z, s, t, rfl, hp⟩
    exact ⟨_, _, _, _, rfl, hp⟩
  · rintro δ ⟨x0, y, s, t, rfl, hp⟩
    exact run_ret (ev_var rfl) hp
/-- a rule as the law draws it -/
structure Small (r : Rule) : Prop where
  flag : Bits r.flag
  flag0 : 0 < r.flag.length
  flag1 : r.flag.length ≤ 16
  rows : Rows r.ins
  chk0 : 1 ≤ r.chk
  chk1 : r.chk ≤ 16
def Pre__law_sum_bits (xs : List Dat) : Prop := ∃ r ns, Small r ∧ ns.length ≤ 1000 ∧ xs = [r.dat, w ns]
def Rf__law_sum_bits (xs : List Dat) (x : Dat) : Prop := ∃ ns, x = w ns ∧ Bits ns ∧ ns.length ≤ 4
theorem len__law_sum_bits {xs : List Dat} (h : Pre__law_sum_bits xs) : xs.length = 2 := by
  obtain ⟨_, _, _, _, rfl⟩ := h
  rfl
theorem ok__law_sum_bits {f : Addr} {fd : FuncData} (F : Fun K "_law_sum_bits" "_law_sum_bits" s__law_sum_bits f fd) (T : Bs mg) : FnOk P w0 K mg base CX0 1 f fd ["rule_here", "payload_here"] (PrX Pre__law_sum_bits Rf__law_sum_bits) := by
  refine fn_prX F sc__law_sum_bits (fun xs h => len__law_sum_bits h) fun cdv A outer s H E hr => ⟨_, (pss_cons (ps_asg (pe_tup (pa_cons pe_int (pa_cons pe_int (pa_cons (pe_tup pa_nil) pa_nil)))) (pg_tupK (K := K) 3 rfl rfl (pgs_cons (pg_name (i := 2) sc__law_sum_bits.nd rfl (Or.inl rfl)) (pgs_cons (pg_name (i := 3) sc__law_sum_bits.nd rfl (Or.inl rfl)) (pgs_cons (pg_name (i := 4) sc__law_sum_bits.nd rfl (Or.inl rfl)) pgs_nil)))))
      (pss_cons (ps_while PassesOwn.never (pt_cmpR op_lt (pv 3) (pe_ix (ix_tupK (K := K) rfl) (pv 0) pe_int (fun _ _ => rfl)) (nomark _)) (pss_one (ps_par (i := 2) (j := 3) (by rfl) sc__law_sum_bits.nd rfl rfl (by decide) rfl rfl (pa_cons (pe_op op_add (pv 2) pe_int) (pa_cons (pe_op op_mul (pv 3) pe_int) pa_nil)) (by rfl))))
      (pss_cons (ps_set (i := 5) sc__law_sum_bits.nd rfl (Or.inl rfl) (pe_op op_modN (pe_callTy call_int1 (by rfl) T.int (by decide +kernel) (pa_cons (pe_callB (call_lenK (K := K) rfl) (by rfl) T.len PySem.boot_len (pa_cons (pe_lc (own := [("bit", 6)]) rfl sc__law_sum_bits.nd (pi_tupK (K := K) rfl (pv 1)) (blkOk_by (own := [("bit", 6)]) (N := N__law_sum_bits) (sc := defScope s__law_sum_bits) (by decide +kernel)) (fun _ _ _ _ _ => (pg_name (i := 6) sc__law_sum_bits.nd rfl (Or.inl rfl))) (fun _ _ _ _ _ => (pts_one (pt_cmpR op_eq (pv 6) pe_int (nomark _)))) (fun _ _ _ _ _ => (pv 6))) pa_nil)) pa_nil)) (pe_ix (ix_tupK (K := K) rfl) (pv 0) pe_int (fun _ _ => rfl))))
      (pss_cons (ps_for PassesOwn.never rfl (pi_range1 (by rfl) T.range (pa_cons (pv 2) pa_nil)) (pg_name (i := 7) sc__law_sum_bits.nd rfl (Or.inl rfl)) (pss_one (ps_par (i := 4) (j := 5) (by rfl) sc__law_sum_bits.nd rfl rfl (by decide) rfl rfl (pa_cons (pe_op (op_catK (K := K) rfl) (pe_tup (pa_cons (pe_op op_modN (pe_callTy call_int1 (by rfl) T.int (by decide +kernel) (pa_cons (pv 5) pa_nil)) pe_int) pa_nil)) (pv 4)) (pa_cons (pe_op op_fdivN (pv 5) pe_int) pa_nil)) (by rfl))))
      (pss_one (ps_ret (pv 4))))))), ?_⟩
  rintro xs ⟨r, ns, G, hl, rfl⟩
  refine run_seq1 (run_asgT (ev_tup (ea_cons ev_int (ea_cons ev_int (ea_cons ev_w0 ea_nil))) (by show 3 ≤ sizeLine; decide)) (tg_tup (tgs_cons (tg_name 2) (tgs_cons (tg_name 3) (tgs_cons (tg_name 4) tgs_nil))) rfl) rfl) ?_
  refine run_seq (M := fun δ => ∃ (s : Nat) (x : Int), δ = [.d r.dat, .d (w ns), .d (.int (s : Int)), .d (.int x), .d (w []), .no, .no, .no] ∧ s ≤ 4) (run_while (fun m δ => ∃ s : Nat, m = 4 - s ∧ δ = [.d r.dat, .d (w ns), .d (.int (s : Int)), .d (.int ((2 ^ s : Nat) : Int)), .d (w []), .no, .no, .no] ∧ s ≤ 4) 4 ⟨0, rfl, rfl, by omega⟩ ?_) ?_
  · rintro m δ ⟨s, rfl, rfl, hs⟩
    refine ⟨_, et_test (ev_op (ev_var rfl) (ev_op (ev_var rfl) ev_int (r2_ixT (z := .int r.chk) rfl)) r2_lt), fun hb => ?_, fun _ => ⟨s, _, rfl, hs⟩⟩
    have hb' := of_decide_eq_true hb
    have hc := G.chk1
    have h4 : s < 4 := by
      rcases Nat.lt_or_ge s 4 with h | h
      · exact h
      · have e : s = 4 := by omega
        subst e
        have e2 : ((2 ^ 4 : Nat) : Int) = 16 := rfl
        omega
    refine run_par (ea_cons (ev_op (ev_var rfl) ev_int r2_add) (ea_cons (ev_op (ev_var rfl) ev_int (r2_mul (.inr ⟨by decide, by decide⟩))) ea_nil)) ⟨4 - (s + 1), by omega, s + 1, rfl, ?_, by omega⟩
    have e1 : ((2 ^ (s + 1) : Nat) : Int) = ((2 ^ s : Nat) : Int) * 2 := by
      rw [Nat.pow_succ]
      exact Int.natCast_mul _ _
    rw [e1]
    rfl
  · rintro δ ⟨s, m, rfl, hs⟩
    have c0 := G.chk0
    refine run_seq1 (run_asg (ev_op (ev_int1 (ev_lenL (er_ofN (en_lcT (js := [6]) (l := ns) (enc := .int) (f := fun b => decide (b = 1)) (v := .int) (ev_var rfl) (by decide) (big (by omega)) fun b _ => ⟨_, tg_name 6, et_test (ev_op (ev_var rfl) ev_int r2_eqI), fun _ => ev_var rfl⟩)))) (ev_op (ev_var rfl) ev_int (r2_ixT (z := .int r.chk) rfl)) (r2_modN (by omega))) rfl) ?_
    refine run_seq (M := fun δ => ∃ fs x t, δ = [.d r.dat, .d (w ns), .d (.int (s : Int)), .d (.int m), .d (w fs), .d (.int x), .no, t] ∧ fs.length ≤ 4 ∧ Bits fs) (run_forR (n := (s : Int)) (ea_cons (ev_var rfl) ea_nil) ⟨by omega, by omega⟩
      (fun i δ => ∃ fs x t, δ = [.d r.dat, .d (w ns), .d (.int (s : Int)), .d (.int m), .d (w fs), .d (.int x), .no, t] ∧ fs.length = i ∧ Bits fs) ⟨[], _, _, rfl, rfl, .nil⟩ ?_ ?_) ?_
    · rintro i δ hi ⟨fs, x, t, rfl, hf, hb⟩
      have f0 := fmod_in (x := x) (m := 2) (by decide)
      refine run_par (ea_cons (ev_op (ev_w1 (ev_op (ev_int1 (ev_var rfl)) ev_int (r2_modN (by decide)))) (ev_var rfl) (r2_catW (by have := big (n := fs.length) (by omega); rw [List.length_singleton]; omega))) (ea_cons (ev_op (ev_var rfl) ev_int (r2_fdivN ⟨by omega, by omega⟩)) ea_nil)) ⟨_, _, _, rfl, ?_, (Bits.two f0.1 f0.2).app hb⟩
      rw [List.length_append, List.length_singleton]
      omega
    · rintro δ ⟨fs, x, t, rfl, hf, hb⟩
      exact ⟨fs, x, t, rfl, by omega, hb⟩
    · rintro δ ⟨fs, x, t, rfl, hf, hb⟩
      exact run_ret (ev_var rfl) ⟨fs, rfl, hb, hf⟩
def Pre__law_frame (xs : List Dat) : Prop := ∃ r ns, Small r ∧ Bits ns ∧ ns.length ≤ 1000 ∧ xs = [r.dat, w ns]
def Rf__law_frame (xs : List Dat) (x : Dat) : Prop := ∃ ns, x = w ns ∧ Bits ns ∧ ∀ d ps, xs = [d, w ps] → ns.length ≤ 25 + 2 * ps.length
theorem len__law_frame {xs : List Dat} (h : Pre__law_frame xs) : xs.length = 2 := by
  obtain ⟨_, _, _, _, _, rfl⟩ := h
  rfl
theorem Put.more {p : Dat} (hp : Put p) {γ : Gam} {N : Gam → Prop} {R : Dat → Gam → Prop} {K : PySem.W.Frag} {i j : Nat} {ns : List Int} (hi : γ[i]? = some (.d (w ns))) (hj : γ[j]? = some (.d p)) (hl : ns.length ≤ 100000) (hb : Bits ns)
    (hn : ∀ ms, Bits ms → ms.length ≤ ns.length + 1 → N (γ.set i (.d (w ms)))) : Run (tAsg (tIf (tTest (tOp (fun x y H Q => y = .non ∧ Q (.bl (decide (x = .non))) H) (tVar j) (tC .non))) (tVar i) (tOp (rCatA K) (tVar i) (tTup (tCons (tVar j) tNil)))) (gName i)) γ N R := by
  rcases hp with rfl | ⟨b, rfl, h01⟩
  · exact run_asg (ev_is (ev_if (b := true) (y := .non) (et_test (ev_op (ev_var hj) ev_non r2_isN)) (fun _ => ev_var hi) fun z => by cases z) rfl) (hn ns hb (Nat.le_succ _))
  · exact run_asg (ev_is (ev_if (b := false) (x := .non) (et_test (ev_op (ev_var hj) ev_non r2_isN)) (fun z => by cases z) fun _ => ev_op (ev_var hi) (ev_w1 (ev_var hj)) (r2_catW (by have := big (n := ns.length + 1) (by omega); rw [List.length_singleton]; omega))) rfl) (hn (ns ++ [b]) (hb.app (.one h01)) (by rw [List.length_append, List.length_singleton]; exact Nat.le_refl _))
theorem ok__law_frame {f : Addr} {fd : FuncData} (F : Fun K "_law_frame" "_law_frame" s__law_frame f fd) {f__law_put : Addr} {d__law_put : FuncData} (C__law_put : CalS P w0 K mg base "_law_put" ["rows", "line"] 1 (PrX Pre__law_put Rf__law_put) f__law_put d__law_put) {f__law_sum_bits : Addr} {d__law_sum_bits : FuncData} (C__law_sum_bits : CalS P w0 K mg base "_law_sum_bits" ["rule_here", "payload_here"] 1 (PrX Pre__law_sum_bits Rf__law_sum_bits) f__law_sum_bits d__law_sum_bits) : FnOk P w0 K mg base CX0 2 f fd ["rule_here", "payload_here"] (PrX Pre__law_frame Rf__law_frame) := by
  refine fn_prX F sc__law_frame (fun xs h => len__law_frame h) fun cdv A outer s H E hr => ⟨_, (pss_cons (ps_asg (pv 0) (pg_tupK (K := K) 3 rfl rfl (pgs_cons (pg_name (i := 2) sc__law_frame.nd rfl (Or.inl rfl)) (pgs_cons (pg_name (i := 3) sc__law_frame.nd rfl (Or.inl rfl)) (pgs_cons (pg_name (i := 4) sc__law_frame.nd rfl (Or.inl rfl)) pgs_nil)))))
      (pss_cons (ps_par (i := 5) (j := 6) (by rfl) sc__law_frame.nd rfl rfl (by decide) rfl rfl (pa_cons (pv 2) (pa_cons (pe_call C__law_put.ok (hr.mono (by decide)) rfl C__law_put.at_ C__law_put.kp C__law_put.bd .nil pass0 (pa_cons (pe_ix (ix_tupK (K := K) rfl) (pv 0) pe_int (fun _ _ => rfl)) (pa_cons (pe_ix (ix_tupK (K := K) rfl) (pv 0) pe_int (fun _ _ => rfl)) pa_nil))) pa_nil)) (by rfl))
      (pss_cons (ps_set (i := 5) sc__law_frame.nd rfl (Or.inl rfl) (pe_ifExp (pt_cmpR op_isN (pv 6) pe_non (nomark _)) (pv 5) (pe_op (op_catK (K := K) rfl) (pv 5) (pe_tup (pa_cons (pv 6) pa_nil)))))
      (pss_cons (ps_for PassesOwn.never rfl (pi_tupK (K := K) rfl (pe_op (op_catK (K := K) rfl) (pv 1) (pe_call C__law_sum_bits.ok (hr.mono (by decide)) rfl C__law_sum_bits.at_ C__law_sum_bits.kp C__law_sum_bits.bd .nil pass0 (pa_cons (pv 0) (pa_cons (pv 1) pa_nil))))) (pg_name (i := 7) sc__law_frame.nd rfl (Or.inl rfl)) (pss_cons (ps_set (i := 5) sc__law_frame.nd rfl (Or.inl rfl) (pe_op (op_catK (K := K) rfl) (pv 5) (pe_tup (pa_cons (pv 7) pa_nil))))
      (pss_cons (ps_set (i := 6) sc__law_frame.nd rfl (Or.inl rfl) (pe_call C__law_put.ok (hr.mono (by decide)) rfl C__law_put.at_ C__law_put.kp C__law_put.bd .nil pass0 (pa_cons (pv 3) (pa_cons (pv 5) pa_nil))))
      (pss_one (ps_set (i := 5) sc__law_frame.nd rfl (Or.inl rfl) (pe_ifExp (pt_cmpR op_isN (pv 6) pe_non (nomark _)) (pv 5) (pe_op (op_catK (K := K) rfl) (pv 5) (pe_tup (pa_cons (pv 6) pa_nil)))))))))
      (pss_one (ps_ret (pv 5))))))), ?_⟩
  rintro xs ⟨r, ns, G, hb, hl, rfl⟩
  have f1 := G.flag1
  refine run_seq1 (run_asgT (ev_var rfl) (tg_tup (tgs_cons (tg_name 2) (tgs_cons (tg_name 3) (tgs_cons (tg_name 4) tgs_nil))) rfl) rfl) ?_
  refine run_seqC (runx_par (exa_consC (ex_of (ev_var rfl) (exa_consC (ex_callX (exa_of (ea_cons (ev_op (ev_var rfl) ev_int (r2_ixT (z := .tup (r.ins.map rowD)) rfl)) (ea_cons (ev_op (ev_var rfl) ev_int (r2_ixT (z := w r.flag) rfl)) ea_nil)) ⟨⟨_, _, G.rows, by omega, rfl⟩, fun p hp => exa_nil ⟨_, _, rfl, ?_⟩⟩))))))
  refine run_seqC (hp.more (i := 5) (j := 6) rfl rfl (by omega) G.flag fun l0 lb ll => ?_)
  refine run_seqC (runx_forT (fun ys i δ => ys.length ≤ ns.length + 4 ∧ (∃ bs, ys = bs.map .int ∧ Bits bs) ∧ ∃ ls p s, δ = [.d r.dat, .d (w ns), .d (w r.flag), .d (.tup (r.ins.map rowD)), .d (.int r.chk), .d (w ls), .d p, s] ∧ Bits ls ∧ ls.length ≤ 17 + 2 * i)
    (ex_opC (ex_of (ev_var rfl) (ex_callX (exa_of (ea_cons (ev_var rfl) (ea_cons (ev_var rfl) ea_nil)) ⟨⟨r, ns, G, hl, rfl⟩, fun z hz => ?_⟩)))) ?_ ?_)
  · obtain ⟨bs, rfl, b1, b2⟩ := hz
    refine ⟨_, r2_catW (by have := big (n := ns.length + bs.length) (by omega); omega), _, rfl, ?_, ⟨_, rfl, hb.app b1⟩, l0, _, _, rfl, lb, by omega⟩
    rw [List.length_map, List.length_append]
    omega
  · rintro ys i x δ hx ⟨yl, ⟨bs, rfl, bb⟩, ls, p, s, rfl, h1, h2⟩
    rw [List.getElem?_map] at hx
    cases hq : bs[i]? with
    | none =>
      rw [hq] at hx
      cases hx
    | some b =>
      rw [hq] at hx
      cases hx
      have hi := (List.getElem?_eq_some_iff.mp hq).1
      rw [List.length_map] at yl
      refine ⟨_, _, tg_name 7, ?_⟩
      refine run_seq1 (run_asg (ev_op (ev_var rfl) (ev_w1 (ev_var rfl)) (r2_catW (by have := big (n := ls.length + 1) (by omega); rw [List.length_singleton]; omega))) rfl) ?_
      have l1 : (ls ++ [b]).length = ls.length + 1 := by rw [List.length_append, List.length_singleton]
      refine run_seqC (runx_asg (ex_callX (exa_of (ea_cons (ev_var rfl) (ea_cons (ev_var rfl) ea_nil)) ⟨⟨_, _, G.rows, by omega, rfl⟩, fun p hp => ?_⟩)))
      exact hp.more (i := 5) (j := 6) rfl rfl (by omega) (h1.app (.one (bb b (List.mem_of_getElem? hq)))) fun ms m1 m2 => ⟨by rw [List.length_map]; exact yl, ⟨bs, rfl, bb⟩, ms, _, _, rfl, m1, by omega⟩
  · rintro ys δ ⟨yl, _, ls, p, s, rfl, h1, h2⟩
    refine run_ret (ev_var rfl) ⟨ls, rfl, h1, fun d ps e => ?_⟩
    have e2 : w ns = w ps := by
      injection e with _ e
      injection e
    have := w_len e2
    omega
def Pre__law_stream (xs : List Dat) : Prop := ∃ (r : Rule) (pl : List (List Int)), Small r ∧ pl.length ≤ 4 ∧ (∀ p ∈ pl, Bits p ∧ p.length ≤ 9) ∧ xs = [r.dat, .lst (pl.map w)]
def Rf__law_stream (xs : List Dat) (x : Dat) : Prop := ∃ ns, x = w ns ∧ Bits ns ∧ ns.length ≤ 200
theorem len__law_stream {xs : List Dat} (h : Pre__law_stream xs) : xs.length = 2 := by
  obtain ⟨_, _, _, _, _, rfl⟩ := h
  rfl
theorem ok__law_stream {f : Addr} {fd : FuncData} (F : Fun K "_law_stream" "_law_stream" s__law_stream f fd) {f__law_frame : Addr} {d__law_frame : FuncData} (C__law_frame : CalS P w0 K mg base "_law_frame" ["rule_here", "payload_here"] 2 (PrX Pre__law_frame Rf__law_frame) f__law_frame d__law_frame) : FnOk P w0 K mg base CX0 3 f fd ["rule_here", "many"] (PrX Pre__law_stream Rf__law_stream) := by
  refine fn_prX F sc__law_stream (fun xs h => len__law_stream h) fun cdv A outer s H E hr => ⟨_, (pss_cons (ps_set (i := 2) sc__law_stream.nd rfl (Or.inl rfl) (pe_tup pa_nil))
      (pss_cons (ps_for PassesOwn.never rfl (pi_listK (K := K) rfl (pv 1)) (pg_name (i := 3) sc__law_stream.nd rfl (Or.inl rfl)) (pss_one (ps_set (i := 2) sc__law_stream.nd rfl (Or.inl rfl) (pe_op (op_catK (K := K) rfl) (pv 2) (pe_call C__law_frame.ok (hr.mono (by decide)) rfl C__law_frame.at_ C__law_frame.kp C__law_frame.bd .nil pass0 (pa_cons (pv 0) (pa_cons (pv 3) pa_nil)))))))
      (pss_one (ps_ret (pe_op (op_catK (K := K) rfl) (pv 2) (pe_ix (ix_tupK (K := K) rfl) (pv 0) pe_int (fun _ _ => rfl))))))), ?_⟩
  rintro xs ⟨r, pl, G, hl, hp, rfl⟩
  have f1 := G.flag1
  refine run_seq1 (run_asg ev_w0 rfl) ?_
  refine run_seqC (run_forL (xs := pl.map w) (ev_var rfl) (fun i δ => ∃ ls s, δ = [.d r.dat, .d (.lst (pl.map w)), .d (w ls), s] ∧ Bits ls ∧ ls.length ≤ 43 * i) ⟨[], _, rfl, .nil, Nat.zero_le _⟩ ?_ ?_)
  · rintro i x δ hx ⟨ls, s, rfl, h1, h2⟩
    rw [List.getElem?_map] at hx
    cases hq : pl[i]? with
    | none =>
      rw [hq] at hx
      cases hx
    | some p =>
      rw [hq] at hx
      cases hx
      have hi := (List.getElem?_eq_some_iff.mp hq).1
      obtain ⟨p1, p2⟩ := hp p (List.mem_of_getElem? hq)
      refine ⟨_, _, tg_name 3, ?_⟩
      refine runx_asg (ex_opC (ex_of (ev_var rfl) (ex_callX (exa_of (ea_cons (ev_var rfl) (ea_cons (ev_var rfl) ea_nil)) ⟨⟨r, p, G, p1, by omega, rfl⟩, fun z hz => ?_⟩))))
      obtain ⟨bs, rfl, b1, b2⟩ := hz
      have b3 := b2 _ p rfl
      refine ⟨_, r2_catW (by have := big (n := ls.length + bs.length) (by omega); omega), ls ++ bs, _, rfl, h1.app b1, ?_⟩
      rw [List.length_append]
      omega
  · rintro δ ⟨ls, s, rfl, h1, h2⟩
    rw [List.length_map] at h2
    refine run_ret (ev_op (ev_var rfl) (ev_op (ev_var rfl) ev_int (r2_ixT (z := w r.flag) rfl)) (r2_catW (by have := big (n := ls.length + r.flag.length) (by omega); omega))) ⟨_, rfl, h1.app G.flag, ?_⟩
    rw [List.length_append]
    omega
/-- a change of a word of n bits -/
def Chg (n : Nat) (x : Dat) : Prop := (∃ (k : Nat) (b : Int), x = .tup [.str "add", .int (k : Int), .int b] ∧ k ≤ n ∧ (b = 0 ∨ b = 1)) ∨ (∃ k : Nat, (x = .tup [.str "flip", .int (k : Int)] ∨ x = .tup [.str "lose", .int (k : Int)]) ∧ k < n)
def Pre__law_spoilt (xs : List Dat) : Prop := ∃ (ns : List Int) (c : Dat), Bits ns ∧ ns.length ≤ 10000 ∧ Chg ns.length c ∧ xs = [w ns, c]
def Rf__law_spoilt (xs : List Dat) (x : Dat) : Prop := ∃ ms, x = w ms ∧ Bits ms ∧ ∀ ns c, xs = [w ns, c] → ms.length ≤ ns.length + 1
theorem len__law_spoilt {xs : List Dat} (h : Pre__law_spoilt xs) : xs.length = 2 := by
  obtain ⟨_, _, _, _, _, rfl⟩ := h
  rfl
theorem ok__law_spoilt {f : Addr} {fd : FuncData} (F : Fun K "_law_spoilt" "_law_spoilt" s__law_spoilt f fd) : FnOk P w0 K mg base CX0 1 f fd ["line", "change_here"] (PrX Pre__law_spoilt Rf__law_spoilt) := by
  refine fn_prX F sc__law_spoilt (fun xs h => len__law_spoilt h) fun cdv A outer s H E hr => ⟨_, (pss_cons (ps_set (i := 2) sc__law_spoilt.nd rfl (Or.inl rfl) (pe_ix (ix_tupK (K := K) rfl) (pv 1) pe_int (fun _ _ => rfl)))
      (pss_cons (ps_if (pt_cmpR op_eq (pe_ix (ix_tupK (K := K) rfl) (pv 1) pe_int (fun _ _ => rfl)) pe_str (nomark _)) (pss_one (ps_ret (pe_op (op_catK (K := K) rfl) (pe_op (op_catK (K := K) rfl) (pe_slice (sl_tupK (K := K) rfl) (pv 0) po_none (po_some (pv 2))) (pe_tup (pa_cons (pe_op op_sub pe_int (pe_ix (ix_tupK (K := K) rfl) (pv 0) (pv 2) (fun _ _ => rfl))) pa_nil))) (pe_slice (sl_tupK (K := K) rfl) (pv 0) (po_some (pe_op op_add (pv 2) pe_int)) po_none)))) pss_nil)
      (pss_one (ps_ret (pe_ifExp (pt_cmpR op_eq (pe_ix (ix_tupK (K := K) rfl) (pv 1) pe_int (fun _ _ => rfl)) pe_str (nomark _)) (pe_op (op_catK (K := K) rfl) (pe_slice (sl_tupK (K := K) rfl) (pv 0) po_none (po_some (pv 2))) (pe_slice (sl_tupK (K := K) rfl) (pv 0) (po_some (pe_op op_add (pv 2) pe_int)) po_none)) (pe_op (op_catK (K := K) rfl) (pe_op (op_catK (K := K) rfl) (pe_slice (sl_tupK (K := K) rfl) (pv 0) po_none (po_some (pv 2))) (pe_tup (pa_cons (pe_ix (ix_tupK (K := K) rfl) (pv 1) pe_int (fun _ _ => rfl)) pa_nil))) (pe_slice (sl_tupK (K := K) rfl) (pv 0) (po_some (pv 2)) po_none))))))), ?_⟩
  rintro xs ⟨ns, c, hb, hl, hc, rfl⟩
  have fin : ∀ ms : List Int, Bits ms → ms.length ≤ ns.length + 1 → Rf__law_spoilt [w ns, c] (w ms) := fun ms b l => ⟨ms, rfl, b, fun ns' c' e => by
    have e2 : w ns = w ns' := by injection e
    have := w_len e2
    omega⟩
  have room : ∀ a b : List Int, a.length ≤ 20000 → b.length ≤ 20000 → a.length + b.length ≤ sizeLine := fun a b ha hb => by
    have := big (n := a.length + b.length) (by omega)
    omega
  rcases hc with ⟨k, b, rfl, hk, h01⟩ | ⟨k, rfl | rfl, hk⟩
  · refine run_seq1 (run_asg (ev_op (ev_var rfl) ev_int (r2_ixT (z := .int (k : Int)) rfl)) rfl) ?_
    refine run_seq1 (run_if (b := false) (et_test (ev_is (ev_op (ev_op (ev_var rfl) ev_int (r2_ixT (z := .str "add") rfl)) ev_str r2_eqS) (congrArg Dat.bl (by decide)))) (fun z => by cases z) fun _ => run_next rfl) ?_
    refine run_ret (ev_is (ev_if (b := false) (x := .non) (et_test (ev_is (ev_op (ev_op (ev_var rfl) ev_int (r2_ixT (z := .str "add") rfl)) ev_str r2_eqS) (congrArg Dat.bl (by decide)))) (fun z => by cases z) fun _ => ev_op (ev_op (ev_cut (ev_var rfl) eo_none (eo_some (ev_var rfl))) (ev_w1 (ev_op (ev_var rfl) ev_int (r2_ixT (z := .int b) rfl))) (r2_catW ?_)) (ev_cut (ev_var rfl) (eo_some (ev_var rfl)) eo_none) (r2_catW ?_)) rfl) (fin _ ?_ ?_)
    · rw [cutI_to]
      exact room _ _ (by rw [List.length_take]; omega) (by rw [List.length_singleton]; omega)
    · rw [cutI_to, cutI_from]
      exact room _ _ (by rw [List.length_append, List.length_take, List.length_singleton]; omega) (by rw [List.length_drop]; omega)
    · rw [cutI_to, cutI_from]
      exact ((hb.take _).app (.one h01)).app (hb.drop _)
    · rw [cutI_to, cutI_from, List.length_append, List.length_append, List.length_take, List.length_drop, List.length_singleton]
      omega
  · obtain ⟨x, hx⟩ : ∃ x, ns[k]? = some x := ⟨_, List.getElem?_eq_getElem hk⟩
    have x01 := hb x (List.mem_of_getElem? hx)
    have kk : ((k : Int) + 1) = ((k + 1 : Nat) : Int) := rfl
    refine run_seq1 (run_asg (ev_op (ev_var rfl) ev_int (r2_ixT (z := .int (k : Int)) rfl)) rfl) ?_
    refine run_seqC (run_if (b := true) (et_test (ev_is (ev_op (ev_op (ev_var rfl) ev_int (r2_ixT (z := .str "flip") rfl)) ev_str r2_eqS) (congrArg Dat.bl (by decide)))) (fun _ => ?_) fun z => by cases z)
    refine run_ret (ev_op (ev_op (ev_cut (ev_var rfl) eo_none (eo_some (ev_var rfl))) (ev_w1 (ev_op ev_int (ev_op (ev_var rfl) (ev_var rfl) (r2_ixT (z := .int x) (atI_nat (j := k) (by rw [List.getElem?_map, hx]; rfl)))) r2_sub)) (r2_catW ?_)) (ev_cut (ev_var rfl) (eo_some (ev_op (ev_var rfl) ev_int r2_add)) eo_none) (r2_catW ?_)) (fin _ ?_ ?_)
    · rw [cutI_to]
      exact room _ _ (by rw [List.length_take]; omega) (by rw [List.length_singleton]; omega)
    · rw [kk, cutI_to, cutI_from]
      exact room _ _ (by rw [List.length_append, List.length_take, List.length_singleton]; omega) (by rw [List.length_drop]; omega)
    · rw [kk, cutI_to, cutI_from]
      exact ((hb.take _).app (.one (by omega))).app (hb.drop _)
    · rw [kk, cutI_to, cutI_from, List.length_append, List.length_append, List.length_take, List.length_drop, List.length_singleton]
      omega
  · have kk : ((k : Int) + 1) = ((k + 1 : Nat) : Int) := rfl
    refine run_seq1 (run_asg (ev_op (ev_var rfl) ev_int (r2_ixT (z := .int (k : Int)) rfl)) rfl) ?_
    refine run_seq1 (run_if (b := false) (et_test (ev_is (ev_op (ev_op (ev_var rfl) ev_int (r2_ixT (z := .str "lose") rfl)) ev_str r2_eqS) (congrArg Dat.bl (by decide)))) (fun z => by cases z) fun _ => run_next rfl) ?_
    refine run_ret (ev_is (ev_if (b := true) (y := .non) (et_test (ev_is (ev_op (ev_op (ev_var rfl) ev_int (r2_ixT (z := .str "lose") rfl)) ev_str r2_eqS) (congrArg Dat.bl (by decide)))) (fun _ => ev_op (ev_cut (ev_var rfl) eo_none (eo_some (ev_var rfl))) (ev_cut (ev_var rfl) (eo_some (ev_op (ev_var rfl) ev_int r2_add)) eo_none) (r2_catW ?_)) fun z => by cases z) rfl) (fin _ ?_ ?_)
    · rw [kk, cutI_to, cutI_from]
      exact room _ _ (by rw [List.length_take]; omega) (by rw [List.length_drop]; omega)
    · rw [kk, cutI_to, cutI_from]
      exact (hb.take _).app (hb.drop _)
    · rw [kk, cutI_to, cutI_from, List.length_append, List.length_take, List.length_drop]
      omega
theorem ex_bits {γ : Gam} {i : Nat} {ds0 : List Dat} {te : TE} {S : Dat → Gam → Prop} {E : XK} (h0 : Lends γ i ds0) (h : EvX te γ (fun x δ => ∃ (m : Int) (ds : List Dat) (n : Nat), x = .int m ∧ Lends δ i ds ∧ CrOk ds n ∧ n < 2 ^ 59 ∧ 0 ≤ m ∧ m ≤ 401 ∧
    ∀ (ns : List Int) (ds' : List Dat), (ns.length : Int) = m → Bits ns → CrOk ds' (n + 1000) → S (w ns) (relend δ i ds'))) : EvX (tCall (PrC Rf__law_bits Pre__law_bits) [] E (tCons (tVar i) (tCons te tNil))) γ S :=
  ex_lend h0 (exa_consC (ex_weak h fun x δ hx => by
    obtain ⟨m, ds, n, rfl, hl, hc, hn, h0, h1, hS⟩ := hx
    refine exa_nil ⟨ds, hl, ⟨n, m, hc, hn, rfl, h0, h1⟩, fun x ds' hR => ?_⟩
    obtain ⟨m', ns, e, rfl, e1, e2, hk⟩ := hR
    cases e
    exact hS ns ds' e1 e2 (hk n hc)))
def Pre__law_list (ds xs : List Dat) : Prop := ∃ (n : Nat) (m : Int), CrOk ds n ∧ n < 2 ^ 58 ∧ xs = [.int 4, .int m] ∧ 0 ≤ m ∧ m ≤ 9
def Rf__law_list (ds xs : List Dat) (x : Dat) (ds' : List Dat) : Prop := ∃ pl : List (List Int), x = .lst (pl.map w) ∧ pl.length ≤ 4 ∧ (∀ p ∈ pl, Bits p ∧ p.length ≤ 9) ∧ ∀ n, CrOk ds n → CrOk ds' (n + 10000)
theorem len__law_list {ds xs : List Dat} (h : Pre__law_list ds xs) : xs.length + 1 = 3 := by
  obtain ⟨_, _, _, _, rfl, _⟩ := h
  rfl
theorem ok__law_list {f : Addr} {fd : FuncData} (F : Fun K "_law_list" "_law_list" s__law_list f fd) {f__law_bits : Addr} {d__law_bits : FuncData} (C__law_bits : CalS P w0 K mg base "_law_bits" ["crate", "size"] 2 (PrC Rf__law_bits Pre__law_bits) f__law_bits d__law_bits) {f__law_haul : Addr} {d__law_haul : FuncData} (C__law_haul : CalS P w0 K mg base "_law_haul" ["crate", "below"] 1 (PrC Rf__law_haul Pre__law_haul) f__law_haul d__law_haul) (T : Bs mg) : FnOk P w0 K mg base CX0 3 f fd ["crate", "many_here", "size"] (PrC Rf__law_list Pre__law_list) := by
  refine fn_prC F sc__law_list (fun ds xs h => len__law_list h) fun cdv A outer s H E hr => ⟨_, (pss_one (ps_ret (pe_lc (own := [("k", 3)]) rfl sc__law_list.nd (pi_range1 (by rfl) T.range (pa_cons (pe_call C__law_haul.ok (hr.mono (by decide)) rfl C__law_haul.at_ C__law_haul.kp C__law_haul.bd .nil pass0 (pa_cons (pv 0) (pa_cons (pe_op op_add (pv 1) pe_int) pa_nil))) pa_nil)) (blkOk_by (own := [("k", 3)]) (N := N__law_list) (sc := defScope s__law_list) (by decide +kernel)) (fun _ _ _ _ _ => (pg_name (i := 3) sc__law_list.nd rfl (Or.inl rfl))) (fun _ _ _ _ _ => pts_nil) (fun _ _ _ _ _ => (pe_call C__law_bits.ok (hr.mono (by decide)) rfl C__law_bits.at_ C__law_bits.kp C__law_bits.bd .nil pass0 (pa_cons (pv 0) (pa_cons (pe_call C__law_haul.ok (hr.mono (by decide)) rfl C__law_haul.at_ C__law_haul.kp C__law_haul.bd .nil pass0 (pa_cons (pv 0) (pa_cons (pe_op op_add (pv 2) pe_int) pa_nil))) pa_nil))))))), ?_⟩
  rintro c ds xs ⟨n, m, hc, hn, rfl, hm, hm1⟩
  obtain ⟨n0, hle, hc0, hmin⟩ := hc.least
  have hz := big (n := 10) (by decide)
  refine runx_ret (ex_lcRX (j := 3) (fun n i δ zs => n ≤ 4 ∧ ∃ (ds' : List Dat) (pl : List (List Int)), δ = [.b c ds', .d (.int 4), .d (.int m), .no] ∧ zs = pl.map w ∧ pl.length = i ∧ (∀ p ∈ pl, Bits p ∧ p.length ≤ 9) ∧ CrOk ds' (n0 + 1 + 1001 * i)) (by decide)
    (exa_consC (ex_haul (.inr ⟨c, rfl⟩) (ev_op (ev_var rfl) ev_int r2_add) hc0 (by omega) (by decide) (by decide) fun d ds1 d0 d1 h1 => exa_nil ⟨d, rfl, by omega, by omega, by omega, ds1, [], rfl, rfl, rfl, (fun p hp => nomatch hp), h1⟩)) ?_ ?_ ?_)
  · rintro n i δ zs ⟨_, ds', pl, rfl, _⟩ v hv s hs
    rw [List.mem_singleton.mp hv] at hs
    cases hs
    rfl
  · rintro n i δ zs hi ⟨h4, ds', pl, rfl, rfl, hl, hp, hk⟩
    refine ex_bits (.inr ⟨c, rfl⟩) (ex_haul (.inr ⟨c, rfl⟩) (ev_op (ev_var rfl) ev_int r2_add) hk (by omega) (by omega) (by omega) fun d ds2 d0 d1 h2 => ⟨d, ds2, _, rfl, .inr ⟨c, rfl⟩, h2, by omega, d0, by omega, fun ns ds3 e1 e2 h3 => ⟨h4, ds3, pl ++ [ns], rfl, ?_, ?_, ?_, h3.mono (by omega)⟩⟩)
    · rw [List.map_append]
      rfl
    · rw [List.length_append, List.length_singleton, hl]
    · intro p q
      rcases List.mem_append.mp q with q | q
      · exact hp p q
      · rw [List.mem_singleton.mp q]
        exact ⟨e2, by omega⟩
  · rintro n δ zs ⟨h4, ds', pl, rfl, rfl, hl, hp, hk⟩
    exact ⟨ds', rfl, pl, rfl, by omega, hp, fun n' h' => hk.mono (by have := hmin n' h'; omega)⟩
def Pre__law_change (ds xs : List Dat) : Prop := ∃ (n : Nat) (ns : List Int), CrOk ds n ∧ n < 2 ^ 59 ∧ xs = [w ns] ∧ ns.length ≤ 10000
def Rf__law_change (ds xs : List Dat) (x : Dat) (ds' : List Dat) : Prop := (∀ ns, xs = [w ns] → Chg ns.length x) ∧ ∀ n, CrOk ds n → CrOk ds' (n + 3)
theorem len__law_change {ds xs : List Dat} (h : Pre__law_change ds xs) : xs.length + 1 = 2 := by
  obtain ⟨_, _, _, _, rfl, _⟩ := h
  rfl
theorem ok__law_change {f : Addr} {fd : FuncData} (F : Fun K "_law_change" "_law_change" s__law_change f fd) {f__law_haul : Addr} {d__law_haul : FuncData} (C__law_haul : CalS P w0 K mg base "_law_haul" ["crate", "below"] 1 (PrC Rf__law_haul Pre__law_haul) f__law_haul d__law_haul) (T : Bs mg) : FnOk P w0 K mg base CX0 2 f fd ["crate", "line"] (PrC Rf__law_change Pre__law_change) := by
  refine fn_prC F sc__law_change (fun ds xs h => len__law_change h) fun cdv A outer s H E hr => ⟨_, (pss_cons (ps_set (i := 2) sc__law_change.nd rfl (Or.inl rfl) (pe_call C__law_haul.ok (hr.mono (by decide)) rfl C__law_haul.at_ C__law_haul.kp C__law_haul.bd .nil pass0 (pa_cons (pv 0) (pa_cons pe_int pa_nil))))
      (pss_cons (ps_if (PW.pt (pw_or (pt_cmpR op_eq (pv 2) pe_int (nomark _)) (pw_or1 (pt_cmpR (op_eqK (K := K) rfl hr.units) (pv 1) (pe_tup pa_nil) (nomark _))))) (pss_one (ps_ret (pe_tup (pa_cons pe_str (pa_cons (pe_call C__law_haul.ok (hr.mono (by decide)) rfl C__law_haul.at_ C__law_haul.kp C__law_haul.bd .nil pass0 (pa_cons (pv 0) (pa_cons (pe_op op_add (pe_callB (call_lenK (K := K) rfl) (by rfl) T.len PySem.boot_len (pa_cons (pv 1) pa_nil)) pe_int) pa_nil))) (pa_cons (pe_call C__law_haul.ok (hr.mono (by decide)) rfl C__law_haul.at_ C__law_haul.kp C__law_haul.bd .nil pass0 (pa_cons (pv 0) (pa_cons pe_int pa_nil))) pa_nil)))))) pss_nil)
      (pss_one (ps_ret (pe_tup (pa_cons (pe_ix (ix_listK (K := K) rfl) (pe_lst (pa_cons pe_str (pa_cons pe_str pa_nil))) (pv 2) (fun _ _ => rfl)) (pa_cons (pe_call C__law_haul.ok (hr.mono (by decide)) rfl C__law_haul.at_ C__law_haul.kp C__law_haul.bd .nil pass0 (pa_cons (pv 0) (pa_cons (pe_callB (call_lenK (K := K) rfl) (by rfl) T.len PySem.boot_len (pa_cons (pv 1) pa_nil)) pa_nil))) pa_nil))))))), ?_⟩
  rintro c ds xs ⟨n, ns, hc, hn, rfl, hl⟩
  obtain ⟨n0, hle, hc0, hmin⟩ := hc.least
  have fin : ∀ (x : Dat) (ds' : List Dat) (γ : Gam), Chg ns.length x → CrOk ds' (n0 + 3) → γ[0]? = some (Slot.b c ds') → ∃ ds', γ[0]? = some (Slot.b c ds') ∧ Rf__law_change ds [w ns] x ds' := fun x ds' γ h1 h2 h3 => ⟨ds', h3, fun ms e => by
    have e2 : w ns = w ms := by injection e
    rw [← w_len e2]
    exact h1, fun n' h' => h2.mono (by have := hmin n' h'; omega)⟩
  refine run_seqC (runx_asg (ex_haul (.inr ⟨c, rfl⟩) ev_int hc0 (by omega) (by decide) (by decide) fun way ds1 a0 a1 h1 => ?_))
  refine run_seqC (run_if (et_or (et_test (ev_op (ev_var rfl) ev_int r2_eqI)) fun _ => et_test (ev_op (ev_var rfl) ev_w0 (r2_eqW (ms := [])))) (fun _ => ?_) fun hb => run_next ?_)
  · refine runx_ret (ex_tup (exa_consC (ex_of ev_str (exa_consC (ex_haul (.inr ⟨c, rfl⟩) (ev_op (ev_lenW (ev_var rfl)) ev_int r2_add) h1 (by omega) (by omega) (by omega) fun k ds2 k0 k1 h2 => exa_consC (ex_haul (.inr ⟨c, rfl⟩) ev_int h2 (by omega) (by decide) (by decide) fun b ds3 b0 b1 h3 => exa_nil ⟨by show 3 ≤ sizeLine; decide, fin _ ds3 _ ?_ (h3.mono (by omega)) rfl⟩))))))
    obtain ⟨k, rfl⟩ := Int.eq_ofNat_of_zero_le k0
    exact .inl ⟨k, b, rfl, by omega, by omega⟩
  · obtain ⟨w2, hne⟩ := Bool.or_eq_false_iff.mp hb
    have w2 := of_decide_eq_false w2
    have hne := of_decide_eq_false hne
    have hp : 0 < ns.length := by
      rcases Nat.eq_zero_or_pos ns.length with z | z
      · exact absurd (List.length_eq_zero_iff.mp z) hne
      · exact z
    have two : way = 0 ∨ way = 1 := by omega
    have pick : ∃ z, atI [Dat.str "flip", Dat.str "lose"] way = some z ∧ (z = .str "flip" ∨ z = .str "lose") := by
      rcases two with rfl | rfl
      · exact ⟨_, rfl, .inl rfl⟩
      · exact ⟨_, rfl, .inr rfl⟩
    obtain ⟨z, hz, hzz⟩ := pick
    refine runx_ret (ex_tup (exa_consC (ex_of (ev_ixL (er_ofN (en_lst (ea_cons ev_str (ea_cons ev_str ea_nil)) (by show 2 ≤ sizeLine; decide))) (ev_var rfl) hz) (exa_consC (ex_haul (.inr ⟨c, rfl⟩) (ev_lenW (ev_var rfl)) h1 (by omega) (by omega) (by omega) fun k ds2 k0 k1 h2 => exa_nil ⟨by show 2 ≤ sizeLine; decide, fin _ ds2 _ ?_ (h2.mono (by omega)) rfl⟩)))))
    obtain ⟨k, rfl⟩ := Int.eq_ofNat_of_zero_le k0
    refine .inr ⟨k, ?_, by omega⟩
    rcases hzz with rfl | rfl
    · exact .inl rfl
    · exact .inr rfl
def Pre__law_line (ds xs : List Dat) : Prop := ∃ (n : Nat) (r : Rule), CrOk ds n ∧ n < 2 ^ 57 ∧ xs = [r.dat, .int 90] ∧ Small r
def Rf__law_line (ds xs : List Dat) (x : Dat) (ds' : List Dat) : Prop := ∃ ns, x = w ns ∧ Bits ns ∧ ns.length ≤ 300 ∧ ∀ n, CrOk ds n → CrOk ds' (n + 20000)
theorem len__law_line {ds xs : List Dat} (h : Pre__law_line ds xs) : xs.length + 1 = 3 := by
  obtain ⟨_, _, _, _, rfl, _⟩ := h
  rfl
theorem ok__law_line {f : Addr} {fd : FuncData} (F : Fun K "_law_line" "_law_line" s__law_line f fd) {f__law_haul : Addr} {d__law_haul : FuncData} (C__law_haul : CalS P w0 K mg base "_law_haul" ["crate", "below"] 1 (PrC Rf__law_haul Pre__law_haul) f__law_haul d__law_haul) {f__law_stream : Addr} {d__law_stream : FuncData} (C__law_stream : CalS P w0 K mg base "_law_stream" ["rule_here", "many"] 3 (PrX Pre__law_stream Rf__law_stream) f__law_stream d__law_stream) {f__law_bits : Addr} {d__law_bits : FuncData} (C__law_bits : CalS P w0 K mg base "_law_bits" ["crate", "size"] 2 (PrC Rf__law_bits Pre__law_bits) f__law_bits d__law_bits) {f__law_list : Addr} {d__law_list : FuncData} (C__law_list : CalS P w0 K mg base "_law_list" ["crate", "many_here", "size"] 3 (PrC Rf__law_list Pre__law_list) f__law_list d__law_list) {f__law_spoilt : Addr} {d__law_spoilt : FuncData} (C__law_spoilt : CalS P w0 K mg base "_law_spoilt" ["line", "change_here"] 1 (PrX Pre__law_spoilt Rf__law_spoilt) f__law_spoilt d__law_spoilt) {f__law_change : Addr} {d__law_change : FuncData} (C__law_change : CalS P w0 K mg base "_law_change" ["crate", "line"] 2 (PrC Rf__law_change Pre__law_change) f__law_change d__law_change) (T : Bs mg) : FnOk P w0 K mg base CX0 4 f fd ["crate", "rule_here", "most"] (PrC Rf__law_line Pre__law_line) := by
  refine fn_prC F sc__law_line (fun ds xs h => len__law_line h) fun cdv A outer s H E hr => ⟨_, (pss_cons (ps_set (i := 3) sc__law_line.nd rfl (Or.inl rfl) (pe_call C__law_haul.ok (hr.mono (by decide)) rfl C__law_haul.at_ C__law_haul.kp C__law_haul.bd .nil pass0 (pa_cons (pv 0) (pa_cons pe_int pa_nil))))
      (pss_cons (ps_if (pt_cmpR op_eq (pv 3) pe_int (nomark _)) (pss_one (ps_ret (pe_call C__law_bits.ok (hr.mono (by decide)) rfl C__law_bits.at_ C__law_bits.kp C__law_bits.bd .nil pass0 (pa_cons (pv 0) (pa_cons (pe_call C__law_haul.ok (hr.mono (by decide)) rfl C__law_haul.at_ C__law_haul.kp C__law_haul.bd .nil pass0 (pa_cons (pv 0) (pa_cons (pe_callB (call_min2 rfl) (by rfl) T.min (by decide +kernel) (pa_cons (pv 2) (pa_cons pe_int pa_nil))) pa_nil))) pa_nil))))) pss_nil)
      (pss_cons (ps_set (i := 4) sc__law_line.nd rfl (Or.inl rfl) (pe_call C__law_stream.ok (hr.mono (by decide)) rfl C__law_stream.at_ C__law_stream.kp C__law_stream.bd .nil pass0 (pa_cons (pv 1) (pa_cons (pe_call C__law_list.ok (hr.mono (by decide)) rfl C__law_list.at_ C__law_list.kp C__law_list.bd .nil pass0 (pa_cons (pv 0) (pa_cons pe_int (pa_cons (pe_ix (ix_listK (K := K) rfl) (pe_lst (pa_cons pe_int (pa_cons pe_int pa_nil))) (pe_call C__law_haul.ok (hr.mono (by decide)) rfl C__law_haul.at_ C__law_haul.kp C__law_haul.bd .nil pass0 (pa_cons (pv 0) (pa_cons pe_int pa_nil))) (fun _ _ => rfl)) pa_nil)))) pa_nil))))
      (pss_cons (ps_for PassesOwn.never rfl (pi_range1 (by rfl) T.range (pa_cons (pe_ix (ix_listK (K := K) rfl) (pe_lst (pa_cons pe_int (pa_cons pe_int (pa_cons (pe_op op_add pe_int (pe_call C__law_haul.ok (hr.mono (by decide)) rfl C__law_haul.at_ C__law_haul.kp C__law_haul.bd .nil pass0 (pa_cons (pv 0) (pa_cons pe_int pa_nil)))) pa_nil)))) (pe_op op_sub (pv 3) pe_int) (fun _ _ => rfl)) pa_nil)) (pg_name (i := 5) sc__law_line.nd rfl (Or.inl rfl)) (pss_one (ps_set (i := 4) sc__law_line.nd rfl (Or.inl rfl) (pe_call C__law_spoilt.ok (hr.mono (by decide)) rfl C__law_spoilt.at_ C__law_spoilt.kp C__law_spoilt.bd .nil pass0 (pa_cons (pv 4) (pa_cons (pe_call C__law_change.ok (hr.mono (by decide)) rfl C__law_change.at_ C__law_change.kp C__law_change.bd .nil pass0 (pa_cons (pv 0) (pa_cons (pv 4) pa_nil))) pa_nil))))))
      (pss_cons (ps_if (pt_cmpR op_eq (pe_call C__law_haul.ok (hr.mono (by decide)) rfl C__law_haul.at_ C__law_haul.kp C__law_haul.bd .nil pass0 (pa_cons (pv 0) (pa_cons pe_int pa_nil))) pe_int (nomark _)) (pss_one (ps_set (i := 4) sc__law_line.nd rfl (Or.inl rfl) (pe_slice (sl_tupK (K := K) rfl) (pv 4) (po_some (pe_call C__law_haul.ok (hr.mono (by decide)) rfl C__law_haul.at_ C__law_haul.kp C__law_haul.bd .nil pass0 (pa_cons (pv 0) (pa_cons (pe_op op_add (pe_callB (call_lenK (K := K) rfl) (by rfl) T.len PySem.boot_len (pa_cons (pv 4) pa_nil)) pe_int) pa_nil)))) po_none))) pss_nil)
      (pss_one (ps_ret (pe_slice (sl_tupK (K := K) rfl) (pv 4) po_none (po_some (pv 2)))))))))), ?_⟩
  rintro c ds xs ⟨n, r, hc, hn, rfl, G⟩
  obtain ⟨n0, hle, hc0, hmin⟩ := hc.least
  have fin : ∀ (ns : List Int) (ds' : List Dat) (γ : Gam), Bits ns → ns.length ≤ 300 → CrOk ds' (n0 + 20000) → γ[0]? = some (Slot.b c ds') → ∃ ds', γ[0]? = some (Slot.b c ds') ∧ Rf__law_line ds [r.dat, .int 90] (w ns) ds' := fun ns ds' γ h1 h2 h3 h4 => ⟨ds', h4, ns, rfl, h1, h2, fun n' h' => h3.mono (by have := hmin n' h'; omega)⟩
  refine run_seqC (runx_asg (ex_haul (.inr ⟨c, rfl⟩) ev_int hc0 (by omega) (by decide) (by decide) fun way ds1 a0 a1 h1 => ?_))
  refine run_seqC (run_if (et_test (ev_op (ev_var rfl) ev_int r2_eqI)) (fun _ => ?_) fun hb => run_next ?_)
  · refine runx_ret (ex_bits (.inr ⟨c, rfl⟩) (ex_haul (m := 30) (.inr ⟨c, rfl⟩) (ev_is (ev_cb (ea_cons (ev_var rfl) (ea_cons ev_int ea_nil)) rc_min2) rfl) h1 (by omega) (by decide) (by decide) fun d ds2 d0 d1 h2 => ⟨d, ds2, _, rfl, .inr ⟨c, rfl⟩, h2, by omega, d0, by omega, fun ns ds3 e1 e2 h3 => fin ns ds3 _ e2 (by omega) (h3.mono (by omega)) rfl⟩))
  · have hw := of_decide_eq_false hb
    have pick : ∀ d : Int, 0 ≤ d → d < 2 → ∃ z : Int, atI [Dat.int 3, Dat.int 9] d = some (.int z) ∧ 0 ≤ z ∧ z ≤ 9 := fun d d0 d1 => by
      have two : d = 0 ∨ d = 1 := by omega
      rcases two with rfl | rfl
      · exact ⟨3, rfl, by decide, by decide⟩
      · exact ⟨9, rfl, by decide, by decide⟩
    refine run_seqC (runx_asg (ex_callX (exa_consC (ex_of (ev_var rfl) (exa_consC (ex_lend (.inr ⟨c, rfl⟩) (exa_consC (ex_of ev_int (exa_consC (ex_opC (ex_of (ev_ofN (en_lst (ea_cons ev_int (ea_cons ev_int ea_nil)) (by show 2 ≤ sizeLine; decide))) (ex_haul (.inr ⟨c, rfl⟩) ev_int h1 (by omega) (by decide) (by decide) fun d ds2 d0 d1 h2 => ?_))))))))))))
    obtain ⟨z, hz, z0, z9⟩ := pick d d0 d1
    refine ⟨_, r2_ixL hz, exa_nil ⟨ds2, .inr ⟨c, rfl⟩, ⟨_, z, h2, by omega, rfl, z0, z9⟩, fun x ds3 hR => exa_nil ?_⟩⟩
    obtain ⟨pl, rfl, p1, p2, hk⟩ := hR
    refine ⟨⟨r, pl, G, p1, p2, rfl⟩, fun y hy => ?_⟩
    obtain ⟨l0, rfl, b0, s0⟩ := hy
    have h3 := hk _ h2
    have way3 : way = 1 ∨ way = 2 ∨ way = 3 := by omega
    have pick2 : ∀ d : Int, 0 ≤ d → d < 3 → ∃ z : Int, atI [Dat.int 0, Dat.int 1, Dat.int (1 + d)] (way - 1) = some (.int z) ∧ 0 ≤ z ∧ z ≤ 3 := fun d d0 d1 => by
      rcases way3 with rfl | rfl | rfl
      · exact ⟨0, rfl, by decide, by decide⟩
      · exact ⟨1, rfl, by decide, by decide⟩
      · exact ⟨1 + d, rfl, by omega, by omega⟩
    refine run_seqC (runx_forR (fun n i δ => n ≤ 3 ∧ ∃ ds' ls t, δ = [.b c ds', .d r.dat, .d (.int 90), .d (.int way), .d (w ls), t] ∧ Bits ls ∧ ls.length ≤ 200 + i ∧ CrOk ds' (n0 + 11000 + 10 * i))
      (exa_consC (ex_opC (ex_lst (exa_consC (ex_of ev_int (exa_consC (ex_of ev_int (exa_consC (ex_opC (ex_of ev_int (ex_haul (.inr ⟨c, rfl⟩) ev_int h3 (by omega) (by decide) (by decide) fun d ds4 d0 d1 h4 => ⟨_, r2_add, exa_nil ⟨by show 3 ≤ sizeLine; decide, ?_⟩⟩))))))))))) ?_ ?_)
    · obtain ⟨z, hz, z0, z3⟩ := pick2 d d0 d1
      exact ex_of (ev_op (ev_var rfl) ev_int r2_sub) ⟨_, r2_ixL hz, exa_nil ⟨z, rfl, by omega, by omega, z3, ds4, l0, _, rfl, b0, s0, h4.mono (by omega)⟩⟩
    · rintro n i δ hi ⟨n3, ds', ls, t, rfl, b1, s1, h4⟩
      refine runx_asg (ex_callX (exa_consC (ex_of (ev_var rfl) (exa_consC (ex_lend (.inr ⟨c, rfl⟩) (exa_of (ea_cons (ev_var rfl) ea_nil) ⟨ds', .inr ⟨c, rfl⟩, ⟨_, ls, h4, by omega, rfl, by omega⟩, fun x ds5 hR => exa_nil ?_⟩))))))
      refine ⟨⟨ls, x, b1, by omega, hR.1 ls rfl, rfl⟩, fun y hy => ?_⟩
      obtain ⟨ms, rfl, b2, s2⟩ := hy
      have s3 := s2 ls x rfl
      exact ⟨n3, ds5, ms, _, rfl, b2, by omega, (hR.2 _ h4).mono (by omega)⟩
    · rintro n δ ⟨n3, ds', ls, t, rfl, b1, s1, h4⟩
      refine run_seq (M := fun δ => ∃ ds' ms, δ = [.b c ds', .d r.dat, .d (.int 90), .d (.int way), .d (w ms), t] ∧ Bits ms ∧ ms.length ≤ 300 ∧ CrOk ds' (n0 + 20000)) (runx_ifC (ext_test (ex_opC (ex_haul (.inr ⟨c, rfl⟩) ev_int h4 (by omega) (by decide) (by decide) fun d ds5 d0 d1 h5 => ex_of ev_int ⟨_, r2_eqI, _, rfl, fun _ => ?_, fun _ => run_next ⟨ds5, ls, rfl, b1, by omega, h5.mono (by omega)⟩⟩)))) ?_
      · refine runx_asg (ex_cut (ex_of (ev_var rfl) ⟨ls, rfl, exo_some (ex_haul (.inr ⟨c, rfl⟩) (ev_op (ev_lenW (ev_var rfl)) ev_int r2_add) h5 (by omega) (by omega) (by omega) fun k ds6 k0 k1 h6 => ⟨k, rfl, exo_none ⟨ds6, _, rfl, ?_, ?_, h6.mono (by omega)⟩⟩)⟩))
        · obtain ⟨k, rfl⟩ := Int.eq_ofNat_of_zero_le k0
          rw [cutI_from]
          exact b1.drop _
        · obtain ⟨k, rfl⟩ := Int.eq_ofNat_of_zero_le k0
          rw [cutI_from, List.length_drop]
          omega
      · rintro δ ⟨ds5, ms, rfl, m1, m2, m3⟩
        refine run_ret (ev_cut (ev_var rfl) eo_none (eo_some (ev_var rfl))) ?_
        rw [show (90 : Int) = ((90 : Nat) : Int) from rfl, cutI_to]
        exact fin _ ds5 _ (m1.take _) (by rw [List.length_take]; omega) m3 rfl
end
end Fr

set_option Elab.async false
set_option linter.all false
set_option maxRecDepth 100000
set_option maxHeartbeats 4000000
namespace Fr
open PySem PySem.Spec PyProof.Rows L2
open Evl (Ex)
abbrev s__law_drawn_rule : Stmt := topS 31
abbrev N__law_drawn_rule : List Str := ["crate", "flag_here", "word_here", "many_here", "top", "flag", "known", "k", "word", "rows", "number"]
theorem sc__law_drawn_rule : FnScope N__law_drawn_rule ["crate", "flag_here", "word_here", "many_here", "top"] (defScope s__law_drawn_rule) := ⟨rfl, rfl, rfl, by decide +kernel, rfl, by decide +kernel, by decide +kernel⟩
section
variable {P : Program} {w0 : World} {K : PySem.W.Frag} {mg : Str → Option Value} {base : Heap}
theorem bits_all {ns : List Int} (h : Bits ns) : ns.all isB = true := List.all_eq_true.mpr fun b hb => by
  rcases h b hb with rfl | rfl <;> rfl
theorem has_keys {es : List (List L2.Key × Dat)} {ks : List (List Int)} (hk : es.map (·.1) = ks.map kw) (k : List Int) : es.any (fun e => decide (e.1 = kw k)) = decide (k ∈ ks) := by
  have e : es.any (fun e => decide (e.1 = kw k)) = (es.map (·.1)).any (fun q => decide (q = kw k)) := by
    rw [List.any_map]
    rfl
  rw [e, hk, List.any_map]
  by_cases h : k ∈ ks
  · rw [decide_eq_true h]
    exact List.any_eq_true.mpr ⟨k, h, decide_eq_true rfl⟩
  · rw [decide_eq_false h]
    refine List.any_eq_false.mpr fun q hq => ?_
    show ¬ decide (kw q = kw k) = true
    rw [decide_eq_true_eq]
    intro z
    exact h (kw_inj z ▸ hq)
theorem keys_put {es : List (List L2.Key × Dat)} {ks : List (List Int)} (hk : es.map (·.1) = ks.map kw) (k : List Int) (x : Dat) : (putE es (kw k) x).map (·.1) = (if k ∈ ks then ks else ks ++ [k]).map kw := by
  unfold putE
  rw [has_keys hk k]
  by_cases h : k ∈ ks
  · rw [decide_eq_true h, if_pos rfl, if_pos h, ← hk, List.map_map]
    refine List.map_congr_left fun e _ => ?_
    show (if e.1 = kw k then (e.1, x) else e).1 = e.1
    split <;> rfl
  · rw [decide_eq_false h, if_neg (by decide), if_neg h, List.map_append, List.map_append, hk]
    rfl
theorem lk_key {es : List (List L2.Key × Dat)} {ks : List (List Int)} (hk : es.map (·.1) = ks.map kw) {k : List Int} (h : k ∈ ks) {P : Dat → Prop} (hp : ∀ e ∈ es, P e.2) : ∃ x, lk es (kw k) = some x ∧ P x := by
  have a := has_keys hk k
  rw [decide_eq_true h] at a
  obtain ⟨e, he, h2⟩ := List.any_eq_true.mp a
  cases q : lk es (kw k) with
  | some x => exact ⟨x, rfl, lk_val hp q⟩
  | none =>
    unfold lk at q
    rw [Option.map_eq_none_iff] at q
    exact absurd h2 (by rw [List.find?_eq_none.mp q e he |> Bool.eq_false_iff.mpr]; decide)
def Bit1 (x : Dat) : Prop := ∃ b : Int, x = .int b ∧ (b = 0 ∨ b = 1)
def valI (es : List (List L2.Key × Dat)) (k : List Int) : Int := match lk es (kw k) with
  | some (.int b) => b
  | _ => 0
theorem srtd_next {ks : List (List Int)} (nd : ks.Nodup) (i : Nat) (p q : List Int) (h1 : (sortW ks)[i]? = some p) (h2 : (sortW ks)[i + 1]? = some q) : HT.lexLt p q = true := by
  have hs := sortW_srtd ks
  have hn : (sortW ks).Nodup := (sortW_perm ks).nodup_iff.mpr nd
  obtain ⟨i1, e1⟩ := List.getElem?_eq_some_iff.mp h1
  obtain ⟨i2, e2⟩ := List.getElem?_eq_some_iff.mp h2
  have a := List.pairwise_iff_getElem.mp hs i (i + 1) i1 i2 (by omega)
  have b := List.pairwise_iff_getElem.mp hn i (i + 1) i1 i2 (by omega)
  rw [e1, e2] at a b
  cases z : HT.lexLt p q with
  | true => rfl
  | false => exact absurd (lex_tri p q z a) b
structure Drawn (r : Rule) : Prop where
  small : Small r
  order : ∀ (i : Nat) (p q : List Int × Int), r.ins[i]? = some p → r.ins[i + 1]? = some q → HT.lexLt p.1 q.1 = true
  uniq : ∀ p ∈ r.ins, ∀ q ∈ r.ins, p.1 = q.1 → p.2 = q.2
def Pre__law_drawn_rule (ds xs : List Dat) : Prop := ∃ (n : Nat) (fl wl m top : Int), CrOk ds n ∧ n < 2 ^ 57 ∧ xs = [.int fl, .int wl, .int m, .int top] ∧ (1 ≤ fl ∧ fl ≤ 16) ∧ (1 ≤ wl ∧ wl ≤ 16) ∧ (0 ≤ m ∧ m ≤ 8) ∧ 1 ≤ top ∧ top ≤ 16
def Rf__law_drawn_rule (ds xs : List Dat) (x : Dat) (ds' : List Dat) : Prop := ∃ r : Rule, x = r.dat ∧ Drawn r ∧ ∀ n, CrOk ds n → CrOk ds' (n + 50000)
theorem len__law_drawn_rule {ds xs : List Dat} (h : Pre__law_drawn_rule ds xs) : xs.length + 1 = 5 := by
  obtain ⟨_, _, _, _, _, _, _, rfl, _⟩ := h
  rfl
theorem ok__law_drawn_rule {f : Addr} {fd : FuncData} (F : Fun K "_law_drawn_rule" "_law_drawn_rule" s__law_drawn_rule f fd) {f__law_bits : Addr} {d__law_bits : FuncData} (C__law_bits : CalS P w0 K mg base "_law_bits" ["crate", "size"] 2 (PrC Rf__law_bits Pre__law_bits) f__law_bits d__law_bits) {f__law_haul : Addr} {d__law_haul : FuncData} (C__law_haul : CalS P w0 K mg base "_law_haul" ["crate", "below"] 1 (PrC Rf__law_haul Pre__law_haul) f__law_haul d__law_haul) (T : Bs mg) : FnOk P w0 K mg base CX0 3 f fd ["crate", "flag_here", "word_here", "many_here", "top"] (PrC Rf__law_drawn_rule Pre__law_drawn_rule) := by
  refine fn_prC F sc__law_drawn_rule (fun ds xs h => len__law_drawn_rule h) fun cdv A outer s H E hr => ⟨_, (pss_cons (ps_asg (pe_tup (pa_cons (pe_call C__law_bits.ok (hr.mono (by decide)) rfl C__law_bits.at_ C__law_bits.kp C__law_bits.bd .nil pass0 (pa_cons (pv 0) (pa_cons (pe_op op_add pe_int (pe_call C__law_haul.ok (hr.mono (by decide)) rfl C__law_haul.at_ C__law_haul.kp C__law_haul.bd .nil pass0 (pa_cons (pv 0) (pa_cons (pv 1) pa_nil)))) pa_nil))) (pa_cons pe_dnewT pa_nil))) (pg_tupK (K := K) 2 rfl rfl (pgs_cons (pg_name (i := 5) sc__law_drawn_rule.nd rfl (Or.inl rfl)) (pgs_cons (pg_name (i := 6) sc__law_drawn_rule.nd rfl (Or.inr rfl)) pgs_nil))))
      (pss_cons (ps_for PassesOwn.never rfl (pi_range1 (by rfl) T.range (pa_cons (pe_call C__law_haul.ok (hr.mono (by decide)) rfl C__law_haul.at_ C__law_haul.kp C__law_haul.bd .nil pass0 (pa_cons (pv 0) (pa_cons (pe_op op_add (pv 3) pe_int) pa_nil))) pa_nil)) (pg_name (i := 7) sc__law_drawn_rule.nd rfl (Or.inl rfl)) (pss_cons (ps_set (i := 8) sc__law_drawn_rule.nd rfl (Or.inl rfl) (pe_call C__law_bits.ok (hr.mono (by decide)) rfl C__law_bits.at_ C__law_bits.kp C__law_bits.bd .nil pass0 (pa_cons (pv 0) (pa_cons (pe_op op_add pe_int (pe_call C__law_haul.ok (hr.mono (by decide)) rfl C__law_haul.at_ C__law_haul.kp C__law_haul.bd .nil pass0 (pa_cons (pv 0) (pa_cons (pv 2) pa_nil)))) pa_nil))))
      (pss_cons (ps_if (pt_cmpR op_eq (pe_call C__law_haul.ok (hr.mono (by decide)) rfl C__law_haul.at_ C__law_haul.kp C__law_haul.bd .nil pass0 (pa_cons (pv 0) (pa_cons pe_int pa_nil))) pe_int (nomark _)) (pss_one (ps_set (i := 8) sc__law_drawn_rule.nd rfl (Or.inl rfl) (pe_slice (sl_tupK (K := K) rfl) (pe_slice (sl_tupK (K := K) rfl) (pv 5) po_none (po_some (pe_callB (call_min2 rfl) (by rfl) T.min (by decide +kernel) (pa_cons (pe_callB (call_lenK (K := K) rfl) (by rfl) T.len PySem.boot_len (pa_cons (pv 5) pa_nil)) (pa_cons (pv 2) pa_nil))))) po_none (po_some (pe_op op_add pe_int (pe_call C__law_haul.ok (hr.mono (by decide)) rfl C__law_haul.at_ C__law_haul.kp C__law_haul.bd .nil pass0 (pa_cons (pv 0) (pa_cons (pv 2) pa_nil)))))))) pss_nil)
      (pss_one (ps_dput (hu_of hr) (pv 6) (pv 8) (pe_call C__law_haul.ok (hr.mono (by decide)) rfl C__law_haul.at_ C__law_haul.kp C__law_haul.bd .nil pass0 (pa_cons (pv 0) (pa_cons pe_int pa_nil))) rfl)))))
      (pss_cons (ps_set (i := 9) sc__law_drawn_rule.nd rfl (Or.inl rfl) (pe_callTy (call_tupK (K := K) rfl) (by rfl) T.tuple (by decide +kernel) (pa_cons (pe_lc (own := [("word", 8)]) rfl sc__law_drawn_rule.nd (pi_listK (K := K) rfl (pe_callB (cr_sortedIK (K := K) rfl) (by rfl) T.sorted (by decide +kernel) (pa_cons (pe_callTy (call_list_dT rfl) (by rfl) T.list (by decide +kernel) (pa_cons (pv 6) pa_nil)) pa_nil))) (blkOk_by (own := [("word", 8)]) (N := N__law_drawn_rule) (sc := defScope s__law_drawn_rule) (by decide +kernel)) (fun _ _ _ _ _ => (pg_name (i := 8) sc__law_drawn_rule.nd rfl (Or.inl rfl))) (fun _ _ _ _ _ => pts_nil) (fun _ _ _ _ _ => (pe_tup (pa_cons (pv 8) (pa_cons (pe_dget (hu_of hr) (pv 6) (pv 8) (fun _ _ => rfl)) pa_nil))))) pa_nil)))
      (pss_cons (ps_set (i := 10) sc__law_drawn_rule.nd rfl (Or.inl rfl) (pe_ix (ix_listK (K := K) rfl) (pe_lst (pa_cons pe_int (pa_cons pe_int (pa_cons pe_int (pa_cons (pe_op op_add pe_int (pe_call C__law_haul.ok (hr.mono (by decide)) rfl C__law_haul.at_ C__law_haul.kp C__law_haul.bd .nil pass0 (pa_cons (pv 0) (pa_cons (pv 4) pa_nil)))) pa_nil))))) (pe_call C__law_haul.ok (hr.mono (by decide)) rfl C__law_haul.at_ C__law_haul.kp C__law_haul.bd .nil pass0 (pa_cons (pv 0) (pa_cons pe_int pa_nil))) (fun _ _ => rfl)))
      (pss_one (ps_ret (pe_tup (pa_cons (pv 5) (pa_cons (pv 9) (pa_cons (pe_callB (call_min2 rfl) (by rfl) T.min (by decide +kernel) (pa_cons (pv 10) (pa_cons (pv 4) pa_nil))) pa_nil)))))))))), ?_⟩
  rintro c ds xs ⟨n, fl, wl, m, top, hc, hn, rfl, hfl, hwl, hm, ht⟩
  obtain ⟨n0, hle, hc0, hmin⟩ := hc.least
  refine run_seqC (runx_tupM (ex_bits (.inr ⟨c, rfl⟩) (ex_opC (ex_of ev_int (ex_haul (.inr ⟨c, rfl⟩) (ev_var rfl) hc0 (by omega) (by omega) (by omega) fun d ds1 d0 d1 h1 => ⟨_, r2_add, 1 + d, ds1, _, rfl, .inr ⟨c, rfl⟩, h1, by omega, by omega, by omega, fun flag ds2 f1 f2 h2 => ⟨[], em_new, ?_⟩⟩)))))
  refine run_seq (M := fun δ => ∃ (ds' : List Dat) (ks : List (List Int)) (es : List (List L2.Key × Dat)) (s t : Slot), δ = [.b c ds', .d (.int fl), .d (.int wl), .d (.int m), .d (.int top), .d (w flag), .od es, s, t, .no, .no] ∧ es.map (·.1) = ks.map kw ∧ ks.Nodup ∧ (∀ k ∈ ks, Bits k ∧ 0 < k.length ∧ k.length ≤ 16) ∧ (∀ e ∈ es, Bit1 e.2) ∧ ks.length ≤ 8 ∧ CrOk ds' (n0 + 20000))
    (runx_forR (fun n i δ => n ≤ m ∧ ∃ (ds' : List Dat) (ks : List (List Int)) (es : List (List L2.Key × Dat)) (s t : Slot), δ = [.b c ds', .d (.int fl), .d (.int wl), .d (.int m), .d (.int top), .d (w flag), .od es, s, t, .no, .no] ∧ es.map (·.1) = ks.map kw ∧ ks.Nodup ∧ (∀ k ∈ ks, Bits k ∧ 0 < k.length ∧ k.length ≤ 16) ∧ (∀ e ∈ es, Bit1 e.2) ∧ ks.length ≤ i ∧ CrOk ds' (n0 + 2000 + 1100 * i))
      (exa_consC (ex_haul (.inr ⟨c, rfl⟩) (ev_op (ev_var rfl) ev_int r2_add) h2 (by omega) (by omega) (by omega) fun d ds3 d0 d1 h3 => exa_nil ⟨d, rfl, by omega, by omega, by omega, ds3, [], [], _, _, rfl, rfl, List.nodup_nil, (fun _ h => nomatch h), (fun _ h => nomatch h), Nat.le_refl _, h3.mono (by omega)⟩)) ?_ ?_) ?_
  · rintro n i δ hi ⟨hnm, ds', ks, es, s, t, rfl, hk, nd, hks, hes, hl, h4⟩
    refine run_seqC (runx_asg (ex_bits (.inr ⟨c, rfl⟩) (ex_opC (ex_of ev_int (ex_haul (.inr ⟨c, rfl⟩) (ev_var rfl) h4 (by omega) (by omega) (by omega) fun d ds5 d0 d1 h5 => ⟨_, r2_add, 1 + d, ds5, _, rfl, .inr ⟨c, rfl⟩, h5, by omega, by omega, by omega, fun wd ds6 w1 w2 h6 => ?_⟩)))))
    refine run_seq (M := fun δ => ∃ ds' wd, δ = [.b c ds', .d (.int fl), .d (.int wl), .d (.int m), .d (.int top), .d (w flag), .od es, .d (.int (i : Int)), .d (w wd), .no, .no] ∧ Bits wd ∧ 0 < wd.length ∧ wd.length ≤ 16 ∧ CrOk ds' (n0 + 2000 + 1100 * i + 1003))
      (runx_ifC (ext_test (ex_opC (ex_haul (.inr ⟨c, rfl⟩) ev_int h6 (by omega) (by decide) (by decide) fun d7 ds7 _ _ h7 => ex_of ev_int ⟨_, r2_eqI, _, rfl, fun _ => ?_, fun _ => run_next ⟨ds7, wd, rfl, w2, by omega, by omega, h7.mono (by omega)⟩⟩)))) ?_
    · obtain ⟨a, ha⟩ := Int.eq_ofNat_of_zero_le (a := if wl < (flag.length : Int) then wl else (flag.length : Int)) (by split <;> omega)
      have ha2 : 1 ≤ a ∧ a ≤ 16 ∧ a ≤ flag.length := by
        have : (if wl < (flag.length : Int) then wl else (flag.length : Int)) = (a : Int) := ha
        split at this <;> omega
      refine runx_asg (ex_cut (ex_of (ev_is (ev_cut (ev_var rfl) eo_none (eo_some (ev_is (ev_cb (ea_cons (ev_lenW (ev_var rfl)) (ea_cons (ev_var rfl) ea_nil)) rc_min2) (congrArg Dat.int ha)))) (congrArg w (cutI_to flag a))) ⟨_, rfl, exo_none (exo_some (ex_opC (ex_of ev_int (ex_haul (.inr ⟨c, rfl⟩) (ev_var rfl) h7 (by omega) (by omega) (by omega) fun d8 ds8 e0 e1 h8 => ⟨_, r2_add, 1 + d8, rfl, ds8, _, rfl, ?_, ?_, ?_, h8.mono (by omega)⟩))))⟩))
      all_goals obtain ⟨q, hq⟩ := Int.eq_ofNat_of_zero_le (a := 1 + d8) (by omega)
      all_goals rw [hq, cutI_to]
      · exact (f2.take _).take _
      · rw [List.length_take, List.length_take]
        omega
      · rw [List.length_take, List.length_take]
        omega
    · rintro δ ⟨ds9, wd, rfl, w2, w3, w4, h9⟩
      have hel : es.length = ks.length := by
        have := congrArg List.length hk
        rwa [List.length_map, List.length_map] at this
      refine runx_dput (ns := wd) (ex_haul (.inr ⟨c, rfl⟩) ev_int h9 (by omega) (by decide) (by decide) fun b ds10 b0 b1 h10 => ⟨es, rfl, ev_var rfl, by rw [hel]; exact big (by omega), hnm, ds10, if wd ∈ ks then ks else ks ++ [wd], _, _, _, rfl, keys_put hk wd _, ?_, ?_, ?_, ?_, h10.mono (by omega)⟩)
      · split
        · exact nd
        · rename_i hx
          exact List.nodup_append.mpr ⟨nd, List.pairwise_singleton _ _, fun a ha b hb e => hx (by rw [List.mem_singleton.mp hb] at e; exact e ▸ ha)⟩
      · intro k hk'
        split at hk'
        · exact hks k hk'
        · rcases List.mem_append.mp hk' with q | q
          · exact hks k q
          · rw [List.mem_singleton.mp q]
            exact ⟨w2, w3, w4⟩
      · intro e he
        rcases mem_putE he with q | q
        · exact hes e q
        · rw [q]
          exact ⟨b, rfl, by omega⟩
      · split
        · omega
        · rw [List.length_append, List.length_singleton]
          omega
  · rintro n δ ⟨hnm, ds', ks, es, s, t, rfl, hk, nd, hks, hes, hl, h4⟩
    exact ⟨ds', ks, es, s, t, rfl, hk, nd, hks, hes, by omega, h4.mono (by omega)⟩
  · rintro δ ⟨ds', ks, es, s, t, rfl, hk, nd, hks, hes, hl, h4⟩
    have val : ∀ k ∈ sortW ks, lk es (kw k) = some (.int (valI es k)) ∧ (valI es k = 0 ∨ valI es k = 1) := fun k hk' => by
      obtain ⟨x, hx, b, rfl, hb⟩ := lk_key hk ((sortW_perm ks).mem_iff.mp hk') (P := Bit1) hes
      unfold valI
      rw [hx]
      exact ⟨rfl, hb⟩
    have sl : (sortW ks).length = ks.length := (sortW_perm ks).length_eq
    refine run_seq1 (run_asg (ev_is (ev_tupL (er_ofN (en_lcL (js := [8]) (l := sortW ks) (enc := w) (f := fun _ => true) (v := fun k => rowD (k, valI es k)) (er_ofN (en_sorted (er_ofN (en_listD (ek_var rfl) hk)) fun k hk' => (hks k hk').2.1)) (by decide) (by rw [sl]; exact big (by omega)) fun k hk' => ⟨_, tg_name 8, et_yes, fun _ => ev_tup (ea_cons (ev_var rfl) (ea_cons (ev_dget (ek_var rfl) (ev_var rfl) (val k hk').1) ea_nil)) (by show 2 ≤ sizeLine; decide)⟩))) (y := .tup (((sortW ks).map fun k => (k, valI es k)).map rowD)) (by rw [filter_yes, List.map_map]; rfl)) rfl) ?_
    refine run_seqC (runx_asg (ex_opC (ex_lst (exa_consC (ex_of ev_int (exa_consC (ex_of ev_int (exa_consC (ex_of ev_int (exa_consC (ex_opC (ex_of ev_int (ex_haul (.inr ⟨c, rfl⟩) (ev_var rfl) h4 (by omega) (by omega) (by omega) fun d ds5 d0 d1 h5 => ⟨_, r2_add, exa_nil ⟨by show 4 ≤ sizeLine; decide, ex_haul (.inr ⟨c, rfl⟩) ev_int h5 (by omega) (by decide) (by decide) fun i ds6 i0 i1 h6 => ?_⟩⟩)))))))))))))
    obtain ⟨z, hz, z0, z1⟩ : ∃ z : Int, atI [Dat.int 1, Dat.int 1, Dat.int 2, Dat.int (1 + d)] i = some (.int z) ∧ 1 ≤ z ∧ z ≤ 17 := by
      have four : i = 0 ∨ i = 1 ∨ i = 2 ∨ i = 3 := by omega
      rcases four with rfl | rfl | rfl | rfl
      · exact ⟨1, rfl, by decide, by decide⟩
      · exact ⟨1, rfl, by decide, by decide⟩
      · exact ⟨2, rfl, by decide, by decide⟩
      · exact ⟨1 + d, rfl, by omega, by omega⟩
    refine ⟨_, r2_ixL hz, ?_⟩
    refine run_ret (ev_tup (ea_cons (ev_var rfl) (ea_cons (ev_var rfl) (ea_cons (ev_cb (ea_cons (ev_var rfl) (ea_cons (ev_var rfl) ea_nil)) rc_min2) ea_nil))) (by show 3 ≤ sizeLine; decide)) ⟨ds6, rfl, ⟨flag, (sortW ks).map fun k => (k, valI es k), if top < z then top else z⟩, rfl, ⟨⟨f2, by show 0 < flag.length; omega, by show flag.length ≤ 16; omega, ⟨?_, ?_⟩, ?_, ?_⟩, ?_, fun p hp q hq e => by
      obtain ⟨k, _, rfl⟩ := List.mem_map.mp hp
      obtain ⟨k', _, rfl⟩ := List.mem_map.mp hq
      have e' : k = k' := e
      rw [e']⟩, fun n' h' => h6.mono (by have := hmin n' h'; omega)⟩
    · rw [List.length_map]
      omega
    · intro p hp
      obtain ⟨k, hk', rfl⟩ := List.mem_map.mp hp
      obtain ⟨a1, a2, a3⟩ := hks k ((sortW_perm ks).mem_iff.mp hk')
      exact ⟨a1, a2, by show k.length ≤ 1000; omega, (val k hk').2⟩
    · show 1 ≤ if top < z then top else z
      split <;> omega
    · show (if top < z then top else z) ≤ 16
      split <;> omega
    · intro i p q hp hq
      rw [List.getElem?_map] at hp hq
      cases e1 : (sortW ks)[i]? with
      | none =>
        rw [e1] at hp
        cases hp
      | some a =>
        rw [e1] at hp
        cases e2 : (sortW ks)[i + 1]? with
        | none =>
          rw [e2] at hq
          cases hq
        | some b =>
          rw [e2] at hq
          cases hp
          cases hq
          exact srtd_next nd i a b e1 e2
end
end Fr

set_option Elab.async false
set_option linter.all false
set_option maxRecDepth 100000
set_option maxHeartbeats 4000000
namespace Fr
open PySem PySem.Spec PyProof.Rows L2
open Evl (Ex)
abbrev s__law_rule : Stmt := topS 39
abbrev N__law_rule : List Str := ["crate", "way", "size"]
theorem sc__law_rule : FnScope N__law_rule ["crate"] (defScope s__law_rule) := ⟨rfl, rfl, rfl, by decide +kernel, rfl, by decide +kernel, by decide +kernel⟩
abbrev s__law_long_line : Stmt := topS 41
abbrev N__law_long_line : List Str := ["crate", "rule_here", "way", "pick", "line", "size", "k", "text_here"]
theorem sc__law_long_line : FnScope N__law_long_line ["crate", "rule_here"] (defScope s__law_long_line) := ⟨rfl, rfl, rfl, by decide +kernel, rfl, by decide +kernel, by decide +kernel⟩
section
variable {P : Program} {w0 : World} {K : PySem.W.Frag} {mg : Str → Option Value} {base : Heap}
theorem Bits.rep {ns : List Int} (h : Bits ns) (k : Nat) : Bits (repW k ns) := fun b hb => by
  unfold repW at hb
  obtain ⟨l, hl, hb⟩ := List.mem_flatten.mp hb
  rw [List.eq_of_mem_replicate hl] at hb
  exact h b hb
theorem drawn_one {flag k : List Int} {b chk : Int} (f : Bits flag) (f0 : 0 < flag.length) (f1 : flag.length ≤ 16) (hk : Bits k) (k0 : 0 < k.length) (k1 : k.length ≤ 1000) (hb : b = 0 ∨ b = 1) (c0 : 1 ≤ chk) (c1 : chk ≤ 16) : Drawn ⟨flag, [(k, b)], chk⟩ := by
  refine ⟨⟨f, f0, f1, ⟨by show 1 ≤ 1000; decide, fun p hp => ?_⟩, c0, c1⟩, fun i p q _ hq => ?_, fun p hp q hq _ => by rw [List.mem_singleton.mp hp, List.mem_singleton.mp hq]⟩
  · rw [List.mem_singleton.mp hp]
    exact ⟨hk, k0, k1, hb⟩
  · rw [List.getElem?_eq_none (by show 1 ≤ i + 1; omega)] at hq
    cases hq
def Pre__law_rule (ds xs : List Dat) : Prop := ∃ n : Nat, CrOk ds n ∧ n < 2 ^ 56 ∧ xs = []
def Rf__law_rule (ds xs : List Dat) (x : Dat) (ds' : List Dat) : Prop := ∃ r : Rule, x = r.dat ∧ Drawn r ∧ ∀ n, CrOk ds n → CrOk ds' (n + 60000)
theorem len__law_rule {ds xs : List Dat} (h : Pre__law_rule ds xs) : xs.length + 1 = 1 := by
  obtain ⟨_, _, _, rfl⟩ := h
  rfl
theorem ok__law_rule {f : Addr} {fd : FuncData} (F : Fun K "_law_rule" "_law_rule" s__law_rule f fd) {f__law_haul : Addr} {d__law_haul : FuncData} (C__law_haul : CalS P w0 K mg base "_law_haul" ["crate", "below"] 1 (PrC Rf__law_haul Pre__law_haul) f__law_haul d__law_haul) {f__law_drawn_rule : Addr} {d__law_drawn_rule : FuncData} (C__law_drawn_rule : CalS P w0 K mg base "_law_drawn_rule" ["crate", "flag_here", "word_here", "many_here", "top"] 3 (PrC Rf__law_drawn_rule Pre__law_drawn_rule) f__law_drawn_rule d__law_drawn_rule) : FnOk P w0 K mg base CX0 4 f fd ["crate"] (PrC Rf__law_rule Pre__law_rule) := by
  refine fn_prC F sc__law_rule (fun ds xs h => len__law_rule h) fun cdv A outer s H E hr => ⟨_, (pss_cons (ps_set (i := 1) sc__law_rule.nd rfl (Or.inl rfl) (pe_call C__law_haul.ok (hr.mono (by decide)) rfl C__law_haul.at_ C__law_haul.kp C__law_haul.bd .nil pass0 (pa_cons (pv 0) (pa_cons pe_int pa_nil))))
      (pss_cons (ps_if (pt_cmpR op_eq (pv 1) pe_int (nomark _)) (pss_one (ps_ret (pe_call C__law_drawn_rule.ok (hr.mono (by decide)) rfl C__law_drawn_rule.at_ C__law_drawn_rule.kp C__law_drawn_rule.bd .nil pass0 (pa_cons (pv 0) (pa_cons pe_int (pa_cons pe_int (pa_cons pe_int (pa_cons pe_int pa_nil)))))))) pss_nil)
      (pss_cons (ps_if (pt_cmpR op_eq (pv 1) pe_int (nomark _)) (pss_one (ps_ret (pe_tup (pa_cons (pe_tup (pa_cons pe_int (pa_cons pe_int (pa_cons pe_int (pa_cons pe_int (pa_cons pe_int (pa_cons pe_int (pa_cons pe_int (pa_cons pe_int pa_nil))))))))) (pa_cons (pe_tup (pa_cons (pe_tup (pa_cons (pe_op (op_repAK (K := K) rfl) (pe_tup (pa_cons pe_int pa_nil)) pe_int) (pa_cons pe_int pa_nil))) pa_nil)) (pa_cons (pe_op op_add pe_int (pe_call C__law_haul.ok (hr.mono (by decide)) rfl C__law_haul.at_ C__law_haul.kp C__law_haul.bd .nil pass0 (pa_cons (pv 0) (pa_cons pe_int pa_nil)))) pa_nil)))))) pss_nil)
      (pss_cons (ps_if (pt_cmpR op_eq (pv 1) pe_int (nomark _)) (pss_cons (ps_set (i := 2) sc__law_rule.nd rfl (Or.inl rfl) (pe_op op_add pe_int (pe_call C__law_haul.ok (hr.mono (by decide)) rfl C__law_haul.at_ C__law_haul.kp C__law_haul.bd .nil pass0 (pa_cons (pv 0) (pa_cons pe_int pa_nil)))))
      (pss_one (ps_ret (pe_tup (pa_cons (pe_op (op_repAK (K := K) rfl) (pe_tup (pa_cons pe_int pa_nil)) (pe_op op_add (pe_op op_add (pv 2) pe_int) (pe_call C__law_haul.ok (hr.mono (by decide)) rfl C__law_haul.at_ C__law_haul.kp C__law_haul.bd .nil pass0 (pa_cons (pv 0) (pa_cons pe_int pa_nil))))) (pa_cons (pe_tup (pa_cons (pe_tup (pa_cons (pe_op (op_repAK (K := K) rfl) (pe_tup (pa_cons pe_int pa_nil)) (pv 2)) (pa_cons pe_int pa_nil))) pa_nil)) (pa_cons (pe_op op_add pe_int (pe_call C__law_haul.ok (hr.mono (by decide)) rfl C__law_haul.at_ C__law_haul.kp C__law_haul.bd .nil pass0 (pa_cons (pv 0) (pa_cons pe_int pa_nil)))) pa_nil))))))) pss_nil)
      (pss_one (ps_ret (pe_call C__law_drawn_rule.ok (hr.mono (by decide)) rfl C__law_drawn_rule.at_ C__law_drawn_rule.kp C__law_drawn_rule.bd .nil pass0 (pa_cons (pv 0) (pa_cons pe_int (pa_cons pe_int (pa_cons pe_int (pa_cons pe_int pa_nil)))))))))))), ?_⟩
  rintro c ds xs ⟨n, hc, hn, rfl⟩
  obtain ⟨n0, hle, hc0, hmin⟩ := hc.least
  have fin : ∀ (r : Rule) (ds' : List Dat) (γ : Gam), Drawn r → CrOk ds' (n0 + 60000) → γ[0]? = some (Slot.b c ds') → ∃ ds', γ[0]? = some (Slot.b c ds') ∧ Rf__law_rule ds [] r.dat ds' := fun r ds' γ h1 h2 h3 => ⟨ds', h3, r, rfl, h1, fun n' h' => h2.mono (by have := hmin n' h'; omega)⟩
  have one : Bits [1] := .one (.inr rfl)
  have fl8 : Bits [0, 1, 1, 1, 1, 1, 1, 0] := fun b hb => by
    simp only [List.mem_cons, List.not_mem_nil, or_false] at hb
    omega
  refine run_seqC (runx_asg (ex_haul (.inr ⟨c, rfl⟩) ev_int hc0 (by omega) (by decide) (by decide) fun way ds1 a0 a1 h1 => ?_))
  refine run_seqC (run_if (et_test (ev_op (ev_var rfl) ev_int r2_eqI)) (fun _ => ?_) fun _ => run_next ?_)
  · refine runx_ret (ex_lend (.inr ⟨c, rfl⟩) (exa_of (ea_cons ev_int (ea_cons ev_int (ea_cons ev_int (ea_cons ev_int ea_nil)))) ⟨ds1, .inr ⟨c, rfl⟩, ⟨_, 16, 16, 8, 16, h1, by omega, rfl, by decide, by decide, by decide, by decide⟩, fun x ds' hR => ?_⟩))
    obtain ⟨r, rfl, h2, h3⟩ := hR
    exact fin r ds' _ h2 ((h3 _ h1).mono (by omega)) rfl
  refine run_seqC (run_if (et_test (ev_op (ev_var rfl) ev_int r2_eqI)) (fun _ => ?_) fun _ => run_next ?_)
  · refine runx_ret (ex_tup (exa_consC (ex_of (ev_tup (ea_cons ev_int (ea_cons ev_int (ea_cons ev_int (ea_cons ev_int (ea_cons ev_int (ea_cons ev_int (ea_cons ev_int (ea_cons ev_int ea_nil)))))))) (by show 8 ≤ sizeLine; decide)) (exa_consC (ex_of (ev_tup (ea_cons (ev_tup (ea_cons (ev_op (ev_w1 ev_int) ev_int (r2_rep (ns := [1]) (by decide) (by decide) (by decide) (by decide))) (ea_cons ev_int ea_nil)) (by show 2 ≤ sizeLine; decide)) ea_nil) (by show 1 ≤ sizeLine; decide)) (exa_consC (ex_opC (ex_of ev_int (ex_haul (.inr ⟨c, rfl⟩) ev_int h1 (by omega) (by decide) (by decide) fun d ds2 d0 d1 h2 => ⟨_, r2_add, exa_nil ⟨by show 3 ≤ sizeLine; decide, ?_⟩⟩)))))))))
    exact fin ⟨[0, 1, 1, 1, 1, 1, 1, 0], [(repW (5 : Int).toNat [1], 0)], 1 + d⟩ ds2 _ (drawn_one fl8 (by decide) (by decide) (one.rep _) (by decide) (by decide) (.inl rfl) (by omega) (by omega)) (h2.mono (by omega)) rfl
  refine run_seqC (run_if (et_test (ev_op (ev_var rfl) ev_int r2_eqI)) (fun _ => ?_) fun _ => run_next ?_)
  · refine run_seqC (runx_asg (ex_opC (ex_of ev_int (ex_haul (.inr ⟨c, rfl⟩) ev_int h1 (by omega) (by decide) (by decide) fun d ds2 d0 d1 h2 => ⟨_, r2_add, ?_⟩))))
    have l1 : ∀ k : Nat, (repW k [1]).length = k := fun k => by rw [repW_len]; exact Nat.mul_one k
    refine runx_ret (ex_tup (exa_consC (ex_opC (ex_of (ev_w1 ev_int) (ex_opC (ex_of (ev_op (ev_var rfl) ev_int r2_add) (ex_haul (.inr ⟨c, rfl⟩) ev_int h2 (by omega) (by decide) (by decide) fun e ds3 e0 e1 h3 => ⟨_, r2_add, _, r2_rep (ns := [1]) (by decide) (by decide) (by omega) (by omega), exa_consC (ex_of (ev_tup (ea_cons (ev_tup (ea_cons (ev_op (ev_w1 ev_int) (ev_var rfl) (r2_rep (ns := [1]) (by decide) (by decide) (by omega) (by omega))) (ea_cons ev_int ea_nil)) (by show 2 ≤ sizeLine; decide)) ea_nil) (by show 1 ≤ sizeLine; decide)) (exa_consC (ex_opC (ex_of ev_int (ex_haul (.inr ⟨c, rfl⟩) ev_int h3 (by omega) (by decide) (by decide) fun d4 ds4 f0 f1 h4 => ⟨_, r2_add, exa_nil ⟨by show 3 ≤ sizeLine; decide, ?_⟩⟩)))))⟩)))))))
    exact fin ⟨repW (1 + d + 1 + e).toNat [1], [(repW (1 + d).toNat [1], 0)], 1 + d4⟩ ds4 _ (drawn_one (one.rep _) (by rw [l1]; omega) (by rw [l1]; omega) (one.rep _) (by rw [l1]; omega) (by rw [l1]; omega) (.inl rfl) (by omega) (by omega)) (h4.mono (by omega)) rfl
  · refine runx_ret (ex_lend (.inr ⟨c, rfl⟩) (exa_of (ea_cons ev_int (ea_cons ev_int (ea_cons ev_int (ea_cons ev_int ea_nil)))) ⟨ds1, .inr ⟨c, rfl⟩, ⟨_, 6, 6, 3, 4, h1, by omega, rfl, by decide, by decide, by decide, by decide⟩, fun x ds' hR => ?_⟩))
    obtain ⟨r, rfl, h2, h3⟩ := hR
    exact fin r ds' _ h2 ((h3 _ h1).mono (by omega)) rfl
def Pre__law_long_line (ds xs : List Dat) : Prop := ∃ (n : Nat) (r : Rule), CrOk ds n ∧ n < 2 ^ 56 ∧ xs = [r.dat] ∧ Small r
def Rf__law_long_line (ds xs : List Dat) (x : Dat) (ds' : List Dat) : Prop := ∃ ns, x = w ns ∧ Bits ns ∧ ns.length ≤ 400 ∧ ∀ n, CrOk ds n → CrOk ds' (n + 100000)
theorem len__law_long_line {ds xs : List Dat} (h : Pre__law_long_line ds xs) : xs.length + 1 = 2 := by
  obtain ⟨_, _, _, _, rfl, _⟩ := h
  rfl
theorem ok__law_long_line {f : Addr} {fd : FuncData} (F : Fun K "_law_long_line" "_law_long_line" s__law_long_line f fd) {f__law_haul : Addr} {d__law_haul : FuncData} (C__law_haul : CalS P w0 K mg base "_law_haul" ["crate", "below"] 1 (PrC Rf__law_haul Pre__law_haul) f__law_haul d__law_haul) {f__law_bits : Addr} {d__law_bits : FuncData} (C__law_bits : CalS P w0 K mg base "_law_bits" ["crate", "size"] 2 (PrC Rf__law_bits Pre__law_bits) f__law_bits d__law_bits) {f__law_frame : Addr} {d__law_frame : FuncData} (C__law_frame : CalS P w0 K mg base "_law_frame" ["rule_here", "payload_here"] 2 (PrX Pre__law_frame Rf__law_frame) f__law_frame d__law_frame) {f__law_spoilt : Addr} {d__law_spoilt : FuncData} (C__law_spoilt : CalS P w0 K mg base "_law_spoilt" ["line", "change_here"] 1 (PrX Pre__law_spoilt Rf__law_spoilt) f__law_spoilt d__law_spoilt) {f__law_change : Addr} {d__law_change : FuncData} (C__law_change : CalS P w0 K mg base "_law_change" ["crate", "line"] 2 (PrC Rf__law_change Pre__law_change) f__law_change d__law_change) (T : Bs mg) : FnOk P w0 K mg base CX0 3 f fd ["crate", "rule_here"] (PrC Rf__law_long_line Pre__law_long_line) := by
  refine fn_prC F sc__law_long_line (fun ds xs h => len__law_long_line h) fun cdv A outer s H E hr => ⟨_, (pss_cons (ps_par (i := 2) (j := 3) (by rfl) sc__law_long_line.nd rfl rfl (by decide) rfl rfl (pa_cons (pe_call C__law_haul.ok (hr.mono (by decide)) rfl C__law_haul.at_ C__law_haul.kp C__law_haul.bd .nil pass0 (pa_cons (pv 0) (pa_cons pe_int pa_nil))) (pa_cons (pe_call C__law_haul.ok (hr.mono (by decide)) rfl C__law_haul.at_ C__law_haul.kp C__law_haul.bd .nil pass0 (pa_cons (pv 0) (pa_cons pe_int pa_nil))) pa_nil)) (by rfl))
      (pss_cons (ps_if (pt_cmpR op_eq (pv 2) pe_int (nomark _)) (pss_one (ps_ret (pe_slice (sl_tupK (K := K) rfl) (pe_op (op_repAK (K := K) rfl) (pe_tup (pa_cons (pe_call C__law_haul.ok (hr.mono (by decide)) rfl C__law_haul.at_ C__law_haul.kp C__law_haul.bd .nil pass0 (pa_cons (pv 0) (pa_cons pe_int pa_nil))) pa_nil)) pe_int) po_none (po_some (pe_op op_add pe_int (pe_call C__law_haul.ok (hr.mono (by decide)) rfl C__law_haul.at_ C__law_haul.kp C__law_haul.bd .nil pass0 (pa_cons (pv 0) (pa_cons pe_int pa_nil)))))))) pss_nil)
      (pss_cons (ps_if (pt_cmpR op_eq (pv 2) pe_int (nomark _)) (pss_one (ps_ret (pe_slice (sl_tupK (K := K) rfl) (pe_op (op_repAK (K := K) rfl) (pe_ix (ix_tupK (K := K) rfl) (pv 1) pe_int (fun _ _ => rfl)) pe_int) (po_some (pe_call C__law_haul.ok (hr.mono (by decide)) rfl C__law_haul.at_ C__law_haul.kp C__law_haul.bd .nil pass0 (pa_cons (pv 0) (pa_cons pe_int pa_nil)))) (po_some pe_int)))) pss_nil)
      (pss_cons (ps_if (pt_cmpR op_eq (pv 2) pe_int (nomark _)) (pss_one (ps_ret (pe_call C__law_bits.ok (hr.mono (by decide)) rfl C__law_bits.at_ C__law_bits.kp C__law_bits.bd .nil pass0 (pa_cons (pv 0) (pa_cons (pe_call C__law_haul.ok (hr.mono (by decide)) rfl C__law_haul.at_ C__law_haul.kp C__law_haul.bd .nil pass0 (pa_cons (pv 0) (pa_cons pe_int pa_nil))) pa_nil))))) pss_nil)
      (pss_cons (ps_par (i := 4) (j := 5) (by rfl) sc__law_long_line.nd rfl rfl (by decide) rfl rfl (pa_cons (pe_tup pa_nil) (pa_cons (pe_ix (ix_listK (K := K) rfl) (pe_lst (pa_cons pe_int (pa_cons pe_int (pa_cons pe_int (pa_cons pe_int (pa_cons pe_int pa_nil)))))) (pv 3) (fun _ _ => rfl)) pa_nil)) (by rfl))
      (pss_cons (ps_for PassesOwn.never rfl (pi_range1 (by rfl) T.range (pa_cons (pe_ix (ix_listK (K := K) rfl) (pe_lst (pa_cons pe_int (pa_cons pe_int (pa_cons pe_int (pa_cons pe_int (pa_cons pe_int pa_nil)))))) (pv 3) (fun _ _ => rfl)) pa_nil)) (pg_name (i := 6) sc__law_long_line.nd rfl (Or.inl rfl)) (pss_cons (ps_set (i := 7) sc__law_long_line.nd rfl (Or.inl rfl) (pe_call C__law_frame.ok (hr.mono (by decide)) rfl C__law_frame.at_ C__law_frame.kp C__law_frame.bd .nil pass0 (pa_cons (pv 1) (pa_cons (pe_call C__law_bits.ok (hr.mono (by decide)) rfl C__law_bits.at_ C__law_bits.kp C__law_bits.bd .nil pass0 (pa_cons (pv 0) (pa_cons (pe_call C__law_haul.ok (hr.mono (by decide)) rfl C__law_haul.at_ C__law_haul.kp C__law_haul.bd .nil pass0 (pa_cons (pv 0) (pa_cons (pe_op op_add (pv 5) pe_int) pa_nil))) pa_nil))) pa_nil))))
      (pss_one (ps_if (pt_cmpR op_le (pe_op op_add (pe_op op_add (pe_callB (call_lenK (K := K) rfl) (by rfl) T.len PySem.boot_len (pa_cons (pv 4) pa_nil)) (pe_callB (call_lenK (K := K) rfl) (by rfl) T.len PySem.boot_len (pa_cons (pv 7) pa_nil))) (pe_callB (call_lenK (K := K) rfl) (by rfl) T.len PySem.boot_len (pa_cons (pe_ix (ix_tupK (K := K) rfl) (pv 1) pe_int (fun _ _ => rfl)) pa_nil))) pe_int (nomark _)) (pss_one (ps_set (i := 4) sc__law_long_line.nd rfl (Or.inl rfl) (pe_op (op_catK (K := K) rfl) (pv 4) (pv 7)))) pss_nil))))
      (pss_cons (ps_set (i := 4) sc__law_long_line.nd rfl (Or.inl rfl) (pe_op (op_catK (K := K) rfl) (pv 4) (pe_ix (ix_tupK (K := K) rfl) (pv 1) pe_int (fun _ _ => rfl))))
      (pss_one (ps_ret (pe_ifExp (pt_cmpR op_eq (pe_call C__law_haul.ok (hr.mono (by decide)) rfl C__law_haul.at_ C__law_haul.kp C__law_haul.bd .nil pass0 (pa_cons (pv 0) (pa_cons pe_int pa_nil))) pe_int (nomark _)) (pe_call C__law_spoilt.ok (hr.mono (by decide)) rfl C__law_spoilt.at_ C__law_spoilt.kp C__law_spoilt.bd .nil pass0 (pa_cons (pv 4) (pa_cons (pe_call C__law_change.ok (hr.mono (by decide)) rfl C__law_change.at_ C__law_change.kp C__law_change.bd .nil pass0 (pa_cons (pv 0) (pa_cons (pv 4) pa_nil))) pa_nil))) (pv 4))))))))))), ?_⟩
  rintro c ds xs ⟨n, r, hc, hn, rfl, G⟩
  obtain ⟨n0, hle, hc0, hmin⟩ := hc.least
  have f0 := G.flag0
  have f1 := G.flag1
  have fin : ∀ (ns : List Int) (ds' : List Dat) (γ : Gam), Bits ns → ns.length ≤ 400 → CrOk ds' (n0 + 100000) → γ[0]? = some (Slot.b c ds') → ∃ ds', γ[0]? = some (Slot.b c ds') ∧ Rf__law_long_line ds [r.dat] (w ns) ds' := fun ns ds' γ h1 h2 h3 h4 => ⟨ds', h4, ns, rfl, h1, h2, fun n' h' => h3.mono (by have := hmin n' h'; omega)⟩
  refine run_seqC (runx_par (exa_consC (ex_haul (.inr ⟨c, rfl⟩) ev_int hc0 (by omega) (by decide) (by decide) fun way ds1 a0 a1 h1 => exa_consC (ex_haul (.inr ⟨c, rfl⟩) ev_int h1 (by omega) (by decide) (by decide) fun pick ds2 b0 b1 h2 => exa_nil ⟨_, _, rfl, ?_⟩))))
  refine run_seqC (run_if (et_test (ev_op (ev_var rfl) ev_int r2_eqI)) (fun _ => ?_) fun _ => run_next ?_)
  · refine runx_ret (ex_cut (ex_opC (ex_tup (exa_consC (ex_haul (.inr ⟨c, rfl⟩) ev_int h2 (by omega) (by decide) (by decide) fun b ds3 c0 c1 h3 => exa_nil ⟨by show 1 ≤ sizeLine; decide, ex_of ev_int ⟨_, r2_rep (ns := [b]) (by show 0 < 1; decide) (by show 1 ≤ 1000; decide) (by decide) (by decide), _, rfl, exo_none (exo_some (ex_opC (ex_of ev_int (ex_haul (.inr ⟨c, rfl⟩) ev_int h3 (by omega) (by decide) (by decide) fun d ds4 d0 d1 h4 => ⟨_, r2_add, 300 + d, rfl, ?_⟩))))⟩⟩)))))
    obtain ⟨q, hq⟩ := Int.eq_ofNat_of_zero_le (a := 300 + d) (by omega)
    rw [hq, cutI_to]
    exact fin _ ds4 _ (((Bits.two c0 c1).rep _).take _) (by rw [List.length_take, repW_len]; show min q ((400 : Int).toNat * 1) ≤ 400; omega) (h4.mono (by omega)) rfl
  refine run_seqC (run_if (et_test (ev_op (ev_var rfl) ev_int r2_eqI)) (fun _ => ?_) fun _ => run_next ?_)
  · refine runx_ret (ex_cut (ex_of (ev_op (ev_op (ev_var rfl) ev_int (r2_ixT (z := w r.flag) rfl)) ev_int (r2_rep f0 (by omega) (by decide) (by decide))) ⟨_, rfl, exo_some (ex_haul (.inr ⟨c, rfl⟩) ev_int h2 (by omega) (by decide) (by decide) fun d ds3 d0 d1 h3 => ⟨d, rfl, exo_some (ex_of ev_int ⟨400, rfl, ?_⟩)⟩)⟩))
    obtain ⟨q, rfl⟩ := Int.eq_ofNat_of_zero_le d0
    rw [show (400 : Int) = ((400 : Nat) : Int) from rfl, cutI_both]
    exact fin _ ds3 _ (((G.flag.rep _).take _).drop _) (by rw [List.length_drop, List.length_take]; omega) (h3.mono (by omega)) rfl
  refine run_seqC (run_if (et_test (ev_op (ev_var rfl) ev_int r2_eqI)) (fun _ => ?_) fun _ => run_next ?_)
  · exact runx_ret (ex_bits (.inr ⟨c, rfl⟩) (ex_haul (.inr ⟨c, rfl⟩) ev_int h2 (by omega) (by decide) (by decide) fun d ds3 d0 d1 h3 => ⟨d, ds3, _, rfl, .inr ⟨c, rfl⟩, h3, by omega, d0, by omega, fun ns ds4 e1 e2 h4 => fin ns ds4 _ e2 (by omega) (h4.mono (by omega)) rfl⟩))
  obtain ⟨z, z2, hz, hz2, hzz⟩ : ∃ z z2 : Int, atI [Dat.int 3, Dat.int 20, Dat.int 90, Dat.int 180, Dat.int 380] pick = some (.int z) ∧ atI [Dat.int 30, Dat.int 30, Dat.int 12, Dat.int 6, Dat.int 3] pick = some (.int z2) ∧ 0 ≤ z ∧ z ≤ 380 ∧ 0 ≤ z2 ∧ z2 ≤ 30 := by
    have five : pick = 0 ∨ pick = 1 ∨ pick = 2 ∨ pick = 3 ∨ pick = 4 := by omega
    rcases five with rfl | rfl | rfl | rfl | rfl
    · exact ⟨3, 30, rfl, rfl, by decide⟩
    · exact ⟨20, 30, rfl, rfl, by decide⟩
    · exact ⟨90, 12, rfl, rfl, by decide⟩
    · exact ⟨180, 6, rfl, rfl, by decide⟩
    · exact ⟨380, 3, rfl, rfl, by decide⟩
  have lst5 : ∀ {γ : Gam} {a b d e f : Int}, EvR (tLst (tCons (tC (V.int a)) (tCons (tC (V.int b)) (tCons (tC (V.int d)) (tCons (tC (V.int e)) (tCons (tC (V.int f)) tNil)))))) γ [.int a, .int b, .int d, .int e, .int f] := er_ofN (en_lst (ea_cons ev_int (ea_cons ev_int (ea_cons ev_int (ea_cons ev_int (ea_cons ev_int ea_nil))))) (by show 5 ≤ sizeLine; decide))
  refine run_seq1 (run_par (ea_cons ev_w0 (ea_cons (ev_ixL lst5 (ev_var rfl) hz) ea_nil)) rfl) ?_
  refine run_seq (M := fun δ => ∃ (ds' : List Dat) (ls : List Int) (s t : Slot), δ = [.b c ds', .d r.dat, .d (.int way), .d (.int pick), .d (w ls), .d (.int z), s, t] ∧ Bits ls ∧ ls.length + r.flag.length ≤ 399 ∧ CrOk ds' (n0 + 50000))
    (run_forR (n := z2) (ea_cons (ev_ixL lst5 (ev_var rfl) hz2) ea_nil) ⟨by omega, by omega⟩
      (fun i δ => ∃ (ds' : List Dat) (ls : List Int) (s t : Slot), δ = [.b c ds', .d r.dat, .d (.int way), .d (.int pick), .d (w ls), .d (.int z), s, t] ∧ Bits ls ∧ ls.length + r.flag.length ≤ 399 ∧ CrOk ds' (n0 + 2 + 1001 * i)) ⟨ds2, [], _, _, rfl, .nil, by show 0 + _ ≤ 399; omega, h2⟩ ?_ ?_) ?_
  · rintro i δ hi ⟨ds', ls, s, t, rfl, hb, hl, hk⟩
    refine run_seqC (runx_asg (ex_callX (exa_consC (ex_of (ev_var rfl) (exa_consC (ex_bits (.inr ⟨c, rfl⟩) (ex_haul (.inr ⟨c, rfl⟩) (ev_op (ev_var rfl) ev_int r2_add) hk (by omega) (by omega) (by omega) fun d ds3 d0 d1 h3 => ⟨d, ds3, _, rfl, .inr ⟨c, rfl⟩, h3, by omega, d0, by omega, fun ns ds4 e1 e2 h4 => exa_nil ⟨⟨r, ns, G, e2, by omega, rfl⟩, fun y hy => ?_⟩⟩)))))))
    obtain ⟨ts, rfl, t1, t2⟩ := hy
    have t3 := t2 _ ns rfl
    refine run_if (et_test (ev_op (ev_op (ev_op (ev_lenW (ev_var rfl)) (ev_lenW (ev_var rfl)) r2_add) (ev_lenW (ev_op (ev_var rfl) ev_int (r2_ixT (z := w r.flag) rfl))) r2_add) ev_int r2_le)) (fun hy => ?_) fun _ => run_next ⟨ds4, ls, _, _, rfl, hb, hl, h4.mono (by omega)⟩
    have hy' := of_decide_eq_true hy
    exact run_asg (ev_op (ev_var rfl) (ev_var rfl) (r2_catW (by have := big (n := ls.length + ts.length) (by omega); omega))) ⟨ds4, ls ++ ts, _, _, rfl, hb.app t1, by rw [List.length_append]; omega, h4.mono (by omega)⟩
  · rintro δ ⟨ds', ls, s, t, rfl, hb, hl, hk⟩
    exact ⟨ds', ls, s, t, rfl, hb, hl, hk.mono (by omega)⟩
  · rintro δ ⟨ds', ls, s, t, rfl, hb, hl, hk⟩
    refine run_seq1 (run_asg (ev_op (ev_var rfl) (ev_op (ev_var rfl) ev_int (r2_ixT (z := w r.flag) rfl)) (r2_catW (by have := big (n := ls.length + r.flag.length) (by omega); omega))) rfl) ?_
    have l2 : (ls ++ r.flag).length ≤ 399 := by
      rw [List.length_append]
      exact hl
    have b2 := hb.app G.flag
    refine runx_ret (ex_ifC (ext_test (ex_opC (ex_haul (.inr ⟨c, rfl⟩) ev_int hk (by omega) (by decide) (by decide) fun d ds3 d0 d1 h3 => ex_of ev_int ⟨_, r2_eqI, _, rfl, fun _ => ?_, fun _ => ex_of (ev_var rfl) (fin _ ds3 _ b2 (by omega) (h3.mono (by omega)) rfl)⟩))))
    refine ex_callX (exa_consC (ex_of (ev_var rfl) (exa_consC (ex_lend (.inr ⟨c, rfl⟩) (exa_of (ea_cons (ev_var rfl) ea_nil) ⟨ds3, .inr ⟨c, rfl⟩, ⟨_, ls ++ r.flag, h3, by omega, rfl, by omega⟩, fun x ds5 hR => exa_nil ?_⟩)))))
    refine ⟨⟨ls ++ r.flag, x, b2, by omega, hR.1 _ rfl, rfl⟩, fun y hy => ?_⟩
    obtain ⟨ms, rfl, b3, s2⟩ := hy
    have s3 := s2 _ x rfl
    exact fin ms ds5 _ b3 (by omega) ((hR.2 _ h3).mono (by omega)) rfl
end
end Fr

set_option Elab.async false
set_option linter.all false
set_option maxRecDepth 100000
set_option maxHeartbeats 4000000
namespace Fr
open PySem PySem.Spec PyProof.Rows L2
open Evl (Ex)
/-! # a word that is parted at a border -/
def PB (f ns : List Int) (a : Nat) : Bool := decide ((ns.take (a + f.length)).drop a = f)
theorem pb_left (f ns : List Int) (s a : Nat) (h : a ≤ s) : PB f (ns.take (s + f.length)) a = PB f ns a := by
  unfold PB
  rw [List.take_take, Nat.min_eq_left (by omega)]
theorem pb_right (f ns : List Int) (s a : Nat) : PB f (ns.drop s) a = PB f ns (s + a) := by
  unfold PB
  rw [List.take_drop, List.drop_drop]
  congr 3
  · congr 1
    omega
def pairsOf' (l : List Nat) : List (Nat × Nat) := l.zip (l.drop 1)
theorem pairs_app (x : Nat) (t : List Nat) : ∀ l : List Nat, pairsOf' (l ++ x :: t) = pairsOf' (l ++ [x]) ++ pairsOf' (x :: t)
  | [] => by
    show pairsOf' (x :: t) = [] ++ _
    rw [List.nil_append]
  | [a] => rfl
  | a :: b :: l => by
    have h := pairs_app x t (b :: l)
    show (a, b) :: pairsOf' ((b :: l) ++ x :: t) = (a, b) :: pairsOf' ((b :: l) ++ [x]) ++ pairsOf' (x :: t)
    rw [h]
    rfl
theorem pairs_map (s : Nat) (l : List Nat) : pairsOf' (l.map (s + ·)) = (pairsOf' l).map fun p => (s + p.1, s + p.2) := by
  unfold pairsOf'
  rw [← List.map_drop, List.zip_map]
  rfl
theorem pairs_mem {l : List Nat} {p : Nat × Nat} (h : p ∈ pairsOf' l) : p.1 ∈ l ∧ p.2 ∈ l := by
  unfold pairsOf' at h
  have := List.of_mem_zip h
  exact ⟨this.1, List.mem_of_mem_drop this.2⟩
/-- the borders, parted -/
structure Parts (f ns : List Int) (s : Nat) (L T : List Nat) : Prop where
  all : bordersF f ns = L ++ s :: T.map (s + ·)
  left : bordersF f (ns.take (s + f.length)) = L ++ [s]
  right : bordersF f (ns.drop s) = 0 :: T
  low : ∀ a ∈ L, a < s
  fits : s + f.length ≤ ns.length
theorem parts {f ns : List Int} {s : Nat} (h : s ∈ bordersF f ns) (hf : 0 < f.length) : ∃ L T, Parts f ns s L T := by
  obtain ⟨h1, h2⟩ := List.mem_filter.mp h
  have h1 := List.mem_range.mp h1
  have hps : PB f ns s = true := h2
  have fits : s + f.length ≤ ns.length := by omega
  obtain ⟨k, hk⟩ : ∃ k, ns.length = s + f.length + k := ⟨ns.length - (s + f.length), by omega⟩
  have n1 : ((ns.length : Int) - (f.length : Int) + 1).toNat = s + (1 + k) := by omega
  have n2 : (((ns.take (s + f.length)).length : Int) - (f.length : Int) + 1).toNat = s + 1 := by
    rw [List.length_take]
    omega
  have n3 : (((ns.drop s).length : Int) - (f.length : Int) + 1).toNat = 1 + k := by
    rw [List.length_drop]
    omega
  refine ⟨(List.range s).filter (PB f ns), ((List.range k).map (1 + ·)).filter (PB f (ns.drop s)), ?_, ?_, ?_, ?_, fits⟩
  · show (List.range _).filter (PB f ns) = _
    rw [n1, List.range_add, List.filter_append, List.range_add, List.map_append, List.filter_append]
    congr 1
    show List.filter (PB f ns) [s + 0] ++ _ = _
    rw [Nat.add_zero, List.filter_cons_of_pos hps, List.filter_nil]
    show s :: _ = s :: _
    congr 1
    rw [List.filter_map]
    exact congrArg (List.map (s + ·)) (List.filter_congr fun a _ => (pb_right f ns s a).symm)
  · show (List.range _).filter (PB f (ns.take (s + f.length))) = _
    rw [n2, List.range_succ, List.filter_append]
    congr 1
    · exact List.filter_congr fun a ha => pb_left f ns s a (by have := List.mem_range.mp ha; omega)
    · rw [List.filter_cons_of_pos (by rw [pb_left f ns s s (Nat.le_refl _)]; exact hps), List.filter_nil]
  · show (List.range _).filter (PB f (ns.drop s)) = _
    rw [n3, List.range_add, List.filter_append]
    show List.filter _ [0] ++ _ = _
    rw [List.filter_cons_of_pos (by rw [pb_right]; exact hps), List.filter_nil]
    rfl
  · intro a ha
    exact List.mem_range.mp (List.mem_filter.mp ha).1
theorem answersF_eq (r : Rule) (ns : List Int) : answersF r ns = (pairsOf' (bordersF r.flag ns)).map fun p => ansF r (tableE r.ins) ((ns.take p.2).drop p.1) := rfl
theorem parts_answers {r : Rule} {ns : List Int} {s : Nat} {L T : List Nat} (p : Parts r.flag ns s L T) : answersF r ns = answersF r (ns.take (s + r.flag.length)) ++ answersF r (ns.drop s) := by
  rw [answersF_eq, answersF_eq, answersF_eq, p.all, p.left, p.right, pairs_app, List.map_append]
  congr 1
  · refine List.map_congr_left fun q hq => ?_
    have hm := (pairs_mem hq).2
    have : q.2 ≤ s := by
      rcases List.mem_append.mp hm with z | z
      · exact Nat.le_of_lt (p.low _ z)
      · rw [List.mem_singleton.mp z]
        exact Nat.le_refl _
    rw [List.take_take, Nat.min_eq_left (by omega)]
  · have e : s :: T.map (s + ·) = (0 :: T).map (s + ·) := rfl
    rw [e, pairs_map, List.map_map]
    refine List.map_congr_left fun q _ => ?_
    show ansF r _ ((ns.take (s + q.2)).drop (s + q.1)) = ansF r _ (((ns.drop s).take q.2).drop q.1)
    rw [List.take_drop, List.drop_drop]
/-- the first of the borders -/
def firstB (l : List Nat) (s : Nat) : Nat := (l ++ [s]).head (List.append_ne_nil_of_right_ne_nil _ (List.cons_ne_nil _ _))
theorem looseF_of {f ns : List Int} {a z : Nat} {l : List Nat} (h : bordersF f ns = l) (hn : l ≠ []) (ha : l.head hn = a) (hz : l.getLast hn = z) : looseF f ns = [(a : Int), (ns.length : Int) - (z : Int) - (f.length : Int)] := by
  unfold looseF
  rw [h]
  cases l with
  | nil => exact absurd rfl hn
  | cons x xs =>
    show [(x : Int), _] = _
    have e : x = a := ha
    subst e hz
    rfl
theorem parts_loose {f ns : List Int} {s : Nat} {L T : List Nat} (p : Parts f ns s L T) : ∃ a b : Int, looseF f ns = [a, b] ∧ looseF f (ns.take (s + f.length)) = [a, 0] ∧ looseF f (ns.drop s) = [0, b] := by
  have fits := p.fits
  have ne1 : L ++ [s] ≠ [] := List.append_ne_nil_of_right_ne_nil _ (List.cons_ne_nil _ _)
  have ne2 : (0 :: T : List Nat) ≠ [] := List.cons_ne_nil _ _
  have ne3 : L ++ s :: T.map (s + ·) ≠ [] := List.append_ne_nil_of_right_ne_nil _ (List.cons_ne_nil _ _)
  have hd : (L ++ s :: T.map (s + ·)).head ne3 = (L ++ [s]).head ne1 := by
    cases L <;> rfl
  have ls : (L ++ s :: T.map (s + ·)).getLast ne3 = s + (0 :: T).getLast ne2 := by
    rw [List.getLast_append_of_ne_nil _ (List.cons_ne_nil _ _)]
    have e : s :: T.map (s + ·) = (0 :: T).map (s + ·) := rfl
    have e2 : ∀ (l1 l2 : List Nat) (h1 : l1 ≠ []) (h2 : l2 ≠ []), l1 = l2 → l1.getLast h1 = l2.getLast h2 := fun l1 l2 h1 h2 e => by subst e; rfl
    rw [e2 _ _ (List.cons_ne_nil _ _) (by simp) e, List.getLast_map]
  refine ⟨_, _, looseF_of p.all ne3 rfl rfl, ?_, ?_⟩
  · rw [looseF_of p.left ne1 hd.symm rfl, List.getLast_append_of_ne_nil _ (List.cons_ne_nil _ _), List.length_take]
    show [_, _] = [_, _]
    congr 2
    show ((min (s + f.length) ns.length : Nat) : Int) - ((s : Nat) : Int) - _ = 0
    omega
  · rw [looseF_of p.right ne2 rfl rfl, ls, List.length_drop]
    congr 2
    omega
theorem parts_stream {r : Rule} {ns : List Int} {s : Nat} {L T : List Nat} (p : Parts r.flag ns s L T) : streamF r ns = (streamF r (ns.take (s + r.flag.length)) && streamF r (ns.drop s)) := by
  obtain ⟨a, b, l1, l2, l3⟩ := parts_loose p
  unfold streamF
  rw [l1, l2, l3, parts_answers p, p.all, p.left, p.right, List.all_append]
  have e1 : (L ++ s :: T.map (s + ·)).isEmpty = false := by cases L <;> rfl
  have e2 : (L ++ [s]).isEmpty = false := by cases L <;> rfl
  have e3 : (0 :: T : List Nat).isEmpty = false := rfl
  rw [e1, e2, e3]
  have d1 : decide ([a, b] = [0, 0]) = (decide ([a, 0] = [0, 0]) && decide ([0, b] = [0, 0])) := by
    by_cases x : a = 0 <;> by_cases y : b = 0 <;> simp [x, y]
  rw [d1]
  cases decide ([a, 0] = [0, 0]) <;> cases decide ([(0 : Int), b] = [0, 0]) <;> simp
end Fr

set_option Elab.async false
set_option linter.all false
set_option maxRecDepth 100000
set_option maxHeartbeats 4000000
namespace Fr
open PySem PySem.Spec PyProof.Rows L2
open Evl (Ex)
abbrev s__law_parted_right : Stmt := topS 42
abbrev N__law_parted_right : List Str := ["rule_here", "line", "spot", "size", "left", "right", "places", "place"]
theorem sc__law_parted_right : FnScope N__law_parted_right ["rule_here", "line", "spot"] (defScope s__law_parted_right) := ⟨rfl, rfl, rfl, by decide +kernel, rfl, by decide +kernel, by decide +kernel⟩
section
variable {P : Program} {w0 : World} {K : PySem.W.Frag} {mg : Str → Option Value} {base : Heap}
theorem r2_catL {xs ys : List Dat} (h : xs.length + ys.length ≤ sizeLine) : R2D rCat (.lst xs) (.lst ys) (.lst (xs ++ ys)) := fun A H vx vy s r1 r2 Q q => by
  cases r1 with
  | @lst a us _ h1 R1 =>
    cases r2 with
    | @lst b ws _ h2 R2 =>
      refine ⟨a, b, us, ws, rfl, rfl, s _ _ h1, s _ _ h2, by rw [R1.len, R2.len]; exact h, fun p hp => ?_⟩
      have g := Gr.new (o := .lst (us ++ ws)) s hp
      exact q _ _ _ g (.lst upd_same ((R1.app R2).mono g.view))
theorem r2_eqB {a b : Bool} : R2D rEq (.bl a) (.bl b) (.bl (decide (a = b))) := fun A H vx vy s r1 r2 Q q => by
  cases r1
  cases r2
  refine ⟨rfl, q _ A H (Gr.refl s) ?_⟩
  have e : decide (V.bl a = V.bl b) = decide (a = b) := decide_eq_decide.mpr ⟨fun h => V.bl.inj h, fun h => h ▸ rfl⟩
  rw [e]
  exact .bl _
structure Flat (d : Dat) : Prop where
  nd : noDic d = true
  lay : PyData.canLay0 (py d) = true
  dep : PyData.depth (py d) ≤ 2
  rfl_ : PyData.eqv (py d) (py d) = true
theorem flat_int (i : Int) : Flat (.int i) := ⟨rfl, by simp [py, PyData.canLay0], by simp [py, PyData.depth], by simp [py, PyData.eqv]⟩
theorem flat_w (ns : List Int) : Flat (w ns) := by
  have h := shaped_w ns
  unfold SeqAt.shaped at h
  refine ⟨noDic_w ns, (Bool.and_eq_true_iff.mp h).1, ?_, by rw [eqv_w]; exact decide_eq_true rfl⟩
  show PyData.depth (.tuple (pys (ns.map .int))) ≤ 2
  rw [pys_ints]
  have h2 := depth_ints ns
  simp only [PyData.depth]
  omega
theorem flat_str (s : PySem.Str) (h : PyData.strOk s = true) : Flat (.str s) := ⟨rfl, by simp [py, PyData.canLay0, h], by simp [py, PyData.depth], by simp [py, PyData.eqv]⟩
theorem flats {xs : List Dat} (h : ∀ d ∈ xs, Flat d) : noDics xs = true ∧ PyData.canLayAll0 (pys xs) = true ∧ PyData.depthAll (pys xs) ≤ 2 ∧ PyData.eqvAll (pys xs) (pys xs) = true := by
  induction xs with
  | nil => exact ⟨rfl, by simp [pys, PyData.canLayAll0], by simp [pys, PyData.depthAll], by simp [pys, PyData.eqvAll]⟩
  | cons d xs ih =>
    obtain ⟨a1, a2, a3, a4⟩ := ih fun d hd => h d (List.mem_cons_of_mem _ hd)
    have f := h d List.mem_cons_self
    have f3 := f.dep
    refine ⟨Bool.and_eq_true_iff.mpr ⟨f.nd, a1⟩, ?_, ?_, ?_⟩
    · simp only [pys, PyData.canLayAll0, f.lay, a2, Bool.and_self]
    · simp only [pys, PyData.depthAll]
      omega
    · simp only [pys, PyData.eqvAll, f.rfl_, a4, Bool.and_self]
theorem r2_neFlat {K : PySem.W.Frag} {xs ys : List Dat} (h : ∀ d ∈ xs, Flat d) (e : xs = ys) : R2D (rNeD K) (.lst xs) (.lst ys) (.bl false) := by
  subst e
  obtain ⟨a1, a2, a3, a4⟩ := flats h
  have sh : SeqAt.shaped (py (.lst xs)) = true := by
    unfold SeqAt.shaped
    have d : PyData.depth (py (.lst xs)) ≤ 64 := by
      show PyData.depth (.list (pys xs)) ≤ 64
      simp only [PyData.depth]
      omega
    rw [decide_eq_true d, Bool.and_true]
    show PyData.canLay0 (.list (pys xs)) = true
    simp only [PyData.canLay0]
    exact a2
  have q := r2_neD (K := K) (x := .lst xs) (y := .lst xs) a1 a1 sh sh
  have e2 : PyData.eqv (py (.lst xs)) (py (.lst xs)) = true := by
    show PyData.eqv (.list (pys xs)) (.list (pys xs)) = true
    simp only [PyData.eqv]
    exact a4
  rw [e2] at q
  exact q
theorem payF_flat (c : Int) (read : List Int) : Flat (payF c read) := by
  unfold payF
  split
  · exact flat_str _ (by decide +kernel)
  · split
    · exact flat_w _
    · exact flat_str _ (by decide +kernel)
theorem ansGo_flat (es : List (List L2.Key × Dat)) (c : Int) : ∀ (bs tail : List Int) (due : Dat) (read : List Int), Flat (ansGo es c tail due read bs)
  | [], _, due, read => by
    cases due <;> first | exact payF_flat c read | exact flat_str _ (by decide +kernel)
  | b :: bs, tail, due, read => by
    cases due with
    | non => exact ansGo_flat es c bs _ _ _
    | int d =>
      show Flat (if b = d then _ else _)
      split
      · exact ansGo_flat es c bs _ _ _
      · exact flat_str _ (by decide +kernel)
    | _ => exact flat_str _ (by decide +kernel)
theorem answers_flat (r : Rule) (ns : List Int) : ∀ d ∈ answersF r ns, Flat d := by
  intro d hd
  obtain ⟨p, _, rfl⟩ := List.mem_map.mp hd
  unfold ansF
  split
  · exact flat_str _ (by decide +kernel)
  · exact ansGo_flat _ _ _ _ _ _
theorem Wd.take {ns : List Int} (h : Wd ns) (n : Nat) : Wd (ns.take n) := ⟨List.all_eq_true.mpr fun b hb => List.all_eq_true.mp h.bits b (List.mem_of_mem_take hb), by have := h.short; rw [List.length_take]; omega⟩
theorem Wd.drop {ns : List Int} (h : Wd ns) (n : Nat) : Wd (ns.drop n) := ⟨List.all_eq_true.mpr fun b hb => List.all_eq_true.mp h.bits b (List.mem_of_mem_drop hb), by have := h.short; rw [List.length_drop]; omega⟩
def R__law_parted_right (xs : List Dat) (y : Dat) : Prop := ∃ r ns, ∃ s : Nat, Good r ∧ Wd ns ∧ s ∈ bordersF r.flag ns ∧ xs = [r.dat, w ns, .int (s : Int)] ∧ y = .bl true
theorem len__law_parted_right {xs : List Dat} {y : Dat} (h : R__law_parted_right xs y) : xs.length = 3 := by
  obtain ⟨_, _, _, _, _, _, rfl, _⟩ := h
  rfl
theorem ok__law_parted_right {f : Addr} {fd : FuncData} (F : Fun K "_law_parted_right" "_law_parted_right" s__law_parted_right f fd) {f_borders : Addr} {d_borders : FuncData} (C_borders : Cal P w0 K mg base "borders" ["rule", "bits"] 9 R_borders f_borders d_borders) {f_answers : Addr} {d_answers : FuncData} (C_answers : Cal P w0 K mg base "answers" ["rule", "bits"] 10 R_answers f_answers d_answers) {f_loose : Addr} {d_loose : FuncData} (C_loose : Cal P w0 K mg base "loose" ["rule", "bits"] 10 R_loose f_loose d_loose) {f_is_stream : Addr} {d_is_stream : FuncData} (C_is_stream : Cal P w0 K mg base "is_stream" ["rule", "bits"] 11 R_is_stream f_is_stream d_is_stream) (T : Bs mg) : FnOk P w0 K mg base CX0 12 f fd ["rule_here", "line", "spot"] (Pr R__law_parted_right) := by
  refine fn_pr F sc__law_parted_right (fun xs y h => len__law_parted_right h) fun cdv A outer s H E hr => ⟨_, (pss_cons (ps_set (i := 3) sc__law_parted_right.nd rfl (Or.inl rfl) (pe_callB (call_lenK (K := K) rfl) (by rfl) T.len PySem.boot_len (pa_cons (pe_ix (ix_tupK (K := K) rfl) (pv 0) pe_int (fun _ _ => rfl)) pa_nil)))
      (pss_cons (ps_par (i := 4) (j := 5) (by rfl) sc__law_parted_right.nd rfl rfl (by decide) rfl rfl (pa_cons (pe_slice (sl_tupK (K := K) rfl) (pv 1) po_none (po_some (pe_op op_add (pv 2) (pv 3)))) (pa_cons (pe_slice (sl_tupK (K := K) rfl) (pv 1) (po_some (pv 2)) po_none) pa_nil)) (by rfl))
      (pss_cons (ps_set (i := 6) sc__law_parted_right.nd rfl (Or.inl rfl) (pe_op op_cat (pe_call C_borders.ok (hr.mono (by decide)) rfl C_borders.at_ C_borders.kp C_borders.bd .nil pass0 (pa_cons (pv 0) (pa_cons (pv 4) pa_nil))) (pe_lc (own := [("place", 7)]) rfl sc__law_parted_right.nd (pi_listK (K := K) rfl (pe_slice (sl_listK (K := K) rfl) (pe_call C_borders.ok (hr.mono (by decide)) rfl C_borders.at_ C_borders.kp C_borders.bd .nil pass0 (pa_cons (pv 0) (pa_cons (pv 5) pa_nil))) (po_some pe_int) po_none)) (blkOk_by (own := [("place", 7)]) (N := N__law_parted_right) (sc := defScope s__law_parted_right) (by decide +kernel)) (fun _ _ _ _ _ => (pg_name (i := 7) sc__law_parted_right.nd rfl (Or.inl rfl))) (fun _ _ _ _ _ => pts_nil) (fun _ _ _ _ _ => (pe_op op_add (pv 2) (pv 7))))))
      (pss_cons (ps_if (PW.pt (pw_or (pt_cmpR (op_neK (K := K) rfl hr.units) (pe_call C_borders.ok (hr.mono (by decide)) rfl C_borders.at_ C_borders.kp C_borders.bd .nil pass0 (pa_cons (pv 0) (pa_cons (pv 1) pa_nil))) (pv 6) (nomark _)) (pw_or1 (pt_cmpR op_ne (pe_ix (ix_listK (K := K) rfl) (pe_call C_borders.ok (hr.mono (by decide)) rfl C_borders.at_ C_borders.kp C_borders.bd .nil pass0 (pa_cons (pv 0) (pa_cons (pv 5) pa_nil))) pe_int (fun _ _ => rfl)) pe_int (nomark _))))) (pss_one (ps_ret pe_bl)) pss_nil)
      (pss_cons (ps_if (pt_cmpR (op_neK (K := K) rfl hr.units) (pe_call C_answers.ok (hr.mono (by decide)) rfl C_answers.at_ C_answers.kp C_answers.bd .nil pass0 (pa_cons (pv 0) (pa_cons (pv 1) pa_nil))) (pe_op op_cat (pe_call C_answers.ok (hr.mono (by decide)) rfl C_answers.at_ C_answers.kp C_answers.bd .nil pass0 (pa_cons (pv 0) (pa_cons (pv 4) pa_nil))) (pe_call C_answers.ok (hr.mono (by decide)) rfl C_answers.at_ C_answers.kp C_answers.bd .nil pass0 (pa_cons (pv 0) (pa_cons (pv 5) pa_nil)))) (nomark _)) (pss_one (ps_ret pe_bl)) pss_nil)
      (pss_cons (ps_if (pt_cmpR (op_neK (K := K) rfl hr.units) (pe_call C_loose.ok (hr.mono (by decide)) rfl C_loose.at_ C_loose.kp C_loose.bd .nil pass0 (pa_cons (pv 0) (pa_cons (pv 1) pa_nil))) (pe_tup (pa_cons (pe_ix (ix_tupK (K := K) rfl) (pe_call C_loose.ok (hr.mono (by decide)) rfl C_loose.at_ C_loose.kp C_loose.bd .nil pass0 (pa_cons (pv 0) (pa_cons (pv 4) pa_nil))) pe_int (fun _ _ => rfl)) (pa_cons (pe_ix (ix_tupK (K := K) rfl) (pe_call C_loose.ok (hr.mono (by decide)) rfl C_loose.at_ C_loose.kp C_loose.bd .nil pass0 (pa_cons (pv 0) (pa_cons (pv 5) pa_nil))) pe_int (fun _ _ => rfl)) pa_nil))) (nomark _)) (pss_one (ps_ret pe_bl)) pss_nil)
      (pss_one (ps_ret (pe_cmpR op_eq (pe_call C_is_stream.ok (hr.mono (by decide)) rfl C_is_stream.at_ C_is_stream.kp C_is_stream.bd .nil pass0 (pa_cons (pv 0) (pa_cons (pv 1) pa_nil))) (pe_and (pe_call C_is_stream.ok (hr.mono (by decide)) rfl C_is_stream.at_ C_is_stream.kp C_is_stream.bd .nil pass0 (pa_cons (pv 0) (pa_cons (pv 4) pa_nil))) (pe_one (pe_call C_is_stream.ok (hr.mono (by decide)) rfl C_is_stream.at_ C_is_stream.kp C_is_stream.bd .nil pass0 (pa_cons (pv 0) (pa_cons (pv 5) pa_nil))))) (nomark _)))))))))), ?_⟩
  rintro xs y ⟨r, ns, s, G, W, hs, rfl, rfl⟩
  obtain ⟨L, T, p⟩ := parts hs G.flag0
  have len1 := W.short
  have big1 := big (n := 200000) (by decide)
  have WL := W.take (s + r.flag.length)
  have WR := W.drop s
  have call2 : ∀ {γ : Gam} {xs : List Dat} {Rf : List Dat → Dat → Prop} {i j : Nat} {a b y : Dat}, γ[i]? = some (Slot.d a) → γ[j]? = some (Slot.d b) → Rf [a, b] y → EvD (tCall (Pr Rf) [] E0 (tCons (tVar i) (tCons (tVar j) tNil))) γ y := fun h1 h2 h3 => ev_call (ea_cons (ev_var h1) (ea_cons (ev_var h2) ea_nil)) h3
  refine run_seq1 (run_asg (ev_lenW (ev_op (ev_var rfl) ev_int (r2_ixT (z := w r.flag) rfl))) rfl) ?_
  refine run_seq1 (run_par (x := w (ns.take (s + r.flag.length))) (y := w (ns.drop s)) (ea_cons (ev_is (ev_cut (ev_var rfl) eo_none (eo_some (ev_is (ev_op (ev_var rfl) (ev_var rfl) r2_add) (y := .int ((s + r.flag.length : Nat) : Int)) (congrArg Dat.int (by omega))))) (congrArg w (cutI_to _ _))) (ea_cons (ev_is (ev_cut (ev_var rfl) (eo_some (ev_var rfl)) eo_none) (congrArg w (cutI_from _ _))) ea_nil)) rfl) ?_
  have bR : bordersF r.flag (ns.drop s) = 0 :: T := p.right
  have lT : T.length ≤ 100000 := by
    have := borders_len r.flag (ns.drop s) G.flag0
    rw [bR, List.length_cons, List.length_drop] at this
    omega
  have lL : L.length + 1 ≤ 100000 := by
    have := borders_len r.flag (ns.take (s + r.flag.length)) G.flag0
    rw [p.left, List.length_append, List.length_singleton, List.length_take] at this
    omega
  have pl : (L ++ [s]).map (fun a => Dat.int ((a : Nat) : Int)) ++ T.map (fun a => Dat.int ((s + a : Nat) : Int)) = (L ++ s :: T.map (s + ·)).map fun a => Dat.int ((a : Nat) : Int) := by
    have e : T.map (fun a => Dat.int ((s + a : Nat) : Int)) = (T.map (s + ·)).map fun a => Dat.int ((a : Nat) : Int) := by
      rw [List.map_map]
      rfl
    rw [e, ← List.map_append, List.append_assoc]
    rfl
  refine run_seq1 (run_asg (ev_is (ev_op (call2 (xs := []) rfl rfl ⟨r, _, G, WL, rfl, rfl⟩) (ev_ofN (en_is (en_lcL (js := [7]) (l := T) (enc := fun a => .int (a : Nat)) (f := fun _ => true) (v := fun a => .int ((s + a : Nat) : Int)) (er_is (er_ofN (en_slL (er_ofD (call2 (xs := []) rfl rfl ⟨r, _, G, WR, rfl, rfl⟩)) (eo_some ev_int) eo_none)) (by rw [bR]; exact cutA_from _ 1)) (by decide) (by omega) fun a _ => ⟨_, tg_name 7, et_yes, fun _ => ev_is (ev_op (ev_var rfl) (ev_var rfl) r2_add) (congrArg Dat.int (by omega))⟩) (congrArg _ (filter_yes T)))) (r2_catL (by rw [List.length_map, List.length_map, p.left, List.length_append, List.length_singleton]; omega))) (y := .lst ((bordersF r.flag ns).map fun a => .int (a : Nat))) (by rw [p.all, p.left]; exact congrArg Dat.lst pl)) rfl) ?_
  have flI : ∀ l : List Nat, ∀ d ∈ l.map (fun a => Dat.int ((a : Nat) : Int)), Flat d := fun l d hd => by
    obtain ⟨a, _, rfl⟩ := List.mem_map.mp hd
    exact flat_int _
  refine run_seq1 (run_if (b := false) (et_is (et_or (et_test (ev_op (call2 (xs := []) rfl rfl ⟨r, ns, G, W, rfl, rfl⟩) (ev_var rfl) (r2_neFlat (flI _) rfl))) fun _ => et_test (ev_op (ev_op (call2 (xs := []) rfl rfl ⟨r, _, G, WR, rfl, rfl⟩) ev_int (r2_ixL (z := .int 0) (by rw [bR]; exact atI_nat (j := 0) rfl))) ev_int r2_neI)) rfl) (fun z => by cases z) fun _ => run_next rfl) ?_
  refine run_seq1 (run_if (b := false) (et_test (ev_op (call2 (xs := []) rfl rfl ⟨r, ns, G, W, rfl, rfl⟩) (ev_op (call2 (xs := []) rfl rfl ⟨r, _, G, WL, rfl, rfl⟩) (call2 (xs := []) rfl rfl ⟨r, _, G, WR, rfl, rfl⟩) (r2_catL (by have h1 := answers_len r (ns.take (s + r.flag.length)) G; have h2 := answers_len r (ns.drop s) G; have h3 := WL.short; have h4 := WR.short; omega))) (r2_neFlat (answers_flat r ns) (parts_answers p)))) (fun z => by cases z) fun _ => run_next rfl) ?_
  obtain ⟨a, b, l1, l2, l3⟩ := parts_loose p
  refine run_seq1 (run_if (b := false) (et_is (et_test (ev_op (call2 (xs := []) rfl rfl ⟨r, ns, G, W, rfl, rfl⟩) (ev_tup (ea_cons (ev_op (call2 (xs := []) rfl rfl ⟨r, _, G, WL, rfl, rfl⟩) ev_int (r2_ixT (z := .int a) (by rw [l2]; rfl))) (ea_cons (ev_op (call2 (xs := []) rfl rfl ⟨r, _, G, WR, rfl, rfl⟩) ev_int (r2_ixT (z := .int b) (by rw [l3]; rfl))) ea_nil)) (by show 2 ≤ sizeLine; decide)) (r2_neW (ms := [a, b])))) (by rw [l1]; simp)) (fun z => by cases z) fun _ => run_next rfl) ?_
  refine run_ret (ev_is (ev_op (call2 (xs := []) rfl rfl ⟨r, ns, G, W, rfl, rfl⟩) (ev_and (call2 (xs := []) rfl rfl ⟨r, _, G, WL, rfl, rfl⟩) fun _ => call2 (xs := []) rfl rfl ⟨r, _, G, WR, rfl, rfl⟩) r2_eqB) ?_) rfl
  rw [parts_stream p, decide_eq_true rfl]
end
end Fr

set_option Elab.async false
set_option linter.all false
set_option maxRecDepth 100000
set_option maxHeartbeats 4000000
namespace Fr
open PySem PySem.Spec PyProof.Rows L2
open Evl (Ex)
abbrev s__law_crate : Stmt := topS 28
abbrev N__law_crate : List Str := ["script", "at", "cell"]
theorem sc__law_crate : FnScope N__law_crate ["script", "at"] (defScope s__law_crate) := ⟨rfl, rfl, rfl, by decide +kernel, rfl, by decide +kernel, by decide +kernel⟩
section
variable {P : Program} {w0 : World} {K : PySem.W.Frag} {mg : Str → Option Value} {base : Heap}
/-- the law's promise -/
def spLaw (K : PySem.W.Frag) : Sp := fun vs H Q _ => ∃ (a : Addr) (ns : List Int), vs = [V.ref a] ∧ SqL K H a (ns.map V.int) ∧ ns.length ≤ 63 ∧ ∀ H', Q (.bl true) H'
/-- the crate's: a new list -/
def PrS (K : PySem.W.Frag) : Sp := fun vs H Q _ => ∃ (A : Hp) (a : Addr) (ns : List Int) (at_ : Int), vs = [V.ref a, V.int at_] ∧ Ex A H ∧ SqL K A a (ns.map V.int) ∧ 0 ≤ at_ ∧ at_ ≤ 100 ∧
  ∀ l us B H' ys, CrOk ys 0 → Gr A H B H' → H l = none → B l = none → H' l = some (.lst us) → Reps B us ys → Q (.ref l) H'
section
variable {K : PySem.W.Frag} {γ : Gam} {ta tb te : TE} {N : Gam → Prop} {R : Dat → Gam → Prop} {tu tw : TS}
theorem ev_lenScr {i : Nat} {ns : List Int} (h : γ[i]? = some (Slot.scr K ns)) : EvD (tCB (Evl.rLenS K) (tCons (tVar i) tNil)) γ (.int (ns.length : Int)) := fun H0 A H σ k Q q => by
  obtain ⟨a, h1, h2⟩ := k.scr i K ns h
  refine ⟨_, h1, a, ns.map V.int, rfl, .inl (Evl.ex_l k.sub h2), ?_⟩
  rw [List.length_map]
  exact q _ A H (Gr.refl k.sub) (.int _)
theorem atI_map {ns : List Int} {j z : Int} (e : atI ns j = some z) : atI (ns.map V.int) j = some (V.int z) := by
  unfold atI at e ⊢
  rw [List.length_map]
  cases q : ixN ns.length j with
  | none =>
    rw [q] at e
    cases e
  | some n =>
    rw [q] at e
    show (ns.map V.int)[n]? = _
    have e' : ns[n]? = some z := e
    rw [List.getElem?_map, e']
    rfl
theorem ev_ixScr {i : Nat} {ns : List Int} {j z : Int} (h : γ[i]? = some (Slot.scr K ns)) (hb : EvD tb γ (.int j)) (e : atI ns j = some z) : EvD (tOp (rIxL K) (tVar i) tb) γ (.int z) := fun H0 A H σ k Q q => by
  obtain ⟨a, h1, h2⟩ := k.scr i K ns h
  refine ⟨_, h1, hb H0 A H σ k _ fun v B H1 g1 r1 => ?_⟩
  cases r1
  exact ⟨a, ns.map V.int, j, V.int z, rfl, rfl, Evl.ex_l g1.up (Evl.ex_l k.sub h2), atI_map e, q _ B H1 g1 (.int _)⟩
/-- crate = _law_crate(script, at) -/
theorem run_crate {i j t : Nat} {ns : List Int} {at_ : Int} {E : XK} (h : γ[i]? = some (Slot.scr K ns)) (h2 : γ[j]? = some (Slot.d (.int at_))) (a0 : 0 ≤ at_) (a1 : at_ ≤ 100) (hn : ∀ ys, CrOk ys 0 → N (γ.set t (.o ys))) : Run (tAsg (tCall (PrS K) [] E (tCons (tVar i) (tCons (tVar j) tNil))) (gName t)) γ N R := fun A0 H0 A H σ g0 k D dn dr => by
  obtain ⟨a, h1, h3⟩ := k.scr i K ns h
  obtain ⟨v, h4, r4⟩ := k.get j _ h2
  cases r4
  refine ⟨_, h1, _, h4, A, a, ns, at_, rfl, k.sub, h3, a0, a1, fun l us B H1 ys hc g1 hl hB hl1 ru => ?_⟩
  have k1 := k.mono g1
  refine dn _ B H1 _ (hn ys hc) (g0.trans g1) g1.view (k1.setM t (fun b u hj mt e => ?_) (fun _ z => nomatch z) (fun _ _ z => nomatch z) (fun _ _ z => nomatch z) (fun _ z => by cases z; exact ⟨us, Evl.fresh_back g0.up hl, hB, hl1, ru⟩) fun _ z => nomatch z)
  obtain ⟨c, o, e2, _, _, e3⟩ := k.addr hj mt
  rw [e2] at e
  cases e
  rw [hl] at e3
  cases e3
end
theorem ok_entryS {A H : Hp} {K : PySem.W.Frag} {a : Addr} {ns : List Int} (s : Ex A H) (hS : SqL K A a (ns.map V.int)) (N : List Str) {vs : List V} {xs : List Dat} (r : Reps A vs xs) (hN : vs.length < N.length) :
    Ok H A H (L2.start N (V.ref a :: vs)) (Slot.scr K ns :: entry (N.drop 1) xs) := by
  have q := ok_entry s (N.drop 1) r
  have e1 : L2.start N (V.ref a :: vs) = some (V.ref a) :: L2.start (N.drop 1) vs := by
    unfold L2.start
    rw [List.map_cons, List.cons_append, List.length_cons, List.length_drop]
    congr 3
    omega
  rw [e1]
  have no : ∀ (i : Nat) (t : Slot), (entry (N.drop 1) xs)[i]? = some t → t.mine = false ∧ ∀ K m, t ≠ .scr K m := fun i t h => by
    unfold entry at h
    by_cases hi : i < xs.length
    · rw [List.getElem?_append_left (by simpa using hi), List.getElem?_map] at h
      cases e : xs[i]? with
      | none => rw [e] at h; cases h
      | some a => rw [e] at h; cases h; exact ⟨rfl, fun _ _ z => nomatch z⟩
    · rw [List.getElem?_append_right (by simpa using hi), List.getElem?_replicate] at h
      split at h <;> cases h
      exact ⟨rfl, fun _ _ z => nomatch z⟩
  have nm : ∀ (i : Nat) (t : Slot), (Slot.scr K ns :: entry (N.drop 1) xs)[i]? = some t → t.mine = false := fun i t h => by
    cases i with
    | zero => cases h; rfl
    | succ i => exact (no i t h).1
  refine ⟨s, by rw [List.length_cons, List.length_cons, q.len], fun i x h => ?_, fun i ys h => ?_, fun i ys h => ?_, fun i d ys h => ?_, fun i K' m h => ?_, fun i j l t u h1 h2 h3 h4 h5 h6 => ?_⟩
  · cases i with
    | zero => cases h
    | succ i => exact q.get i x h
  · have := nm i _ h
    cases this
  · have := nm i _ h
    cases this
  · have := nm i _ h
    cases this
  · cases i with
    | zero =>
      cases h
      exact ⟨a, rfl, hS⟩
    | succ i => exact absurd rfl ((no i _ h).2 K' m)
  · rw [nm i t h1] at h3
    cases h3
theorem ok__law_crate {f : Addr} {fd : FuncData} (F : Fun K "_law_crate" "_law_crate" s__law_crate f fd) (T : Bs mg) : FnOk P w0 K mg base CX0 1 f fd ["script", "at"] (PrS K) := by
  refine F.ok sc__law_crate (fun vs H Q E h => ?_) fun cdv A outer s H vs Q E hr h => ?_
  · obtain ⟨_, _, _, _, rfl, _⟩ := h
    rfl
  · obtain ⟨B, a, ns, at_, rfl, sub, hS, a0, a1, q⟩ := h
    refine ⟨_, (pss_cons (ps_set (i := 2) sc__law_crate.nd rfl (Or.inl rfl) (pe_ifExp (pt_cmpR op_lt (pv 1) (pe_callB (call_lenK (K := K) rfl) (by rfl) T.len PySem.boot_len (pa_cons (pv 0) pa_nil)) (nomark _)) (pe_ix (ix_listK (K := K) rfl) (pv 0) (pv 1) (fun _ _ => rfl)) pe_int))
      (pss_one (ps_ret (pe_lst (pa_cons (pe_callB (call_max2 rfl) (by rfl) T.max (by decide +kernel) (pa_cons pe_int (pa_cons (pe_op op_sub (pe_callB call_abs (by rfl) T.abs (by decide +kernel) (pa_cons (pv 2) pa_nil)) (pe_op op_pow pe_int pe_int)) pa_nil))) (pa_cons (pe_op op_add (pe_op op_add (pe_op op_mul (pe_op op_modN (pe_callTy call_int1 (by rfl) T.int (by decide +kernel) (pa_cons (pv 2) pa_nil)) (pe_op op_add (pe_op op_pow pe_int pe_int) pe_int)) pe_int) (pe_op op_mul pe_int (pv 1))) pe_int) (pa_cons pe_int pa_nil))))))), ?_⟩
    have k0 := ok_entryS sub hS N__law_crate (vs := [V.int at_]) (xs := [.int at_]) (.cons (.int _) .nil) (by show 1 < 3; decide)
    obtain ⟨cell, hcell⟩ : ∃ c : Int, at_ < (ns.length : Int) → atI ns at_ = some c := by
      by_cases z : at_ < (ns.length : Int)
      · obtain ⟨n, rfl⟩ := Int.eq_ofNat_of_zero_le a0
        have hn : n < ns.length := by omega
        exact ⟨ns[n], fun _ => atI_nat (List.getElem?_eq_getElem hn)⟩
      · exact ⟨0, fun h => absurd h z⟩
    refine run_asg (x := .int (if at_ < (ns.length : Int) then cell else 0)) (N := fun δ => ∃ c, δ = [.scr K ns, .d (.int at_), .d (.int c)]) (R := fun _ _ => False) (γ := [.scr K ns, .d (.int at_), .no]) ?_ ⟨_, rfl⟩ B H B H _ (Gr.refl sub) k0 _ (fun δ C H' σ' hn g v k' => ?_) fun _ _ _ _ _ _ z => z.elim
    · by_cases z : at_ < (ns.length : Int)
      · rw [if_pos z]
        exact ev_is (ev_if (b := true) (y := .non) (et_test (ev_is (ev_op (ev_var rfl) (ev_lenScr rfl) r2_lt) (congrArg Dat.bl (decide_eq_true z)))) (fun _ => ev_ixScr rfl (ev_var rfl) (hcell z)) fun z => by cases z) rfl
      · rw [if_neg z]
        exact ev_is (ev_if (b := false) (x := .non) (et_test (ev_is (ev_op (ev_var rfl) (ev_lenScr rfl) r2_lt) (congrArg Dat.bl (decide_eq_false z)))) (fun z => by cases z) fun _ => ev_int) rfl
    · obtain ⟨c, rfl⟩ := hn
      have f0 := fmod_in (x := c) (m := 10 ^ 37 + 91) (by decide)
      refine (en_lst (ea_cons (ev_cb (ea_cons ev_int (ea_cons (ev_op (ev_cb (ea_cons (ev_var rfl) ea_nil) rc_abs1) (ev_op ev_int ev_int (r2_pow ⟨by decide, by decide, by decide⟩)) r2_sub) ea_nil)) rc_max2) (ea_cons (ev_op (ev_op (ev_op (ev_op (ev_int1 (ev_var rfl)) (ev_op (ev_op ev_int ev_int (r2_pow ⟨by decide, by decide, by decide⟩)) ev_int r2_add) (r2_modN (by decide))) ev_int (r2_mul (.inr ⟨by decide, by decide⟩))) (ev_op ev_int (ev_var rfl) (r2_mul (.inl ⟨by decide, by decide⟩))) r2_add) ev_int r2_add) (ea_cons ev_int ea_nil))) (by show 3 ≤ sizeLine; decide)) H C H' σ' k' _ fun l us D H2 g2 hl hD h2 r2 => ?_
      refine q l us D H2 _ ⟨_, _, 0, rfl, ?_, ?_, ?_, by decide, by decide⟩ (g.trans g2) (Evl.fresh_back g.up hl) hD h2 r2
      · split <;> omega
      · have : 0 ≤ c.fmod (10 ^ 37 + 91) := f0.1
        show 0 ≤ c.fmod (10 ^ 37 + 91) * 83 + 59 * at_ + 47
        omega
      · have : c.fmod (10 ^ 37 + 91) < 10 ^ 37 + 91 := f0.2
        show c.fmod (10 ^ 37 + 91) * 83 + 59 * at_ + 47 < 2 ^ 140
        omega

end
end Fr

set_option Elab.async false
set_option linter.all false
set_option maxRecDepth 100000
set_option maxHeartbeats 4000000
namespace Fr
open PySem PySem.Spec PyProof.Rows L2
open Evl (Ex)
abbrev s_law : Stmt := topS 43
abbrev N_law : List Str := ["script", "at", "crate", "rule_here", "line", "spots", "turn", "spot", "flag", "left", "right", "whole"]
theorem sc_law : FnScope N_law ["script"] (defScope s_law) := ⟨rfl, rfl, rfl, by decide +kernel, rfl, by decide +kernel, by decide +kernel⟩
section
variable {P : Program} {w0 : World} {K : PySem.W.Frag} {mg : Str → Option Value} {base : Heap}
theorem Drawn.good {r : Rule} (h : Drawn r) : Good r := by
  have s := h.small
  refine ⟨bits_all s.flag, s.flag0, by have := s.flag1; omega, s.rows.many, fun p hp => ?_, h.order, s.chk0, ?_⟩
  · obtain ⟨a1, a2, a3, a4⟩ := s.rows.row p hp
    exact ⟨bits_all a1, a2, a3, by rcases a4 with z | z <;> rw [z] <;> rfl⟩
  · have c0 := s.chk0
    have c1 := s.chk1
    have := bits_of (x := r.chk - 1) (k := 4) (by omega) (by omega)
    omega
theorem wd_of {ns : List Int} (h : Bits ns) (hl : ns.length ≤ 100000) : Wd ns := ⟨bits_all h, hl⟩
theorem mem_border (X f Y : List Int) : X.length ∈ bordersF f ((X ++ f) ++ Y) := by
  refine List.mem_filter.mpr ⟨List.mem_range.mpr ?_, ?_⟩
  · rw [List.length_append, List.length_append]
    omega
  · refine decide_eq_true ?_
    have e : X.length + f.length = (X ++ f).length := by rw [List.length_append]
    rw [e, List.take_left', List.drop_left']
    · rfl
    · rfl
theorem r2_neNil {K : PySem.W.Frag} {xs : List Dat} (h : ∀ d ∈ xs, Flat d) : R2D (rNeD K) (.lst xs) (.lst []) (.bl (!xs.isEmpty)) := by
  cases xs with
  | nil => exact r2_neFlat h rfl
  | cons x xs =>
    obtain ⟨a1, a2, a3, a4⟩ := flats h
    have sh : SeqAt.shaped (py (.lst (x :: xs))) = true := by
      unfold SeqAt.shaped
      have d : PyData.depth (py (.lst (x :: xs))) ≤ 64 := by
        show PyData.depth (.list (pys (x :: xs))) ≤ 64
        simp only [PyData.depth]
        omega
      rw [decide_eq_true d, Bool.and_true]
      show PyData.canLay0 (.list (pys (x :: xs))) = true
      simp only [PyData.canLay0]
      exact a2
    have q := r2_neD (K := K) (x := .lst (x :: xs)) (y := .lst []) a1 rfl sh (by decide +kernel)
    have e2 : PyData.eqv (py (.lst (x :: xs))) (py (.lst [])) = false := by
      show PyData.eqv (.list (pys (x :: xs))) (.list []) = false
      simp only [pys, PyData.eqv, PyData.eqvAll]
    rw [e2] at q
    exact q
theorem flat_ints (l : List Nat) : ∀ d ∈ l.map (fun a => Dat.int ((a : Nat) : Int)), Flat d := fun d hd => by
  obtain ⟨a, _, rfl⟩ := List.mem_map.mp hd
  exact flat_int _
theorem ok_law {f : Addr} {fd : FuncData} (F : Fun K "law" "law" s_law f fd) {f__law_crate : Addr} {d__law_crate : FuncData} (C__law_crate : CalS P w0 K mg base "_law_crate" ["script", "at"] 1 (PrS K) f__law_crate d__law_crate) {f__law_rule : Addr} {d__law_rule : FuncData} (C__law_rule : CalS P w0 K mg base "_law_rule" ["crate"] 4 (PrC Rf__law_rule Pre__law_rule) f__law_rule d__law_rule) {f__law_long_line : Addr} {d__law_long_line : FuncData} (C__law_long_line : CalS P w0 K mg base "_law_long_line" ["crate", "rule_here"] 3 (PrC Rf__law_long_line Pre__law_long_line) f__law_long_line d__law_long_line) {f_borders : Addr} {d_borders : FuncData} (C_borders : Cal P w0 K mg base "borders" ["rule", "bits"] 9 R_borders f_borders d_borders) {f__law_line : Addr} {d__law_line : FuncData} (C__law_line : CalS P w0 K mg base "_law_line" ["crate", "rule_here", "most"] 4 (PrC Rf__law_line Pre__law_line) f__law_line d__law_line) {f__law_parted_right : Addr} {d__law_parted_right : FuncData} (C__law_parted_right : Cal P w0 K mg base "_law_parted_right" ["rule_here", "line", "spot"] 12 R__law_parted_right f__law_parted_right d__law_parted_right) {f__law_haul : Addr} {d__law_haul : FuncData} (C__law_haul : CalS P w0 K mg base "_law_haul" ["crate", "below"] 1 (PrC Rf__law_haul Pre__law_haul) f__law_haul d__law_haul) (T : Bs mg) : FnOk P w0 K mg base CX0 13 f fd ["script"] (spLaw K) := by
  refine F.ok sc_law (fun vs H Q E h => ?_) fun cdv A outer s H vs Q E hr h => ?_
  · obtain ⟨_, _, rfl, _⟩ := h
    rfl
  · obtain ⟨a, ns, rfl, hS, hl, q⟩ := h
    refine ⟨_, (pss_cons (ps_for PassesOwn.never rfl (pi_range1 (by rfl) T.range (pa_cons (pe_callB (call_max2 rfl) (by rfl) T.max (by decide +kernel) (pa_cons pe_int (pa_cons (pe_callB (call_min2 rfl) (by rfl) T.min (by decide +kernel) (pa_cons pe_int (pa_cons (pe_callB (call_lenK (K := K) rfl) (by rfl) T.len PySem.boot_len (pa_cons (pv 0) pa_nil)) pa_nil))) pa_nil))) pa_nil)) (pg_name (i := 1) sc_law.nd rfl (Or.inl rfl)) (pss_cons (ps_set (i := 2) sc_law.nd rfl (Or.inl rfl) (pe_call C__law_crate.ok (hr.mono (by decide)) rfl C__law_crate.at_ C__law_crate.kp C__law_crate.bd .nil pass0 (pa_cons (pv 0) (pa_cons (pv 1) pa_nil))))
      (pss_cons (ps_set (i := 3) sc_law.nd rfl (Or.inl rfl) (pe_call C__law_rule.ok (hr.mono (by decide)) rfl C__law_rule.at_ C__law_rule.kp C__law_rule.bd .nil pass0 (pa_cons (pv 2) pa_nil)))
      (pss_cons (ps_set (i := 4) sc_law.nd rfl (Or.inl rfl) (pe_call C__law_long_line.ok (hr.mono (by decide)) rfl C__law_long_line.at_ C__law_long_line.kp C__law_long_line.bd .nil pass0 (pa_cons (pv 2) (pa_cons (pv 3) pa_nil))))
      (pss_cons (ps_set (i := 5) sc_law.nd rfl (Or.inl rfl) (pe_call C_borders.ok (hr.mono (by decide)) rfl C_borders.at_ C_borders.kp C_borders.bd .nil pass0 (pa_cons (pv 3) (pa_cons (pv 4) pa_nil))))
      (pss_cons (ps_for PassesOwn.never rfl (pi_range1 (by rfl) T.range (pa_cons pe_int pa_nil)) (pg_name (i := 6) sc_law.nd rfl (Or.inl rfl)) (pss_cons (ps_set (i := 7) sc_law.nd rfl (Or.inl rfl) (pe_ifExp (pt_cmpR (op_neK (K := K) rfl hr.units) (pv 5) (pe_lst pa_nil) (nomark _)) (pe_ix (ix_listK (K := K) rfl) (pv 5) (pe_call C__law_haul.ok (hr.mono (by decide)) rfl C__law_haul.at_ C__law_haul.kp C__law_haul.bd .nil pass0 (pa_cons (pv 2) (pa_cons (pe_callB (call_lenK (K := K) rfl) (by rfl) T.len PySem.boot_len (pa_cons (pv 5) pa_nil)) pa_nil))) (fun _ _ => rfl)) pe_int))
      (pss_one (ps_if (PW.pt (pw_and (pt_cmpR (op_neK (K := K) rfl hr.units) (pv 5) (pe_lst pa_nil) (nomark _)) (pw_and1 (pt_not (pt_val (pe_call C__law_parted_right.ok (hr.mono (by decide)) rfl C__law_parted_right.at_ C__law_parted_right.kp C__law_parted_right.bd .nil pass0 (pa_cons (pv 3) (pa_cons (pv 4) (pa_cons (pv 7) pa_nil))))))))) (pss_one (ps_ret pe_bl)) pss_nil))))
      (pss_cons (ps_set (i := 8) sc_law.nd rfl (Or.inl rfl) (pe_ix (ix_tupK (K := K) rfl) (pv 3) pe_int (fun _ _ => rfl)))
      (pss_cons (ps_set (i := 9) sc_law.nd rfl (Or.inl rfl) (pe_op (op_catK (K := K) rfl) (pe_call C__law_line.ok (hr.mono (by decide)) rfl C__law_line.at_ C__law_line.kp C__law_line.bd .nil pass0 (pa_cons (pv 2) (pa_cons (pv 3) (pa_cons pe_int pa_nil)))) (pv 8)))
      (pss_cons (ps_set (i := 10) sc_law.nd rfl (Or.inl rfl) (pe_op (op_catK (K := K) rfl) (pv 8) (pe_call C__law_line.ok (hr.mono (by decide)) rfl C__law_line.at_ C__law_line.kp C__law_line.bd .nil pass0 (pa_cons (pv 2) (pa_cons (pv 3) (pa_cons pe_int pa_nil))))))
      (pss_cons (ps_set (i := 11) sc_law.nd rfl (Or.inl rfl) (pe_op (op_catK (K := K) rfl) (pv 9) (pe_slice (sl_tupK (K := K) rfl) (pv 10) (po_some (pe_callB (call_lenK (K := K) rfl) (by rfl) T.len PySem.boot_len (pa_cons (pv 8) pa_nil))) po_none)))
      (pss_one (ps_if (pt_not (pt_val (pe_call C__law_parted_right.ok (hr.mono (by decide)) rfl C__law_parted_right.at_ C__law_parted_right.kp C__law_parted_right.bd .nil pass0 (pa_cons (pv 3) (pa_cons (pv 11) (pa_cons (pe_op op_sub (pe_callB (call_lenK (K := K) rfl) (by rfl) T.len PySem.boot_len (pa_cons (pv 9) pa_nil)) (pe_callB (call_lenK (K := K) rfl) (by rfl) T.len PySem.boot_len (pa_cons (pv 8) pa_nil))) pa_nil)))))) (pss_one (ps_ret pe_bl)) pss_nil))))))))))))
      (pss_one (ps_ret pe_bl))), ?_⟩
    have k0 := ok_entryS (Ex.refl H) hS N_law (vs := []) (xs := []) .nil (by show 0 < 12; decide)
    refine (?_ : Run _ (Slot.scr K ns :: entry (N_law.drop 1) []) (fun _ => False) (fun x _ => x = .bl true)) H H H H _ (Gr.refl (Ex.refl H)) k0 _ (fun _ _ _ _ z => z.elim) fun v C H' x σ' δ hx g _ rx => ?_
    case refine_2 =>
      subst hx
      cases rx
      exact q _
    have bigL := big (n := 100000) (by decide)
    obtain ⟨m, hm, m1, m6⟩ : ∃ m : Int, (if (if (ns.length : Int) < 6 then (ns.length : Int) else 6) > 1 then (if (ns.length : Int) < 6 then (ns.length : Int) else 6) else 1) = m ∧ 1 ≤ m ∧ m ≤ 6 := ⟨_, rfl, by split <;> omega, by split <;> (try split) <;> omega⟩
    refine run_seqC (run_forR (n := m) (ea_cons (ev_is (ev_cb (ea_cons ev_int (ea_cons (ev_cb (ea_cons ev_int (ea_cons (ev_lenScr rfl) ea_nil)) rc_min2) ea_nil)) rc_max2) (congrArg Dat.int hm)) ea_nil) ⟨by omega, by omega⟩
      (fun i δ => ∃ s1 s2 s3 s4 s5 s6 s7 s8 s9 s10 s11 : Slot, δ = [.scr K ns, s1, s2, s3, s4, s5, s6, s7, s8, s9, s10, s11]) ⟨_, _, _, _, _, _, _, _, _, _, _, rfl⟩ ?_ ?_)
    · rintro i δ hi ⟨s1, s2, s3, s4, s5, s6, s7, s8, s9, s10, s11, rfl⟩
      refine run_seqC (run_crate (i := 0) (j := 1) (t := 2) rfl rfl (by omega) (by omega) fun ys hc => ?_)
      refine run_seqC (runx_asg (ex_lend (i := 2) (.inl rfl) (exa_of ea_nil ⟨ys, .inl rfl, ⟨0, hc, by decide, rfl⟩, fun x ds1 hR => ?_⟩)))
      obtain ⟨r, rfl, Dr, hk⟩ := hR
      have h1 := hk 0 hc
      clear hk
      have G := Dr.good
      have G1 := G.flag1
      have Sm := Dr.small
      refine run_seqC (runx_asg (ex_lend (i := 2) (.inl rfl) (exa_of (ea_cons (ev_var rfl) ea_nil) ⟨ds1, .inl rfl, ⟨_, r, h1, by decide, rfl, Sm⟩, fun x ds2 hR => ?_⟩)))
      obtain ⟨ln, rfl, b1, l1, hk⟩ := hR
      have h2 := hk _ h1
      clear hk
      have W1 := wd_of b1 (by omega)
      refine run_seq1 (run_asg (ev_call (ea_cons (ev_var rfl) (ea_cons (ev_var rfl) ea_nil)) ⟨r, ln, G, W1, rfl, rfl⟩) rfl) ?_
      have lb := borders_len r.flag ln G.flag0
      refine run_seqC (run_forR (n := 3) (ea_cons ev_int ea_nil) ⟨by decide, by decide⟩
        (fun t δ => ∃ ds' s t', δ = [.scr K ns, .d (.int (i : Int)), .o ds', .d r.dat, .d (w ln), .d (.lst ((bordersF r.flag ln).map fun a => .int (a : Nat))), s, t', s8, s9, s10, s11] ∧ CrOk ds' (160000 + t)) ⟨ds2, _, _, rfl, h2⟩ ?_ ?_)
      · rintro t δ ht ⟨ds', s, t', rfl, h3⟩
        have ne : ∀ {γ : Gam}, γ[5]? = some (Slot.d (.lst ((bordersF r.flag ln).map fun a => .int (a : Nat)))) → EvT (tTest (tOp (rNeD K) (tVar 5) (tLst tNil))) γ (!((bordersF r.flag ln).map fun a => Dat.int ((a : Nat) : Int)).isEmpty) := fun h => et_test (ev_op (ev_var h) (ev_ofN (en_lst ea_nil (Nat.zero_le _))) (r2_neNil (flat_ints _)))
        cases hb : bordersF r.flag ln with
        | nil =>
          rw [hb] at ne
          refine run_seqC (runx_asg (ex_ifP (b := false) (ne rfl) (fun z => by cases z) fun _ => ex_of ev_int ?_))
          exact run_if (b := false) (et_and (a := false) (b := false) (ne rfl) fun z => by cases z) (fun z => by cases z) fun _ => run_next ⟨_, _, _, rfl, h3.mono (by omega)⟩
        | cons b0 bs =>
          rw [hb] at ne lb
          rw [List.length_cons] at lb
          refine run_seqC (runx_asg (ex_ifP (b := true) (ne rfl) (fun _ => ex_opC (ex_of (ev_var rfl) (ex_haul (i := 2) (.inl rfl) (ev_lenL (er_ofD (ev_var rfl))) h3 (by omega) (by rw [List.length_map, List.length_cons]; omega) (by rw [List.length_map, List.length_cons]; omega) fun d ds4 d0 d1 h4 => ?_))) fun z => by cases z))
          rw [List.length_map] at d1
          obtain ⟨j, rfl⟩ := Int.eq_ofNat_of_zero_le d0
          have hj : j < (b0 :: bs).length := by omega
          have mem : (b0 :: bs)[j] ∈ bordersF r.flag ln := by
            rw [hb]
            exact List.getElem_mem hj
          refine ⟨_, r2_ixL (z := .int (((b0 :: bs)[j] : Nat) : Int)) (atI_nat (by rw [List.getElem?_map, List.getElem?_eq_getElem hj]; rfl)), ?_⟩
          refine run_if (b := false) (et_is (et_and (ne rfl) fun _ => et_not (et_B (ev_call (ea_cons (ev_var rfl) (ea_cons (ev_var rfl) (ea_cons (ev_var rfl) ea_nil))) ⟨r, ln, _, G, W1, mem, rfl, rfl⟩))) rfl) (fun z => by cases z) fun _ => run_next ⟨_, _, _, rfl, h4.mono (by omega)⟩
      · rintro δ ⟨ds', s, t', rfl, h3⟩
        refine run_seq1 (run_asg (ev_op (ev_var rfl) ev_int (r2_ixT (z := w r.flag) rfl)) rfl) ?_
        refine run_seqC (runx_asg (ex_opC (ex_lend (i := 2) (.inl rfl) (exa_of (ea_cons (ev_var rfl) (ea_cons ev_int ea_nil)) ⟨ds', .inl rfl, ⟨_, r, h3, by decide, rfl, Sm⟩, fun x ds4 hR => ?_⟩))))
        obtain ⟨X, rfl, bX, lX, hk⟩ := hR
        have h4 := hk _ h3
        clear hk
        refine ex_of (ev_var rfl) ⟨_, r2_catW (by omega), ?_⟩
        refine run_seqC (runx_asg (ex_opC (ex_of (ev_var rfl) (ex_lend (i := 2) (.inl rfl) (exa_of (ea_cons (ev_var rfl) (ea_cons ev_int ea_nil)) ⟨ds4, .inl rfl, ⟨_, r, h4, by decide, rfl, Sm⟩, fun x ds5 hR => ?_⟩)))))
        obtain ⟨Y, rfl, bY, lY, hk⟩ := hR
        refine ⟨_, r2_catW (by omega), ?_⟩
        have lXf : (X ++ r.flag).length = X.length + r.flag.length := List.length_append
        refine run_seq1 (run_asg (ev_op (ev_var rfl) (ev_is (ev_cut (ev_var rfl) (eo_some (ev_lenW (ev_var rfl))) eo_none) (congrArg w ((cutI_from _ _).trans List.drop_left))) (r2_catW (by omega))) rfl) ?_
        have W2 : Wd ((X ++ r.flag) ++ Y) := wd_of ((bX.app Sm.flag).app bY) (by rw [List.length_append]; omega)
        refine run_if (b := false) (et_is (et_not (et_B (ev_call (ea_cons (ev_var rfl) (ea_cons (ev_var rfl) (ea_cons (ev_is (ev_op (ev_lenW (ev_var rfl)) (ev_lenW (ev_var rfl)) r2_sub) (y := .int ((X.length : Nat) : Int)) (congrArg Dat.int (by omega))) ea_nil))) ⟨r, _, X.length, G, W2, mem_border X r.flag Y, rfl, rfl⟩))) rfl) (fun z => by cases z) fun _ => run_next ⟨_, _, _, _, _, _, _, _, _, _, _, rfl⟩
    · rintro δ _
      exact run_ret ev_bl rfl

end
end Fr

set_option Elab.async false
set_option linter.all false
set_option maxRecDepth 100000
set_option maxHeartbeats 4000000
namespace Fr
open PySem PySem.Spec PyProof.Rows L2
open Evl (Ex)
/-! # the end -/
structure Has (K : PySem.W.Frag) (x : Str) (st : Stmt) (ps : List Str) : Prop where
  ex : ∃ f fd, Fun K x x st f fd ∧ Binds K fd ps [] ∧ PySem.W.nsIn K mainGlobals x = some (some (.ref f)) ∧ PySem.W.keepIn K (.ref f) = true
theorem has_mk {K : PySem.W.Frag} {x : Str} {st : Stmt} {ps : List Str} {f : Addr} {oc : Value} {od an : Option Addr} {osl : Array (Option Value)} {kV doc pm cdv ct : Value} (a : PySem.W.nsIn K mainGlobals x = some (some (.ref f)))
    (l : K.lookup f = some ⟨oc, od, .func (PySem.W.fnOf x x (defArgs st) (defBody st) (defScope st) .none kV doc pm an cdv ct), osl⟩) (c : PySem.W.codeIn K cdv x = true) (k : PySem.W.keepIn K (.ref f) = true)
    (hb : ∀ (kV doc pm : Value) (an : Option Addr) (cdv ct : Value) (us : List Value), us.length = ps.length → bindArgs (PySem.W.fnOf x x (defArgs st) (defBody st) (defScope st) .none kV doc pm an cdv ct) ⟨us, []⟩ = pure (ps.zip us)) : Has K x st ps := ⟨_, _, fun_mk l c k, (fun_mk l c k).binds hb, a, k⟩
theorem b__law_crate : ∀ (kV doc pm : Value) (an : Option Addr) (cdv ct : Value) (us : List Value), us.length = (["script", "at"] : List Str).length → bindArgs (PySem.W.fnOf "_law_crate" "_law_crate" (defArgs s__law_crate) (defBody s__law_crate) (defScope s__law_crate) .none kV doc pm an cdv ct) ⟨us, []⟩ = pure ((["script", "at"] : List Str).zip us) :=
  fun _ _ _ _ _ _ us hl => match us, hl with | [_, _], _ => rfl
theorem b__law_haul : ∀ (kV doc pm : Value) (an : Option Addr) (cdv ct : Value) (us : List Value), us.length = (["crate", "below"] : List Str).length → bindArgs (PySem.W.fnOf "_law_haul" "_law_haul" (defArgs s__law_haul) (defBody s__law_haul) (defScope s__law_haul) .none kV doc pm an cdv ct) ⟨us, []⟩ = pure ((["crate", "below"] : List Str).zip us) :=
  fun _ _ _ _ _ _ us hl => match us, hl with | [_, _], _ => rfl
theorem b__law_bits : ∀ (kV doc pm : Value) (an : Option Addr) (cdv ct : Value) (us : List Value), us.length = (["crate", "size"] : List Str).length → bindArgs (PySem.W.fnOf "_law_bits" "_law_bits" (defArgs s__law_bits) (defBody s__law_bits) (defScope s__law_bits) .none kV doc pm an cdv ct) ⟨us, []⟩ = pure ((["crate", "size"] : List Str).zip us) :=
  fun _ _ _ _ _ _ us hl => match us, hl with | [_, _], _ => rfl
theorem b__law_drawn_rule : ∀ (kV doc pm : Value) (an : Option Addr) (cdv ct : Value) (us : List Value), us.length = (["crate", "flag_here", "word_here", "many_here", "top"] : List Str).length → bindArgs (PySem.W.fnOf "_law_drawn_rule" "_law_drawn_rule" (defArgs s__law_drawn_rule) (defBody s__law_drawn_rule) (defScope s__law_drawn_rule) .none kV doc pm an cdv ct) ⟨us, []⟩ = pure ((["crate", "flag_here", "word_here", "many_here", "top"] : List Str).zip us) :=
  fun _ _ _ _ _ _ us hl => match us, hl with | [_, _, _, _, _], _ => rfl
theorem b__law_rule : ∀ (kV doc pm : Value) (an : Option Addr) (cdv ct : Value) (us : List Value), us.length = (["crate"] : List Str).length → bindArgs (PySem.W.fnOf "_law_rule" "_law_rule" (defArgs s__law_rule) (defBody s__law_rule) (defScope s__law_rule) .none kV doc pm an cdv ct) ⟨us, []⟩ = pure ((["crate"] : List Str).zip us) :=
  fun _ _ _ _ _ _ us hl => match us, hl with | [_], _ => rfl
theorem b__law_put : ∀ (kV doc pm : Value) (an : Option Addr) (cdv ct : Value) (us : List Value), us.length = (["rows", "line"] : List Str).length → bindArgs (PySem.W.fnOf "_law_put" "_law_put" (defArgs s__law_put) (defBody s__law_put) (defScope s__law_put) .none kV doc pm an cdv ct) ⟨us, []⟩ = pure ((["rows", "line"] : List Str).zip us) :=
  fun _ _ _ _ _ _ us hl => match us, hl with | [_, _], _ => rfl
theorem b__law_sum_bits : ∀ (kV doc pm : Value) (an : Option Addr) (cdv ct : Value) (us : List Value), us.length = (["rule_here", "payload_here"] : List Str).length → bindArgs (PySem.W.fnOf "_law_sum_bits" "_law_sum_bits" (defArgs s__law_sum_bits) (defBody s__law_sum_bits) (defScope s__law_sum_bits) .none kV doc pm an cdv ct) ⟨us, []⟩ = pure ((["rule_here", "payload_here"] : List Str).zip us) :=
  fun _ _ _ _ _ _ us hl => match us, hl with | [_, _], _ => rfl
theorem b__law_frame : ∀ (kV doc pm : Value) (an : Option Addr) (cdv ct : Value) (us : List Value), us.length = (["rule_here", "payload_here"] : List Str).length → bindArgs (PySem.W.fnOf "_law_frame" "_law_frame" (defArgs s__law_frame) (defBody s__law_frame) (defScope s__law_frame) .none kV doc pm an cdv ct) ⟨us, []⟩ = pure ((["rule_here", "payload_here"] : List Str).zip us) :=
  fun _ _ _ _ _ _ us hl => match us, hl with | [_, _], _ => rfl
theorem b__law_spoilt : ∀ (kV doc pm : Value) (an : Option Addr) (cdv ct : Value) (us : List Value), us.length = (["line", "change_here"] : List Str).length → bindArgs (PySem.W.fnOf "_law_spoilt" "_law_spoilt" (defArgs s__law_spoilt) (defBody s__law_spoilt) (defScope s__law_spoilt) .none kV doc pm an cdv ct) ⟨us, []⟩ = pure ((["line", "change_here"] : List Str).zip us) :=
  fun _ _ _ _ _ _ us hl => match us, hl with | [_, _], _ => rfl
theorem b__law_change : ∀ (kV doc pm : Value) (an : Option Addr) (cdv ct : Value) (us : List Value), us.length = (["crate", "line"] : List Str).length → bindArgs (PySem.W.fnOf "_law_change" "_law_change" (defArgs s__law_change) (defBody s__law_change) (defScope s__law_change) .none kV doc pm an cdv ct) ⟨us, []⟩ = pure ((["crate", "line"] : List Str).zip us) :=
  fun _ _ _ _ _ _ us hl => match us, hl with | [_, _], _ => rfl
theorem b__law_long_line : ∀ (kV doc pm : Value) (an : Option Addr) (cdv ct : Value) (us : List Value), us.length = (["crate", "rule_here"] : List Str).length → bindArgs (PySem.W.fnOf "_law_long_line" "_law_long_line" (defArgs s__law_long_line) (defBody s__law_long_line) (defScope s__law_long_line) .none kV doc pm an cdv ct) ⟨us, []⟩ = pure ((["crate", "rule_here"] : List Str).zip us) :=
  fun _ _ _ _ _ _ us hl => match us, hl with | [_, _], _ => rfl
theorem b_is_number : ∀ (kV doc pm : Value) (an : Option Addr) (cdv ct : Value) (us : List Value), us.length = (["value"] : List Str).length → bindArgs (PySem.W.fnOf "is_number" "is_number" (defArgs s_is_number) (defBody s_is_number) (defScope s_is_number) .none kV doc pm an cdv ct) ⟨us, []⟩ = pure ((["value"] : List Str).zip us) :=
  fun _ _ _ _ _ _ us hl => match us, hl with | [_], _ => rfl
theorem b_is_bit : ∀ (kV doc pm : Value) (an : Option Addr) (cdv ct : Value) (us : List Value), us.length = (["value"] : List Str).length → bindArgs (PySem.W.fnOf "is_bit" "is_bit" (defArgs s_is_bit) (defBody s_is_bit) (defScope s_is_bit) .none kV doc pm an cdv ct) ⟨us, []⟩ = pure ((["value"] : List Str).zip us) :=
  fun _ _ _ _ _ _ us hl => match us, hl with | [_], _ => rfl
theorem b_is_word : ∀ (kV doc pm : Value) (an : Option Addr) (cdv ct : Value) (us : List Value), us.length = (["value"] : List Str).length → bindArgs (PySem.W.fnOf "is_word" "is_word" (defArgs s_is_word) (defBody s_is_word) (defScope s_is_word) .none kV doc pm an cdv ct) ⟨us, []⟩ = pure ((["value"] : List Str).zip us) :=
  fun _ _ _ _ _ _ us hl => match us, hl with | [_], _ => rfl
theorem b_is_full_word : ∀ (kV doc pm : Value) (an : Option Addr) (cdv ct : Value) (us : List Value), us.length = (["value"] : List Str).length → bindArgs (PySem.W.fnOf "is_full_word" "is_full_word" (defArgs s_is_full_word) (defBody s_is_full_word) (defScope s_is_full_word) .none kV doc pm an cdv ct) ⟨us, []⟩ = pure ((["value"] : List Str).zip us) :=
  fun _ _ _ _ _ _ us hl => match us, hl with | [_], _ => rfl
theorem b_is_insert : ∀ (kV doc pm : Value) (an : Option Addr) (cdv ct : Value) (us : List Value), us.length = (["value"] : List Str).length → bindArgs (PySem.W.fnOf "is_insert" "is_insert" (defArgs s_is_insert) (defBody s_is_insert) (defScope s_is_insert) .none kV doc pm an cdv ct) ⟨us, []⟩ = pure ((["value"] : List Str).zip us) :=
  fun _ _ _ _ _ _ us hl => match us, hl with | [_], _ => rfl
theorem b__are_inserts : ∀ (kV doc pm : Value) (an : Option Addr) (cdv ct : Value) (us : List Value), us.length = (["value"] : List Str).length → bindArgs (PySem.W.fnOf "_are_inserts" "_are_inserts" (defArgs s__are_inserts) (defBody s__are_inserts) (defScope s__are_inserts) .none kV doc pm an cdv ct) ⟨us, []⟩ = pure ((["value"] : List Str).zip us) :=
  fun _ _ _ _ _ _ us hl => match us, hl with | [_], _ => rfl
theorem b_is_rule : ∀ (kV doc pm : Value) (an : Option Addr) (cdv ct : Value) (us : List Value), us.length = (["value"] : List Str).length → bindArgs (PySem.W.fnOf "is_rule" "is_rule" (defArgs s_is_rule) (defBody s_is_rule) (defScope s_is_rule) .none kV doc pm an cdv ct) ⟨us, []⟩ = pure ((["value"] : List Str).zip us) :=
  fun _ _ _ _ _ _ us hl => match us, hl with | [_], _ => rfl
theorem b_need_rule : ∀ (kV doc pm : Value) (an : Option Addr) (cdv ct : Value) (us : List Value), us.length = (["value"] : List Str).length → bindArgs (PySem.W.fnOf "need_rule" "need_rule" (defArgs s_need_rule) (defBody s_need_rule) (defScope s_need_rule) .none kV doc pm an cdv ct) ⟨us, []⟩ = pure ((["value"] : List Str).zip us) :=
  fun _ _ _ _ _ _ us hl => match us, hl with | [_], _ => rfl
theorem b_need_bits : ∀ (kV doc pm : Value) (an : Option Addr) (cdv ct : Value) (us : List Value), us.length = (["value"] : List Str).length → bindArgs (PySem.W.fnOf "need_bits" "need_bits" (defArgs s_need_bits) (defBody s_need_bits) (defScope s_need_bits) .none kV doc pm an cdv ct) ⟨us, []⟩ = pure ((["value"] : List Str).zip us) :=
  fun _ _ _ _ _ _ us hl => match us, hl with | [_], _ => rfl
theorem b_borders : ∀ (kV doc pm : Value) (an : Option Addr) (cdv ct : Value) (us : List Value), us.length = (["rule", "bits"] : List Str).length → bindArgs (PySem.W.fnOf "borders" "borders" (defArgs s_borders) (defBody s_borders) (defScope s_borders) .none kV doc pm an cdv ct) ⟨us, []⟩ = pure ((["rule", "bits"] : List Str).zip us) :=
  fun _ _ _ _ _ _ us hl => match us, hl with | [_, _], _ => rfl
theorem b__law_stream : ∀ (kV doc pm : Value) (an : Option Addr) (cdv ct : Value) (us : List Value), us.length = (["rule_here", "many"] : List Str).length → bindArgs (PySem.W.fnOf "_law_stream" "_law_stream" (defArgs s__law_stream) (defBody s__law_stream) (defScope s__law_stream) .none kV doc pm an cdv ct) ⟨us, []⟩ = pure ((["rule_here", "many"] : List Str).zip us) :=
  fun _ _ _ _ _ _ us hl => match us, hl with | [_, _], _ => rfl
theorem b__law_list : ∀ (kV doc pm : Value) (an : Option Addr) (cdv ct : Value) (us : List Value), us.length = (["crate", "many_here", "size"] : List Str).length → bindArgs (PySem.W.fnOf "_law_list" "_law_list" (defArgs s__law_list) (defBody s__law_list) (defScope s__law_list) .none kV doc pm an cdv ct) ⟨us, []⟩ = pure ((["crate", "many_here", "size"] : List Str).zip us) :=
  fun _ _ _ _ _ _ us hl => match us, hl with | [_, _, _], _ => rfl
theorem b__law_line : ∀ (kV doc pm : Value) (an : Option Addr) (cdv ct : Value) (us : List Value), us.length = (["crate", "rule_here", "most"] : List Str).length → bindArgs (PySem.W.fnOf "_law_line" "_law_line" (defArgs s__law_line) (defBody s__law_line) (defScope s__law_line) .none kV doc pm an cdv ct) ⟨us, []⟩ = pure ((["crate", "rule_here", "most"] : List Str).zip us) :=
  fun _ _ _ _ _ _ us hl => match us, hl with | [_, _, _], _ => rfl
theorem b__due : ∀ (kV doc pm : Value) (an : Option Addr) (cdv ct : Value) (us : List Value), us.length = (["bits", "tail"] : List Str).length → bindArgs (PySem.W.fnOf "_due" "_due" (defArgs s__due) (defBody s__due) (defScope s__due) .none kV doc pm an cdv ct) ⟨us, []⟩ = pure ((["bits", "tail"] : List Str).zip us) :=
  fun _ _ _ _ _ _ us hl => match us, hl with | [_, _], _ => rfl
theorem b_put_table : ∀ (kV doc pm : Value) (an : Option Addr) (cdv ct : Value) (us : List Value), us.length = (["inserts"] : List Str).length → bindArgs (PySem.W.fnOf "put_table" "put_table" (defArgs s_put_table) (defBody s_put_table) (defScope s_put_table) .none kV doc pm an cdv ct) ⟨us, []⟩ = pure ((["inserts"] : List Str).zip us) :=
  fun _ _ _ _ _ _ us hl => match us, hl with | [_], _ => rfl
theorem b_next_tail : ∀ (kV doc pm : Value) (an : Option Addr) (cdv ct : Value) (us : List Value), us.length = (["table", "tail", "bit"] : List Str).length → bindArgs (PySem.W.fnOf "next_tail" "next_tail" (defArgs s_next_tail) (defBody s_next_tail) (defScope s_next_tail) .none kV doc pm an cdv ct) ⟨us, []⟩ = pure ((["table", "tail", "bit"] : List Str).zip us) :=
  fun _ _ _ _ _ _ us hl => match us, hl with | [_, _, _], _ => rfl
theorem b_tail_of_flag : ∀ (kV doc pm : Value) (an : Option Addr) (cdv ct : Value) (us : List Value), us.length = (["table", "flag"] : List Str).length → bindArgs (PySem.W.fnOf "tail_of_flag" "tail_of_flag" (defArgs s_tail_of_flag) (defBody s_tail_of_flag) (defScope s_tail_of_flag) .none kV doc pm an cdv ct) ⟨us, []⟩ = pure ((["table", "flag"] : List Str).zip us) :=
  fun _ _ _ _ _ _ us hl => match us, hl with | [_, _], _ => rfl
theorem b_check_bits : ∀ (kV doc pm : Value) (an : Option Addr) (cdv ct : Value) (us : List Value), us.length = (["check", "ones"] : List Str).length → bindArgs (PySem.W.fnOf "check_bits" "check_bits" (defArgs s_check_bits) (defBody s_check_bits) (defScope s_check_bits) .none kV doc pm an cdv ct) ⟨us, []⟩ = pure ((["check", "ones"] : List Str).zip us) :=
  fun _ _ _ _ _ _ us hl => match us, hl with | [_, _], _ => rfl
theorem b__payload : ∀ (kV doc pm : Value) (an : Option Addr) (cdv ct : Value) (us : List Value), us.length = (["check", "read"] : List Str).length → bindArgs (PySem.W.fnOf "_payload" "_payload" (defArgs s__payload) (defBody s__payload) (defScope s__payload) .none kV doc pm an cdv ct) ⟨us, []⟩ = pure ((["check", "read"] : List Str).zip us) :=
  fun _ _ _ _ _ _ us hl => match us, hl with | [_, _], _ => rfl
theorem b__answer : ∀ (kV doc pm : Value) (an : Option Addr) (cdv ct : Value) (us : List Value), us.length = (["rule", "table", "text"] : List Str).length → bindArgs (PySem.W.fnOf "_answer" "_answer" (defArgs s__answer) (defBody s__answer) (defScope s__answer) .none kV doc pm an cdv ct) ⟨us, []⟩ = pure ((["rule", "table", "text"] : List Str).zip us) :=
  fun _ _ _ _ _ _ us hl => match us, hl with | [_, _, _], _ => rfl
theorem b_answers : ∀ (kV doc pm : Value) (an : Option Addr) (cdv ct : Value) (us : List Value), us.length = (["rule", "bits"] : List Str).length → bindArgs (PySem.W.fnOf "answers" "answers" (defArgs s_answers) (defBody s_answers) (defScope s_answers) .none kV doc pm an cdv ct) ⟨us, []⟩ = pure ((["rule", "bits"] : List Str).zip us) :=
  fun _ _ _ _ _ _ us hl => match us, hl with | [_, _], _ => rfl
theorem b_loose : ∀ (kV doc pm : Value) (an : Option Addr) (cdv ct : Value) (us : List Value), us.length = (["rule", "bits"] : List Str).length → bindArgs (PySem.W.fnOf "loose" "loose" (defArgs s_loose) (defBody s_loose) (defScope s_loose) .none kV doc pm an cdv ct) ⟨us, []⟩ = pure ((["rule", "bits"] : List Str).zip us) :=
  fun _ _ _ _ _ _ us hl => match us, hl with | [_, _], _ => rfl
theorem b_is_stream : ∀ (kV doc pm : Value) (an : Option Addr) (cdv ct : Value) (us : List Value), us.length = (["rule", "bits"] : List Str).length → bindArgs (PySem.W.fnOf "is_stream" "is_stream" (defArgs s_is_stream) (defBody s_is_stream) (defScope s_is_stream) .none kV doc pm an cdv ct) ⟨us, []⟩ = pure ((["rule", "bits"] : List Str).zip us) :=
  fun _ _ _ _ _ _ us hl => match us, hl with | [_, _], _ => rfl
theorem b__law_parted_right : ∀ (kV doc pm : Value) (an : Option Addr) (cdv ct : Value) (us : List Value), us.length = (["rule_here", "line", "spot"] : List Str).length → bindArgs (PySem.W.fnOf "_law_parted_right" "_law_parted_right" (defArgs s__law_parted_right) (defBody s__law_parted_right) (defScope s__law_parted_right) .none kV doc pm an cdv ct) ⟨us, []⟩ = pure ((["rule_here", "line", "spot"] : List Str).zip us) :=
  fun _ _ _ _ _ _ us hl => match us, hl with | [_, _, _], _ => rfl
theorem all_mk {P : Program} {w0 : World} {K : PySem.W.Frag} {h : Heap} {mg : Str → Option Value} {fa f : Addr} (X : K.In h) (G : h.Ns mainGlobals mg) (hfa : mg "law" = some (.ref fa))
    (D__law_crate : Has K "_law_crate" s__law_crate ["script", "at"])
    (D__law_haul : Has K "_law_haul" s__law_haul ["crate", "below"])
    (D__law_bits : Has K "_law_bits" s__law_bits ["crate", "size"])
    (D__law_drawn_rule : Has K "_law_drawn_rule" s__law_drawn_rule ["crate", "flag_here", "word_here", "many_here", "top"])
    (D__law_rule : Has K "_law_rule" s__law_rule ["crate"])
    (D__law_put : Has K "_law_put" s__law_put ["rows", "line"])
    (D__law_sum_bits : Has K "_law_sum_bits" s__law_sum_bits ["rule_here", "payload_here"])
    (D__law_frame : Has K "_law_frame" s__law_frame ["rule_here", "payload_here"])
    (D__law_spoilt : Has K "_law_spoilt" s__law_spoilt ["line", "change_here"])
    (D__law_change : Has K "_law_change" s__law_change ["crate", "line"])
    (D__law_long_line : Has K "_law_long_line" s__law_long_line ["crate", "rule_here"])
    (D_is_number : Has K "is_number" s_is_number ["value"])
    (D_is_bit : Has K "is_bit" s_is_bit ["value"])
    (D_is_word : Has K "is_word" s_is_word ["value"])
    (D_is_full_word : Has K "is_full_word" s_is_full_word ["value"])
    (D_is_insert : Has K "is_insert" s_is_insert ["value"])
    (D__are_inserts : Has K "_are_inserts" s__are_inserts ["value"])
    (D_is_rule : Has K "is_rule" s_is_rule ["value"])
    (D_need_rule : Has K "need_rule" s_need_rule ["value"])
    (D_need_bits : Has K "need_bits" s_need_bits ["value"])
    (D_borders : Has K "borders" s_borders ["rule", "bits"])
    (D__law_stream : Has K "_law_stream" s__law_stream ["rule_here", "many"])
    (D__law_list : Has K "_law_list" s__law_list ["crate", "many_here", "size"])
    (D__law_line : Has K "_law_line" s__law_line ["crate", "rule_here", "most"])
    (D__due : Has K "_due" s__due ["bits", "tail"])
    (D_put_table : Has K "put_table" s_put_table ["inserts"])
    (D_next_tail : Has K "next_tail" s_next_tail ["table", "tail", "bit"])
    (D_tail_of_flag : Has K "tail_of_flag" s_tail_of_flag ["table", "flag"])
    (D_check_bits : Has K "check_bits" s_check_bits ["check", "ones"])
    (D__payload : Has K "_payload" s__payload ["check", "read"])
    (D__answer : Has K "_answer" s__answer ["rule", "table", "text"])
    (D_answers : Has K "answers" s_answers ["rule", "bits"])
    (D_loose : Has K "loose" s_loose ["rule", "bits"])
    (D_is_stream : Has K "is_stream" s_is_stream ["rule", "bits"])
    (D__law_parted_right : Has K "_law_parted_right" s__law_parted_right ["rule_here", "line", "spot"])
    (Z_isinstance : PySem.W.nsIn K mainGlobals "isinstance" = some none)
    (Z_int : PySem.W.nsIn K mainGlobals "int" = some none)
    (Z_bool : PySem.W.nsIn K mainGlobals "bool" = some none)
    (Z_tuple : PySem.W.nsIn K mainGlobals "tuple" = some none)
    (Z_list : PySem.W.nsIn K mainGlobals "list" = some none)
    (Z_str : PySem.W.nsIn K mainGlobals "str" = some none)
    (Z_all : PySem.W.nsIn K mainGlobals "all" = some none)
    (Z_len : PySem.W.nsIn K mainGlobals "len" = some none)
    (Z_range : PySem.W.nsIn K mainGlobals "range" = some none)
    (Z_reversed : PySem.W.nsIn K mainGlobals "reversed" = some none)
    (Z_zip : PySem.W.nsIn K mainGlobals "zip" = some none)
    (Z_sum : PySem.W.nsIn K mainGlobals "sum" = some none)
    (Z_max : PySem.W.nsIn K mainGlobals "max" = some none)
    (Z_min : PySem.W.nsIn K mainGlobals "min" = some none)
    (Z_abs : PySem.W.nsIn K mainGlobals "abs" = some none)
    (Z_sorted : PySem.W.nsIn K mainGlobals "sorted" = some none)
    {od an : Option Addr} {sl : Array (Option Value)} {oc kV dc pm cd ct : Value} (aL : PySem.W.nsIn K mainGlobals "law" = some (some (.ref f)))
    (lL : K.lookup f = some ⟨oc, od, .func (PySem.W.fnOf "law" "law" (defArgs s_law) (defBody s_law) (defScope s_law) .none kV dc pm an cd ct), sl⟩) (cL : PySem.W.codeIn K cd "law" = true) (kL : PySem.W.keepIn K (.ref f) = true) :
    ∃ fd : FuncData, (∀ (s : Shared) (v : Value), BindsTo s fd ⟨[v], []⟩ [("script", v)]) ∧ ∀ base : Heap, K.In base → base.Ns mainGlobals mg → FnOk P w0 K mg base CX0 13 fa fd ["script"] (spLaw K) := by
  have e := hfa.symm.trans (PySem.W.mg_of X G aL)
  cases e
  have T : Bs mg := ⟨PySem.W.mg_none_of X G Z_isinstance, PySem.W.mg_none_of X G Z_int, PySem.W.mg_none_of X G Z_bool, PySem.W.mg_none_of X G Z_tuple, PySem.W.mg_none_of X G Z_list, PySem.W.mg_none_of X G Z_str, PySem.W.mg_none_of X G Z_all, PySem.W.mg_none_of X G Z_len, PySem.W.mg_none_of X G Z_range, PySem.W.mg_none_of X G Z_reversed, PySem.W.mg_none_of X G Z_zip, PySem.W.mg_none_of X G Z_sum, PySem.W.mg_none_of X G Z_max, PySem.W.mg_none_of X G Z_min, PySem.W.mg_none_of X G Z_abs, PySem.W.mg_none_of X G Z_sorted⟩
  obtain ⟨f__law_crate, d__law_crate, F__law_crate, B__law_crate, A__law_crate, K__law_crate⟩ := D__law_crate.ex
  obtain ⟨f__law_haul, d__law_haul, F__law_haul, B__law_haul, A__law_haul, K__law_haul⟩ := D__law_haul.ex
  obtain ⟨f__law_bits, d__law_bits, F__law_bits, B__law_bits, A__law_bits, K__law_bits⟩ := D__law_bits.ex
  obtain ⟨f__law_drawn_rule, d__law_drawn_rule, F__law_drawn_rule, B__law_drawn_rule, A__law_drawn_rule, K__law_drawn_rule⟩ := D__law_drawn_rule.ex
  obtain ⟨f__law_rule, d__law_rule, F__law_rule, B__law_rule, A__law_rule, K__law_rule⟩ := D__law_rule.ex
  obtain ⟨f__law_put, d__law_put, F__law_put, B__law_put, A__law_put, K__law_put⟩ := D__law_put.ex
  obtain ⟨f__law_sum_bits, d__law_sum_bits, F__law_sum_bits, B__law_sum_bits, A__law_sum_bits, K__law_sum_bits⟩ := D__law_sum_bits.ex
  obtain ⟨f__law_frame, d__law_frame, F__law_frame, B__law_frame, A__law_frame, K__law_frame⟩ := D__law_frame.ex
  obtain ⟨f__law_spoilt, d__law_spoilt, F__law_spoilt, B__law_spoilt, A__law_spoilt, K__law_spoilt⟩ := D__law_spoilt.ex
  obtain ⟨f__law_change, d__law_change, F__law_change, B__law_change, A__law_change, K__law_change⟩ := D__law_change.ex
  obtain ⟨f__law_long_line, d__law_long_line, F__law_long_line, B__law_long_line, A__law_long_line, K__law_long_line⟩ := D__law_long_line.ex
  obtain ⟨f_is_number, d_is_number, F_is_number, B_is_number, A_is_number, K_is_number⟩ := D_is_number.ex
  obtain ⟨f_is_bit, d_is_bit, F_is_bit, B_is_bit, A_is_bit, K_is_bit⟩ := D_is_bit.ex
  obtain ⟨f_is_word, d_is_word, F_is_word, B_is_word, A_is_word, K_is_word⟩ := D_is_word.ex
  obtain ⟨f_is_full_word, d_is_full_word, F_is_full_word, B_is_full_word, A_is_full_word, K_is_full_word⟩ := D_is_full_word.ex
  obtain ⟨f_is_insert, d_is_insert, F_is_insert, B_is_insert, A_is_insert, K_is_insert⟩ := D_is_insert.ex
  obtain ⟨f__are_inserts, d__are_inserts, F__are_inserts, B__are_inserts, A__are_inserts, K__are_inserts⟩ := D__are_inserts.ex
  obtain ⟨f_is_rule, d_is_rule, F_is_rule, B_is_rule, A_is_rule, K_is_rule⟩ := D_is_rule.ex
  obtain ⟨f_need_rule, d_need_rule, F_need_rule, B_need_rule, A_need_rule, K_need_rule⟩ := D_need_rule.ex
  obtain ⟨f_need_bits, d_need_bits, F_need_bits, B_need_bits, A_need_bits, K_need_bits⟩ := D_need_bits.ex
  obtain ⟨f_borders, d_borders, F_borders, B_borders, A_borders, K_borders⟩ := D_borders.ex
  obtain ⟨f__law_stream, d__law_stream, F__law_stream, B__law_stream, A__law_stream, K__law_stream⟩ := D__law_stream.ex
  obtain ⟨f__law_list, d__law_list, F__law_list, B__law_list, A__law_list, K__law_list⟩ := D__law_list.ex
  obtain ⟨f__law_line, d__law_line, F__law_line, B__law_line, A__law_line, K__law_line⟩ := D__law_line.ex
  obtain ⟨f__due, d__due, F__due, B__due, A__due, K__due⟩ := D__due.ex
  obtain ⟨f_put_table, d_put_table, F_put_table, B_put_table, A_put_table, K_put_table⟩ := D_put_table.ex
  obtain ⟨f_next_tail, d_next_tail, F_next_tail, B_next_tail, A_next_tail, K_next_tail⟩ := D_next_tail.ex
  obtain ⟨f_tail_of_flag, d_tail_of_flag, F_tail_of_flag, B_tail_of_flag, A_tail_of_flag, K_tail_of_flag⟩ := D_tail_of_flag.ex
  obtain ⟨f_check_bits, d_check_bits, F_check_bits, B_check_bits, A_check_bits, K_check_bits⟩ := D_check_bits.ex
  obtain ⟨f__payload, d__payload, F__payload, B__payload, A__payload, K__payload⟩ := D__payload.ex
  obtain ⟨f__answer, d__answer, F__answer, B__answer, A__answer, K__answer⟩ := D__answer.ex
  obtain ⟨f_answers, d_answers, F_answers, B_answers, A_answers, K_answers⟩ := D_answers.ex
  obtain ⟨f_loose, d_loose, F_loose, B_loose, A_loose, K_loose⟩ := D_loose.ex
  obtain ⟨f_is_stream, d_is_stream, F_is_stream, B_is_stream, A_is_stream, K_is_stream⟩ := D_is_stream.ex
  obtain ⟨f__law_parted_right, d__law_parted_right, F__law_parted_right, B__law_parted_right, A__law_parted_right, K__law_parted_right⟩ := D__law_parted_right.ex
  refine ⟨PySem.W.fnOf "law" "law" (defArgs s_law) (defBody s_law) (defScope s_law) .none kV dc pm an cd ct, fun s v => .of_eq rfl, fun base _ _ => ?_⟩
  have C__law_crate : CalS P w0 K mg base "_law_crate" ["script", "at"] 1 (PrS K) f__law_crate d__law_crate := ⟨ok__law_crate F__law_crate  T, B__law_crate, PySem.W.mg_of X G A__law_crate, K__law_crate⟩
  have C__law_haul : CalS P w0 K mg base "_law_haul" ["crate", "below"] 1 (PrC Rf__law_haul Pre__law_haul) f__law_haul d__law_haul := ⟨ok__law_haul F__law_haul  T, B__law_haul, PySem.W.mg_of X G A__law_haul, K__law_haul⟩
  have C__law_bits : CalS P w0 K mg base "_law_bits" ["crate", "size"] 2 (PrC Rf__law_bits Pre__law_bits) f__law_bits d__law_bits := ⟨ok__law_bits F__law_bits C__law_haul T, B__law_bits, PySem.W.mg_of X G A__law_bits, K__law_bits⟩
  have C__law_drawn_rule : CalS P w0 K mg base "_law_drawn_rule" ["crate", "flag_here", "word_here", "many_here", "top"] 3 (PrC Rf__law_drawn_rule Pre__law_drawn_rule) f__law_drawn_rule d__law_drawn_rule := ⟨ok__law_drawn_rule F__law_drawn_rule C__law_bits C__law_haul T, B__law_drawn_rule, PySem.W.mg_of X G A__law_drawn_rule, K__law_drawn_rule⟩
  have C__law_rule : CalS P w0 K mg base "_law_rule" ["crate"] 4 (PrC Rf__law_rule Pre__law_rule) f__law_rule d__law_rule := ⟨ok__law_rule F__law_rule C__law_haul C__law_drawn_rule, B__law_rule, PySem.W.mg_of X G A__law_rule, K__law_rule⟩
  have C__law_put : CalS P w0 K mg base "_law_put" ["rows", "line"] 1 (PrX Pre__law_put Rf__law_put) f__law_put d__law_put := ⟨ok__law_put F__law_put  T, B__law_put, PySem.W.mg_of X G A__law_put, K__law_put⟩
  have C__law_sum_bits : CalS P w0 K mg base "_law_sum_bits" ["rule_here", "payload_here"] 1 (PrX Pre__law_sum_bits Rf__law_sum_bits) f__law_sum_bits d__law_sum_bits := ⟨ok__law_sum_bits F__law_sum_bits  T, B__law_sum_bits, PySem.W.mg_of X G A__law_sum_bits, K__law_sum_bits⟩
  have C__law_frame : CalS P w0 K mg base "_law_frame" ["rule_here", "payload_here"] 2 (PrX Pre__law_frame Rf__law_frame) f__law_frame d__law_frame := ⟨ok__law_frame F__law_frame C__law_put C__law_sum_bits, B__law_frame, PySem.W.mg_of X G A__law_frame, K__law_frame⟩
  have C__law_spoilt : CalS P w0 K mg base "_law_spoilt" ["line", "change_here"] 1 (PrX Pre__law_spoilt Rf__law_spoilt) f__law_spoilt d__law_spoilt := ⟨ok__law_spoilt F__law_spoilt , B__law_spoilt, PySem.W.mg_of X G A__law_spoilt, K__law_spoilt⟩
  have C__law_change : CalS P w0 K mg base "_law_change" ["crate", "line"] 2 (PrC Rf__law_change Pre__law_change) f__law_change d__law_change := ⟨ok__law_change F__law_change C__law_haul T, B__law_change, PySem.W.mg_of X G A__law_change, K__law_change⟩
  have C__law_long_line : CalS P w0 K mg base "_law_long_line" ["crate", "rule_here"] 3 (PrC Rf__law_long_line Pre__law_long_line) f__law_long_line d__law_long_line := ⟨ok__law_long_line F__law_long_line C__law_haul C__law_bits C__law_frame C__law_spoilt C__law_change T, B__law_long_line, PySem.W.mg_of X G A__law_long_line, K__law_long_line⟩
  have C_is_number : Cal P w0 K mg base "is_number" ["value"] 1 R_is_number f_is_number d_is_number := ⟨ok_is_number F_is_number  T, B_is_number, PySem.W.mg_of X G A_is_number, K_is_number⟩
  have C_is_bit : Cal P w0 K mg base "is_bit" ["value"] 2 R_is_bit f_is_bit d_is_bit := ⟨ok_is_bit F_is_bit C_is_number, B_is_bit, PySem.W.mg_of X G A_is_bit, K_is_bit⟩
  have C_is_word : Cal P w0 K mg base "is_word" ["value"] 3 R_is_word f_is_word d_is_word := ⟨ok_is_word F_is_word C_is_bit T, B_is_word, PySem.W.mg_of X G A_is_word, K_is_word⟩
  have C_is_full_word : Cal P w0 K mg base "is_full_word" ["value"] 4 R_is_full_word f_is_full_word d_is_full_word := ⟨ok_is_full_word F_is_full_word C_is_word T, B_is_full_word, PySem.W.mg_of X G A_is_full_word, K_is_full_word⟩
  have C_is_insert : Cal P w0 K mg base "is_insert" ["value"] 5 R_is_insert f_is_insert d_is_insert := ⟨ok_is_insert F_is_insert C_is_full_word C_is_bit T, B_is_insert, PySem.W.mg_of X G A_is_insert, K_is_insert⟩
  have C__are_inserts : Cal P w0 K mg base "_are_inserts" ["value"] 6 R__are_inserts f__are_inserts d__are_inserts := ⟨ok__are_inserts F__are_inserts C_is_insert T, B__are_inserts, PySem.W.mg_of X G A__are_inserts, K__are_inserts⟩
  have C_is_rule : Cal P w0 K mg base "is_rule" ["value"] 7 R_is_rule f_is_rule d_is_rule := ⟨ok_is_rule F_is_rule C_is_full_word C__are_inserts C_is_number T, B_is_rule, PySem.W.mg_of X G A_is_rule, K_is_rule⟩
  have C_need_rule : Cal P w0 K mg base "need_rule" ["value"] 8 R_need_rule f_need_rule d_need_rule := ⟨ok_need_rule F_need_rule C_is_rule, B_need_rule, PySem.W.mg_of X G A_need_rule, K_need_rule⟩
  have C_need_bits : Cal P w0 K mg base "need_bits" ["value"] 4 R_need_bits f_need_bits d_need_bits := ⟨ok_need_bits F_need_bits C_is_word, B_need_bits, PySem.W.mg_of X G A_need_bits, K_need_bits⟩
  have C_borders : Cal P w0 K mg base "borders" ["rule", "bits"] 9 R_borders f_borders d_borders := ⟨ok_borders F_borders C_need_rule C_need_bits T, B_borders, PySem.W.mg_of X G A_borders, K_borders⟩
  have C__law_stream : CalS P w0 K mg base "_law_stream" ["rule_here", "many"] 3 (PrX Pre__law_stream Rf__law_stream) f__law_stream d__law_stream := ⟨ok__law_stream F__law_stream C__law_frame, B__law_stream, PySem.W.mg_of X G A__law_stream, K__law_stream⟩
  have C__law_list : CalS P w0 K mg base "_law_list" ["crate", "many_here", "size"] 3 (PrC Rf__law_list Pre__law_list) f__law_list d__law_list := ⟨ok__law_list F__law_list C__law_bits C__law_haul T, B__law_list, PySem.W.mg_of X G A__law_list, K__law_list⟩
  have C__law_line : CalS P w0 K mg base "_law_line" ["crate", "rule_here", "most"] 4 (PrC Rf__law_line Pre__law_line) f__law_line d__law_line := ⟨ok__law_line F__law_line C__law_haul C__law_stream C__law_bits C__law_list C__law_spoilt C__law_change T, B__law_line, PySem.W.mg_of X G A__law_line, K__law_line⟩
  have C__due : Cal P w0 K mg base "_due" ["bits", "tail"] 1 R__due f__due d__due := ⟨ok__due F__due  T, B__due, PySem.W.mg_of X G A__due, K__due⟩
  have C_put_table : Cal P w0 K mg base "put_table" ["inserts"] 2 R_put_table f_put_table d_put_table := ⟨ok_put_table F_put_table C__due T, B_put_table, PySem.W.mg_of X G A_put_table, K_put_table⟩
  have C_next_tail : Cal P w0 K mg base "next_tail" ["table", "tail", "bit"] 1 R_next_tail f_next_tail d_next_tail := ⟨ok_next_tail F_next_tail , B_next_tail, PySem.W.mg_of X G A_next_tail, K_next_tail⟩
  have C_tail_of_flag : Cal P w0 K mg base "tail_of_flag" ["table", "flag"] 2 R_tail_of_flag f_tail_of_flag d_tail_of_flag := ⟨ok_tail_of_flag F_tail_of_flag C_next_tail, B_tail_of_flag, PySem.W.mg_of X G A_tail_of_flag, K_tail_of_flag⟩
  have C_check_bits : Cal P w0 K mg base "check_bits" ["check", "ones"] 1 R_check_bits f_check_bits d_check_bits := ⟨ok_check_bits F_check_bits  T, B_check_bits, PySem.W.mg_of X G A_check_bits, K_check_bits⟩
  have C__payload : Cal P w0 K mg base "_payload" ["check", "read"] 2 R__payload f__payload d__payload := ⟨ok__payload F__payload C_check_bits T, B__payload, PySem.W.mg_of X G A__payload, K__payload⟩
  have C__answer : Cal P w0 K mg base "_answer" ["rule", "table", "text"] 3 R__answer f__answer d__answer := ⟨ok__answer F__answer C_tail_of_flag C__payload C_next_tail T, B__answer, PySem.W.mg_of X G A__answer, K__answer⟩
  have C_answers : Cal P w0 K mg base "answers" ["rule", "bits"] 10 R_answers f_answers d_answers := ⟨ok_answers F_answers C_borders C_put_table C__answer T, B_answers, PySem.W.mg_of X G A_answers, K_answers⟩
  have C_loose : Cal P w0 K mg base "loose" ["rule", "bits"] 10 R_loose f_loose d_loose := ⟨ok_loose F_loose C_borders T, B_loose, PySem.W.mg_of X G A_loose, K_loose⟩
  have C_is_stream : Cal P w0 K mg base "is_stream" ["rule", "bits"] 11 R_is_stream f_is_stream d_is_stream := ⟨ok_is_stream F_is_stream C_borders C_loose C_is_word C_answers T, B_is_stream, PySem.W.mg_of X G A_is_stream, K_is_stream⟩
  have C__law_parted_right : Cal P w0 K mg base "_law_parted_right" ["rule_here", "line", "spot"] 12 R__law_parted_right f__law_parted_right d__law_parted_right := ⟨ok__law_parted_right F__law_parted_right C_borders C_answers C_loose C_is_stream T, B__law_parted_right, PySem.W.mg_of X G A__law_parted_right, K__law_parted_right⟩
  exact ok_law (fun_mk (st := s_law) lL cL kL) C__law_crate C__law_rule C__law_long_line C_borders C__law_line C__law_parted_right C__law_haul T
theorem walk {l : PySem.W.OpenLaw} {q : Program} {loose : List Str} {XP : (Str → Option Value) → Heap → Prop} {YP : World → Heap → Prop} {d : DefRec} {K : Params → PySem.W.Frag} (hn : l.most = some 63) (hdf : d.params.defaults = [])
    (hY : ∀ (w : World) (h : Heap), YP w h → (K w.params).In h)
    (F : ∀ (w : World) (mg : Str → Option Value) (fa : Addr) (h : Heap), (K w.params).In h → h.Ns mainGlobals mg → mg d.name = some (.ref fa) →
      ∃ fd : FuncData, (∀ (s : Shared) (u : Value), BindsTo s fd ⟨[u], []⟩ [("script", u)]) ∧ ∀ base : Heap, (K w.params).In base → base.Ns mainGlobals mg → FnOk l.prog w (K w.params) mg base CX0 13 fa fd ["script"] (spLaw (K w.params))) :
    PySem.W.WalkO q loose XP YP l.row.toRowW d [] (fun f vs => PySem.call f vs) :=
  L2.walk_of (n := 63) (k := 13) (x := "script") (CX := fun _ => CX0) (sp := fun w => spLaw (K w.params)) hn (by decide) hdf ⟨rfl, by decide, by decide⟩ hY F (fun _ _ a ns hl _ hS => ⟨a, ns, rfl, hS, hl, fun _ => rfl⟩) fun _ _ _ _ _ z => z
end Fr
open PySem PySem.W PyProof.Rows in
set_option maxRecDepth 100000 in
set_option maxHeartbeats 0 in
theorem PySem.Challenge.cw_onlyflags_k83_whole_words_parted_holds : PySem.Challenge.rw_onlyflags_k83_whole_words_parted.Holds := by
  w_on; o_law; k_head; (case hw => w_witness2)
  k_fill
  refine Fr.walk (l := PySem.Challenge.rw_onlyflags_k83_whole_words_parted) rfl rfl (fun w h Y => PySem.W.kIn_of Y) ?F
  case F =>
    intro w mg fa h KX G hmg
    refine' Fr.all_mk KX G hmg ?D__law_crate ?D__law_haul ?D__law_bits ?D__law_drawn_rule ?D__law_rule ?D__law_put ?D__law_sum_bits ?D__law_frame ?D__law_spoilt ?D__law_change ?D__law_long_line ?D_is_number ?D_is_bit ?D_is_word ?D_is_full_word ?D_is_insert ?D__are_inserts ?D_is_rule ?D_need_rule ?D_need_bits ?D_borders ?D__law_stream ?D__law_list ?D__law_line ?D__due ?D_put_table ?D_next_tail ?D_tail_of_flag ?D_check_bits ?D__payload ?D__answer ?D_answers ?D_loose ?D_is_stream ?D__law_parted_right ?Z_isinstance ?Z_int ?Z_bool ?Z_tuple ?Z_list ?Z_str ?Z_all ?Z_len ?Z_range ?Z_reversed ?Z_zip ?Z_sum ?Z_max ?Z_min ?Z_abs ?Z_sorted ?aL ?lL ?cL ?kL
    (case D__law_crate => (refine' Fr.has_mk ?a ?l ?c ?k Fr.b__law_crate; (case a => k_is); (case l => k_is); (case c => k_is); (case k => k_is)))
    (case D__law_haul => (refine' Fr.has_mk ?a ?l ?c ?k Fr.b__law_haul; (case a => k_is); (case l => k_is); (case c => k_is); (case k => k_is)))
    (case D__law_bits => (refine' Fr.has_mk ?a ?l ?c ?k Fr.b__law_bits; (case a => k_is); (case l => k_is); (case c => k_is); (case k => k_is)))
    (case D__law_drawn_rule => (refine' Fr.has_mk ?a ?l ?c ?k Fr.b__law_drawn_rule; (case a => k_is); (case l => k_is); (case c => k_is); (case k => k_is)))
    (case D__law_rule => (refine' Fr.has_mk ?a ?l ?c ?k Fr.b__law_rule; (case a => k_is); (case l => k_is); (case c => k_is); (case k => k_is)))
    (case D__law_put => (refine' Fr.has_mk ?a ?l ?c ?k Fr.b__law_put; (case a => k_is); (case l => k_is); (case c => k_is); (case k => k_is)))
    (case D__law_sum_bits => (refine' Fr.has_mk ?a ?l ?c ?k Fr.b__law_sum_bits; (case a => k_is); (case l => k_is); (case c => k_is); (case k => k_is)))
    (case D__law_frame => (refine' Fr.has_mk ?a ?l ?c ?k Fr.b__law_frame; (case a => k_is); (case l => k_is); (case c => k_is); (case k => k_is)))
    (case D__law_spoilt => (refine' Fr.has_mk ?a ?l ?c ?k Fr.b__law_spoilt; (case a => k_is); (case l => k_is); (case c => k_is); (case k => k_is)))
    (case D__law_change => (refine' Fr.has_mk ?a ?l ?c ?k Fr.b__law_change; (case a => k_is); (case l => k_is); (case c => k_is); (case k => k_is)))
    (case D__law_long_line => (refine' Fr.has_mk ?a ?l ?c ?k Fr.b__law_long_line; (case a => k_is); (case l => k_is); (case c => k_is); (case k => k_is)))
    (case D_is_number => (refine' Fr.has_mk ?a ?l ?c ?k Fr.b_is_number; (case a => k_is); (case l => k_is); (case c => k_is); (case k => k_is)))
    (case D_is_bit => (refine' Fr.has_mk ?a ?l ?c ?k Fr.b_is_bit; (case a => k_is); (case l => k_is); (case c => k_is); (case k => k_is)))
    (case D_is_word => (refine' Fr.has_mk ?a ?l ?c ?k Fr.b_is_word; (case a => k_is); (case l => k_is); (case c => k_is); (case k => k_is)))
    (case D_is_full_word => (refine' Fr.has_mk ?a ?l ?c ?k Fr.b_is_full_word; (case a => k_is); (case l => k_is); (case c => k_is); (case k => k_is)))
    (case D_is_insert => (refine' Fr.has_mk ?a ?l ?c ?k Fr.b_is_insert; (case a => k_is); (case l => k_is); (case c => k_is); (case k => k_is)))
    (case D__are_inserts => (refine' Fr.has_mk ?a ?l ?c ?k Fr.b__are_inserts; (case a => k_is); (case l => k_is); (case c => k_is); (case k => k_is)))
    (case D_is_rule => (refine' Fr.has_mk ?a ?l ?c ?k Fr.b_is_rule; (case a => k_is); (case l => k_is); (case c => k_is); (case k => k_is)))
    (case D_need_rule => (refine' Fr.has_mk ?a ?l ?c ?k Fr.b_need_rule; (case a => k_is); (case l => k_is); (case c => k_is); (case k => k_is)))
    (case D_need_bits => (refine' Fr.has_mk ?a ?l ?c ?k Fr.b_need_bits; (case a => k_is); (case l => k_is); (case c => k_is); (case k => k_is)))
    (case D_borders => (refine' Fr.has_mk ?a ?l ?c ?k Fr.b_borders; (case a => k_is); (case l => k_is); (case c => k_is); (case k => k_is)))
    (case D__law_stream => (refine' Fr.has_mk ?a ?l ?c ?k Fr.b__law_stream; (case a => k_is); (case l => k_is); (case c => k_is); (case k => k_is)))
    (case D__law_list => (refine' Fr.has_mk ?a ?l ?c ?k Fr.b__law_list; (case a => k_is); (case l => k_is); (case c => k_is); (case k => k_is)))
    (case D__law_line => (refine' Fr.has_mk ?a ?l ?c ?k Fr.b__law_line; (case a => k_is); (case l => k_is); (case c => k_is); (case k => k_is)))
    (case D__due => (refine' Fr.has_mk ?a ?l ?c ?k Fr.b__due; (case a => k_is); (case l => k_is); (case c => k_is); (case k => k_is)))
    (case D_put_table => (refine' Fr.has_mk ?a ?l ?c ?k Fr.b_put_table; (case a => k_is); (case l => k_is); (case c => k_is); (case k => k_is)))
    (case D_next_tail => (refine' Fr.has_mk ?a ?l ?c ?k Fr.b_next_tail; (case a => k_is); (case l => k_is); (case c => k_is); (case k => k_is)))
    (case D_tail_of_flag => (refine' Fr.has_mk ?a ?l ?c ?k Fr.b_tail_of_flag; (case a => k_is); (case l => k_is); (case c => k_is); (case k => k_is)))
    (case D_check_bits => (refine' Fr.has_mk ?a ?l ?c ?k Fr.b_check_bits; (case a => k_is); (case l => k_is); (case c => k_is); (case k => k_is)))
    (case D__payload => (refine' Fr.has_mk ?a ?l ?c ?k Fr.b__payload; (case a => k_is); (case l => k_is); (case c => k_is); (case k => k_is)))
    (case D__answer => (refine' Fr.has_mk ?a ?l ?c ?k Fr.b__answer; (case a => k_is); (case l => k_is); (case c => k_is); (case k => k_is)))
    (case D_answers => (refine' Fr.has_mk ?a ?l ?c ?k Fr.b_answers; (case a => k_is); (case l => k_is); (case c => k_is); (case k => k_is)))
    (case D_loose => (refine' Fr.has_mk ?a ?l ?c ?k Fr.b_loose; (case a => k_is); (case l => k_is); (case c => k_is); (case k => k_is)))
    (case D_is_stream => (refine' Fr.has_mk ?a ?l ?c ?k Fr.b_is_stream; (case a => k_is); (case l => k_is); (case c => k_is); (case k => k_is)))
    (case D__law_parted_right => (refine' Fr.has_mk ?a ?l ?c ?k Fr.b__law_parted_right; (case a => k_is); (case l => k_is); (case c => k_is); (case k => k_is)))
    (case Z_isinstance => k_is)
    (case Z_int => k_is)
    (case Z_bool => k_is)
    (case Z_tuple => k_is)
    (case Z_list => k_is)
    (case Z_str => k_is)
    (case Z_all => k_is)
    (case Z_len => k_is)
    (case Z_range => k_is)
    (case Z_reversed => k_is)
    (case Z_zip => k_is)
    (case Z_sum => k_is)
    (case Z_max => k_is)
    (case Z_min => k_is)
    (case Z_abs => k_is)
    (case Z_sorted => k_is)
    (case aL => k_is)
    (case lL => k_is)
    (case cL => k_is)
    (case kL => k_is)
