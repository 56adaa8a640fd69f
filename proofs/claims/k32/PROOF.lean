import PyProof.Rows.All
import Wide.All
import OpenK.AllK
import Wide.FinOn
import HandS.ForMost
import HandS.ExcOwn
import HandS.TryMany
import HandS.WordsExc
import HandS.Style
import HandS.AnyAll
import HandS.TupAny
import PySem.Challenge.RW_leasehall_k32_true_statements
set_option Elab.async false
set_option linter.all false
set_option maxRecDepth 100000
set_option maxHeartbeats 2000000
/-! A layer of data over the hand layer: values as trees, a heap that only grows (P), objects that change (M). -/
namespace Ab
open PySem L2

/-- a value as a tree; ref: an object that changes, a class -/
inductive D where
  | non | bl (b : Bool) | int (i : Int) | str (s : Str) | tup (ds : List D) | lst (ds : List D) | lsw (ds : List D) | dct (kvs : List (Key × D)) | ref (a : Addr) | ty (n : String)

mutual
inductive Rep (K : PySem.W.Frag) (P : Hp) : V → D → Prop
  | non : Rep K P .non .non
  | bl (b : Bool) : Rep K P (.bl b) (.bl b)
  | int (i : Int) : Rep K P (.int i) (.int i)
  | str (s : Str) : Rep K P (.str s) (.str s)
  | ty (n : String) : Rep K P (.ty n) (.ty n)
  | ref (a : Addr) : Rep K P (.ref a) (.ref a)
  | tup {a : Addr} {vs : List V} {ds : List D} : SqT K P a vs → RepL K P vs ds → Rep K P (.ref a) (.tup ds)
  | lst {a : Addr} {vs : List V} {ds : List D} : P a = some (.lst vs) → RepL K P vs ds → Rep K P (.ref a) (.lst ds)
  | lsw {a : Addr} {vs : List V} {ds : List D} : SqL K P a vs → RepL K P vs ds → Rep K P (.ref a) (.lsw ds)
  | dct {a : Addr} {kvs : List (Key × V)} {kds : List (Key × D)} : P a = some (.dK kvs) → kvs.map Prod.fst = kds.map Prod.fst → RepL K P (kvs.map Prod.snd) (kds.map Prod.snd) → Rep K P (.ref a) (.dct kds)
inductive RepL (K : PySem.W.Frag) (P : Hp) : List V → List D → Prop
  | nil : RepL K P [] []
  | cons {v : V} {d : D} {vs : List V} {ds : List D} : Rep K P v d → RepL K P vs ds → RepL K P (v :: vs) (d :: ds)
end

/-- P' has all that P has -/
def Ex (P P' : Hp) : Prop := ∀ a o, P a = some o → P' a = some o
theorem Ex.refl (P : Hp) : Ex P P := fun _ _ h => h
theorem Ex.trans {P P1 P2 : Hp} (a : Ex P P1) (b : Ex P1 P2) : Ex P P2 := fun x o h => b x o (a x o h)
theorem Ex.put {P : Hp} {p : Addr} {o : HO} (h : P p = none) : Ex P (upd P p o) := fun a u e => by
  rw [upd_ne (ne_of_none e h)]
  exact e
theorem Ex.sl {K : PySem.W.Frag} {P P' : Hp} {a : Addr} {xs : List V} (e : Ex P P') (h : SqL K P a xs) : SqL K P' a xs := by
  rcases h with (h | ⟨o, h⟩) | h
  · exact .inl (.inl (e _ _ h))
  · exact .inl (.inr ⟨o, e _ _ h⟩)
  · exact .inr h
theorem Ex.st {K : PySem.W.Frag} {P P' : Hp} {a : Addr} {xs : List V} (e : Ex P P') (h : SqT K P a xs) : SqT K P' a xs := by
  rcases h with (h | ⟨o, h⟩) | h
  · exact .inl (.inl (e _ _ h))
  · exact .inl (.inr ⟨o, e _ _ h⟩)
  · exact .inr h
mutual
theorem Rep.mono {K : PySem.W.Frag} {P P' : Hp} (e : Ex P P') : ∀ {v : V} {d : D}, Rep K P v d → Rep K P' v d
  | _, _, .non => .non
  | _, _, .bl b => .bl b
  | _, _, .int i => .int i
  | _, _, .str s => .str s
  | _, _, .ty n => .ty n
  | _, _, .ref a => .ref a
  | _, _, .tup h r => .tup (e.st h) (RepL.mono e r)
  | _, _, .lst h r => .lst (e _ _ h) (RepL.mono e r)
  | _, _, .lsw h r => .lsw (e.sl h) (RepL.mono e r)
  | _, _, .dct h k r => .dct (e _ _ h) k (RepL.mono e r)
theorem RepL.mono {K : PySem.W.Frag} {P P' : Hp} (e : Ex P P') : ∀ {vs : List V} {ds : List D}, RepL K P vs ds → RepL K P' vs ds
  | _, _, .nil => .nil
  | _, _, .cons h r => .cons (Rep.mono e h) (RepL.mono e r)
end
section
variable {K : PySem.W.Frag} {P : Hp}
theorem RepL.len : ∀ {vs : List V} {ds : List D}, RepL K P vs ds → vs.length = ds.length
  | _, _, .nil => rfl
  | _, _, .cons _ r => congrArg (· + 1) r.len
theorem RepL.get : ∀ {vs : List V} {ds : List D} {i : Nat} {v : V}, RepL K P vs ds → vs[i]? = some v → ∃ d, ds[i]? = some d ∧ Rep K P v d
  | _, _, _, _, .nil, h => by cases h
  | _, _, 0, _, .cons r _, h => by cases h; exact ⟨_, rfl, r⟩
  | _, _, i + 1, _, .cons _ t, h => RepL.get (i := i) t h
theorem RepL.getd : ∀ {vs : List V} {ds : List D} {i : Nat} {d : D}, RepL K P vs ds → ds[i]? = some d → ∃ v, vs[i]? = some v ∧ Rep K P v d
  | _, _, _, _, .nil, h => by cases h
  | _, _, 0, _, .cons r _, h => by cases h; exact ⟨_, rfl, r⟩
  | _, _, i + 1, _, .cons _ t, h => RepL.getd (i := i) t h
theorem RepL.app : ∀ {vs ws : List V} {ds es : List D}, RepL K P vs ds → RepL K P ws es → RepL K P (vs ++ ws) (ds ++ es)
  | _, _, _, _, .nil, h => h
  | _, _, _, _, .cons r t, h => .cons r (t.app h)
theorem RepL.set : ∀ {vs : List V} {ds : List D} {v : V} {d : D} (i : Nat), RepL K P vs ds → Rep K P v d → RepL K P (vs.set i v) (ds.set i d)
  | _, _, _, _, _, .nil, _ => .nil
  | _, _, _, _, 0, .cons _ t, h => .cons h t
  | _, _, _, _, i + 1, .cons r t, h => .cons r (t.set i h)
theorem RepL.take : ∀ {vs : List V} {ds : List D} (n : Nat), RepL K P vs ds → RepL K P (vs.take n) (ds.take n)
  | _, _, 0, _ => .nil
  | _, _, _ + 1, .nil => .nil
  | _, _, n + 1, .cons r t => .cons r (t.take n)
theorem RepL.drop : ∀ {vs : List V} {ds : List D} (n : Nat), RepL K P vs ds → RepL K P (vs.drop n) (ds.drop n)
  | _, _, 0, r => r
  | _, _, _ + 1, .nil => .nil
  | _, _, n + 1, .cons _ t => t.drop n
end

/-- what changes: a list, a dict, an instance -/
inductive MO where
  | lst (ds : List D) | dct (kvs : List (Key × D)) | ins (C dx : Addr) (fs : List (Str × D))
abbrev Mh := Addr → Option MO
def um (M : Mh) (a : Addr) (m : MO) : Mh := fun b => if b = a then some m else M b
theorem um_same {M : Mh} {a : Addr} {m : MO} : um M a m a = some m := by unfold um; rw [if_pos rfl]
theorem um_ne {M : Mh} {a b : Addr} {m : MO} (h : b ≠ a) : um M a m b = M b := by unfold um; rw [if_neg h]
theorem um_um {M : Mh} {a : Addr} {m n : MO} : um (um M a m) a n = um M a n := by
  funext b; unfold um; split <;> rfl
/-- M without a -/
def em (M : Mh) (a : Addr) : Mh := fun b => if b = a then none else M b
inductive RepM (K : PySem.W.Frag) (P : Hp) : HO → MO → Prop
  | lst {vs : List V} {ds : List D} : RepL K P vs ds → RepM K P (.lst vs) (.lst ds)
  | dct {kvs : List (Key × V)} {kds : List (Key × D)} : kvs.map Prod.fst = kds.map Prod.fst → RepL K P (kvs.map Prod.snd) (kds.map Prod.snd) → RepM K P (.dK kvs) (.dct kds)
  | ins {C dx : Addr} {fv : List (Str × V)} {fs : List (Str × D)} : fv.map Prod.fst = fs.map Prod.fst → RepL K P (fv.map Prod.snd) (fs.map Prod.snd) → RepM K P (.ins C dx fv) (.ins C dx fs)
theorem RepM.mono {K : PySem.W.Frag} {P P' : Hp} (e : Ex P P') {o : HO} {m : MO} (h : RepM K P o m) : RepM K P' o m := by
  cases h with
  | lst r => exact .lst (RepL.mono e r)
  | dct k r => exact .dct k (RepL.mono e r)
  | ins k r => exact .ins k (RepL.mono e r)

/-- P and M stand in H; T: the code tables -/
structure Wr (K : PySem.W.Frag) (T : Addr → Prop) (P : Hp) (M : Mh) (H : Hp) : Prop where
  pure : ∀ a o, P a = some o → H a = some o ∨ ∃ kvs ob, o = .dK kvs ∧ H a = some (.frz ob o)
  chg : ∀ a m, M a = some m → ∃ o, H a = some o ∧ RepM K P o m
  dis : ∀ a m, M a = some m → P a = none
  tab : ∀ a, T a → GxR.TabG H a ∧ P a = none ∧ M a = none
structure Step (K : PySem.W.Frag) (T : Addr → Prop) (P : Hp) (M : Mh) (H : Hp) (P' : Hp) (M' : Mh) (H' : Hp) : Prop where
  ex : Ex P P'
  wr : Wr K T P' M' H'
  fr : ∀ a o, H a = some o → P a = none → M a = none → ¬ T a → H' a = some o ∧ P' a = none ∧ M' a = none
  fz : ∀ a ob o, H a = some (.frz ob o) → H' a = some (.frz ob o)
  th : ∀ a o, H a = some o → ∃ o', H' a = some o'
theorem th_upd {H : Hp} {p a : Addr} {o u : HO} (h : H a = some o) : ∃ o', upd H p u a = some o' := by
  by_cases q : a = p
  · subst q; exact ⟨u, upd_same⟩
  · exact ⟨o, by rw [upd_ne q]; exact h⟩
section
variable {K : PySem.W.Frag} {T : Addr → Prop} {P P' P2 : Hp} {M M' M2 : Mh} {H H' H2 : Hp}
theorem Step.refl (w : Wr K T P M H) : Step K T P M H P M H := ⟨Ex.refl P, w, fun _ _ a b c _ => ⟨a, b, c⟩, fun _ _ _ h => h, fun _ o h => ⟨o, h⟩⟩
theorem Step.trans (a : Step K T P M H P' M' H') (b : Step K T P' M' H' P2 M2 H2) : Step K T P M H P2 M2 H2 :=
  ⟨a.ex.trans b.ex, b.wr, fun x o h1 h2 h3 h4 => let ⟨q1, q2, q3⟩ := a.fr x o h1 h2 h3 h4; b.fr x o q1 q2 q3 h4, fun x ob o h => b.fz x ob o (a.fz x ob o h), fun x o h => let ⟨_, q⟩ := a.th x o h; b.th x _ q⟩
theorem Step.back (s : Step K T P M H P' M' H') {p : Addr} (h : H' p = none) : H p = none := by
  cases z : H p with
  | none => rfl
  | some o =>
    obtain ⟨_, q⟩ := s.th p o z
    rw [h] at q; cases q
theorem Wr.sl (w : Wr K T P M H) {a : Addr} {xs : List V} (h : SqL K P a xs) : SqL K H a xs := by
  rcases h with (h | ⟨o, h⟩) | h
  · rcases w.pure _ _ h with q | ⟨kvs, ob, e, q⟩
    · exact .inl (.inl q)
    · cases e
  · rcases w.pure _ _ h with q | ⟨kvs, ob, e, q⟩
    · exact .inl (.inr ⟨o, q⟩)
    · cases e
  · exact .inr h
theorem Wr.st (w : Wr K T P M H) {a : Addr} {xs : List V} (h : SqT K P a xs) : SqT K H a xs := by
  rcases h with (h | ⟨o, h⟩) | h
  · rcases w.pure _ _ h with q | ⟨kvs, ob, e, q⟩
    · exact .inl (.inl q)
    · cases e
  · rcases w.pure _ _ h with q | ⟨kvs, ob, e, q⟩
    · exact .inl (.inr ⟨o, q⟩)
    · cases e
  · exact .inr h
theorem Wr.pfree (w : Wr K T P M H) {p : Addr} (h : H p = none) : P p = none := by
  cases q : P p with
  | none => rfl
  | some o =>
    rcases w.pure _ _ q with z | ⟨_, _, _, z⟩
    · rw [h] at z; cases z
    · rw [h] at z; cases z
theorem Wr.mfree (w : Wr K T P M H) {p : Addr} (h : H p = none) : M p = none := by
  cases q : M p with
  | none => rfl
  | some o =>
    obtain ⟨_, z, _⟩ := w.chg _ _ q
    rw [h] at z; cases z
theorem tabg_some {H : Hp} {a : Addr} (h : GxR.TabG H a) : ∃ ps, H a = some (.tbl ps) := let ⟨ps, h, _⟩ := h; ⟨ps, h⟩
theorem Wr.tne (w : Wr K T P M H) {p : Addr} (h : H p = none) : ¬ T p := fun t => by
  obtain ⟨ps, q⟩ := tabg_some (w.tab p t).1
  rw [h] at q; cases q
theorem tabg_upd {H : Hp} {a p : Addr} {o : HO} (h : GxR.TabG H a) (n : a ≠ p) : GxR.TabG (upd H p o) a := by
  obtain ⟨ps, e, t⟩ := h
  exact ⟨ps, by rw [upd_ne n]; exact e, t⟩
/-- a new object that does not change -/
theorem Step.newP (w : Wr K T P M H) {p : Addr} {o : HO} (h : H p = none) : Step K T P M H (upd P p o) M (upd H p o) := by
  have pf := w.pfree h
  have mf := w.mfree h
  refine ⟨Ex.put pf, ⟨fun a u e => ?_, fun a m e => ?_, fun a m e => ?_, fun a t => ?_⟩, fun a u e1 e2 e3 _ => ?_, fun a ob u e => ?_, fun _ _ z => th_upd z⟩
  · by_cases q : a = p
    · subst q; rw [upd_same] at e; cases e; exact .inl upd_same
    · rw [upd_ne q] at e; rw [upd_ne q]; exact w.pure a u e
  · obtain ⟨u, e1, r⟩ := w.chg a m e
    have n : a ≠ p := fun z => by rw [z, mf] at e; cases e
    exact ⟨u, by rw [upd_ne n]; exact e1, r.mono (Ex.put pf)⟩
  · have n : a ≠ p := fun z => by rw [z, mf] at e; cases e
    rw [upd_ne n]; exact w.dis a m e
  · obtain ⟨t1, t2, t3⟩ := w.tab a t
    have n : a ≠ p := fun z => w.tne h (z ▸ t)
    exact ⟨tabg_upd t1 n, by rw [upd_ne n]; exact t2, t3⟩
  · have n : a ≠ p := fun z => by rw [z, h] at e1; cases e1
    exact ⟨by rw [upd_ne n]; exact e1, by rw [upd_ne n]; exact e2, e3⟩
  · have n : a ≠ p := fun z => by rw [z, h] at e; cases e
    rw [upd_ne n]; exact e
/-- a new object that may change -/
theorem Step.newM (w : Wr K T P M H) {p : Addr} {o : HO} {m : MO} (h : H p = none) (r : RepM K P o m) : Step K T P M H P (um M p m) (upd H p o) := by
  have pf := w.pfree h
  have mf := w.mfree h
  refine ⟨Ex.refl P, ⟨fun a u e => ?_, fun a m e => ?_, fun a m e => ?_, fun a t => ?_⟩, fun a u e1 e2 e3 _ => ?_, fun a ob u e => ?_, fun _ _ z => th_upd z⟩
  · have n : a ≠ p := fun z => by rw [z, pf] at e; cases e
    rw [upd_ne n]; exact w.pure a u e
  · by_cases q : a = p
    · subst q; rw [um_same] at e; cases e; exact ⟨o, upd_same, r⟩
    · rw [um_ne q] at e; rw [upd_ne q]; exact w.chg a m e
  · by_cases q : a = p
    · rw [q]; exact pf
    · rw [um_ne q] at e; exact w.dis a m e
  · obtain ⟨t1, t2, t3⟩ := w.tab a t
    have n : a ≠ p := fun z => w.tne h (z ▸ t)
    exact ⟨tabg_upd t1 n, t2, by rw [um_ne n]; exact t3⟩
  · have n : a ≠ p := fun z => by rw [z, h] at e1; cases e1
    exact ⟨by rw [upd_ne n]; exact e1, e2, by rw [um_ne n]; exact e3⟩
  · have n : a ≠ p := fun z => by rw [z, h] at e; cases e
    rw [upd_ne n]; exact e
/-- an object that changes -/
theorem Step.put (w : Wr K T P M H) {p : Addr} {o : HO} {m m' : MO} (h : M p = some m') (r : RepM K P o m) : Step K T P M H P (um M p m) (upd H p o) := by
  have pf := w.dis _ _ h
  obtain ⟨u0, hu0, ru0⟩ := w.chg _ _ h
  have nt : ¬ T p := fun t => by rw [(w.tab p t).2.2] at h; cases h
  refine ⟨Ex.refl P, ⟨fun a u e => ?_, fun a m e => ?_, fun a m e => ?_, fun a t => ?_⟩, fun a u e1 e2 e3 _ => ?_, fun a ob u e => ?_, fun _ _ z => th_upd z⟩
  · have n : a ≠ p := fun z => by rw [z, pf] at e; cases e
    rw [upd_ne n]; exact w.pure a u e
  · by_cases q : a = p
    · subst q; rw [um_same] at e; cases e; exact ⟨o, upd_same, r⟩
    · rw [um_ne q] at e; rw [upd_ne q]; exact w.chg a m e
  · by_cases q : a = p
    · rw [q]; exact pf
    · rw [um_ne q] at e; exact w.dis a m e
  · obtain ⟨t1, t2, t3⟩ := w.tab a t
    have n : a ≠ p := fun z => nt (z ▸ t)
    exact ⟨tabg_upd t1 n, t2, by rw [um_ne n]; exact t3⟩
  · have n : a ≠ p := fun z => by rw [z, h] at e3; cases e3
    exact ⟨by rw [upd_ne n]; exact e1, e2, by rw [um_ne n]; exact e3⟩
  · have n : a ≠ p := fun z => by
      rw [z, hu0] at e; cases e; cases ru0
    rw [upd_ne n]; exact e
/-- an object that neither P nor M knows, new since H: it may be changed; it may go over to P, to M -/
theorem Step.side (st : Step K T P M H P' M' H') {q : Addr} {o : HO} (h : H q = none) (hp : P' q = none) (hm : M' q = none) (nt : ¬ T q) : Step K T P M H P' M' (upd H' q o) := by
  refine ⟨st.ex, ⟨fun a u e => ?_, fun a m e => ?_, st.wr.dis, fun a t => ?_⟩, fun a u e1 e2 e3 e4 => ?_, fun a ob u e => ?_, fun a o z => let ⟨_, q⟩ := st.th a o z; th_upd q⟩
  · have n : a ≠ q := fun z => by rw [z, hp] at e; cases e
    rw [upd_ne n]; exact st.wr.pure a u e
  · have n : a ≠ q := fun z => by rw [z, hm] at e; cases e
    rw [upd_ne n]; exact st.wr.chg a m e
  · obtain ⟨t1, t2, t3⟩ := st.wr.tab a t
    exact ⟨tabg_upd t1 (fun z => nt (z ▸ t)), t2, t3⟩
  · have n : a ≠ q := fun z => by rw [z, h] at e1; cases e1
    rw [upd_ne n]; exact st.fr a u e1 e2 e3 e4
  · have n : a ≠ q := fun z => by rw [z, h] at e; cases e
    rw [upd_ne n]; exact st.fz a ob u e
theorem Step.adoptP (st : Step K T P M H P' M' H') {q : Addr} {o : HO} (h : H q = none) (hp : P' q = none) (hm : M' q = none) (nt : ¬ T q) (ho : H' q = some o) : Step K T P M H (upd P' q o) M' H' := by
  refine ⟨st.ex.trans (Ex.put hp), ⟨fun a u e => ?_, fun a m e => ?_, fun a m e => ?_, fun a t => ?_⟩, fun a u e1 e2 e3 e4 => ?_, st.fz, st.th⟩
  · by_cases n : a = q
    · subst n; rw [upd_same] at e; cases e; exact .inl ho
    · rw [upd_ne n] at e; exact st.wr.pure a u e
  · obtain ⟨u, e1, r1⟩ := st.wr.chg a m e
    exact ⟨u, e1, r1.mono (Ex.put hp)⟩
  · have n : a ≠ q := fun z => by rw [z, hm] at e; cases e
    rw [upd_ne n]; exact st.wr.dis a m e
  · obtain ⟨t1, t2, t3⟩ := st.wr.tab a t
    have n : a ≠ q := fun z => nt (z ▸ t)
    exact ⟨t1, by rw [upd_ne n]; exact t2, t3⟩
  · have n : a ≠ q := fun z => by rw [z, h] at e1; cases e1
    rw [upd_ne n]; exact st.fr a u e1 e2 e3 e4
theorem Step.adoptM (st : Step K T P M H P' M' H') {q : Addr} {o : HO} {m : MO} (h : H q = none) (hp : P' q = none) (hm : M' q = none) (nt : ¬ T q) (ho : H' q = some o) (r : RepM K P' o m) : Step K T P M H P' (um M' q m) H' := by
  refine ⟨st.ex, ⟨fun a u e => ?_, fun a m e => ?_, fun a m e => ?_, fun a t => ?_⟩, fun a u e1 e2 e3 e4 => ?_, st.fz, st.th⟩
  · exact st.wr.pure a u e
  · by_cases n : a = q
    · subst n; rw [um_same] at e; cases e; exact ⟨o, ho, r⟩
    · rw [um_ne n] at e; exact st.wr.chg a m e
  · by_cases n : a = q
    · rw [n]; exact hp
    · rw [um_ne n] at e; exact st.wr.dis a m e
  · obtain ⟨t1, t2, t3⟩ := st.wr.tab a t
    have n : a ≠ q := fun z => nt (z ▸ t)
    exact ⟨t1, t2, by rw [um_ne n]; exact t3⟩
  · have n : a ≠ q := fun z => by rw [z, h] at e1; cases e1
    rw [um_ne n]; exact st.fr a u e1 e2 e3 e4
/-- no more changes: a list, a dict goes over to what stays -/
theorem Step.freeze (w : Wr K T P M H) {p : Addr} {m : MO} (h : M p = some m) : ∃ o, H p = some o ∧ RepM K P o m ∧ Step K T P M H (upd P p o) (em M p) H := by
  obtain ⟨o, ho, r⟩ := w.chg p m h
  have pf := w.dis _ _ h
  have nt : ¬ T p := fun t => by rw [(w.tab p t).2.2] at h; cases h
  have ene : ∀ a, a ≠ p → em M p a = M a := fun a n => by unfold em; rw [if_neg n]
  have es : em M p p = none := by unfold em; rw [if_pos rfl]
  refine ⟨o, ho, r, Ex.put pf, ⟨fun a u e => ?_, fun a m e => ?_, fun a m e => ?_, fun a t => ?_⟩, fun a u e1 e2 e3 _ => ?_, fun a ob u e => e, fun _ o z => ⟨o, z⟩⟩
  · by_cases q : a = p
    · subst q; rw [upd_same] at e; cases e; exact .inl ho
    · rw [upd_ne q] at e; exact w.pure a u e
  · have n : a ≠ p := fun z => by rw [z, es] at e; cases e
    rw [ene a n] at e
    obtain ⟨u, e1, r1⟩ := w.chg a m e
    exact ⟨u, e1, r1.mono (Ex.put pf)⟩
  · have n : a ≠ p := fun z => by rw [z, es] at e; cases e
    rw [ene a n] at e
    rw [upd_ne n]; exact w.dis a m e
  · obtain ⟨t1, t2, t3⟩ := w.tab a t
    have n : a ≠ p := fun z => nt (z ▸ t)
    exact ⟨t1, by rw [upd_ne n]; exact t2, by rw [ene a n]; exact t3⟩
  · have n : a ≠ p := fun z => by rw [z, h] at e3; cases e3
    exact ⟨e1, by rw [upd_ne n]; exact e2, by rw [ene a n]; exact e3⟩
end

/-! ### slots -/
abbrev Sl := List (Option D)
def RepS (K : PySem.W.Frag) (P : Hp) (σ : L2.St) (ρ : Sl) : Prop := σ.length = ρ.length ∧ ∀ (i : Nat) (d : D), ρ[i]? = some (some d) → ∃ v, σ[i]? = some (some v) ∧ Rep K P v d
section
variable {K : PySem.W.Frag} {P P' : Hp} {σ : L2.St} {ρ : Sl}
theorem RepS.mono (e : Ex P P') (h : RepS K P σ ρ) : RepS K P' σ ρ := ⟨h.1, fun i d q => let ⟨v, a, b⟩ := h.2 i d q; ⟨v, a, b.mono e⟩⟩
theorem RepS.set (h : RepS K P σ ρ) {v : V} {d : D} (r : Rep K P v d) (i : Nat) : RepS K P (σ.set i (some v)) (ρ.set i (some d)) := by
  refine ⟨by rw [List.length_set, List.length_set]; exact h.1, fun j e q => ?_⟩
  by_cases hij : i = j
  · subst hij
    by_cases hl : i < ρ.length
    · rw [List.getElem?_set_self hl] at q
      cases q
      exact ⟨v, List.getElem?_set_self (by rw [h.1]; exact hl), r⟩
    · rw [List.getElem?_eq_none (by rw [List.length_set]; omega)] at q; cases q
  · rw [List.getElem?_set_ne hij] at q
    rw [List.getElem?_set_ne hij]
    exact h.2 j e q
theorem RepS.setn (h : RepS K P σ ρ) (i : Nat) : RepS K P (σ.set i none) (ρ.set i none) := by
  refine ⟨by rw [List.length_set, List.length_set]; exact h.1, fun j e q => ?_⟩
  by_cases hij : i = j
  · subst hij
    by_cases hl : i < ρ.length
    · rw [List.getElem?_set_self hl] at q
      cases q
    · rw [List.getElem?_eq_none (by rw [List.length_set]; omega)] at q; cases q
  · rw [List.getElem?_set_ne hij] at q
    rw [List.getElem?_set_ne hij]
    exact h.2 j e q
end
end Ab

set_option Elab.async false
set_option linter.all false
set_option maxRecDepth 100000
set_option maxHeartbeats 2000000
namespace Ab
open PySem L2

abbrev XP := Value → Option Addr → Sl → Mh → Prop
def XH (K : PySem.W.Frag) (T : Addr → Prop) (W : WX) (P : Hp) (M : Mh) (H : Hp) (Ξ : XP) : Prop :=
  ∀ cls dd ρ' σ' P' M' H', Ξ cls dd ρ' M' → Step K T P M H P' M' H' → RepS K P' σ' ρ' → W cls dd σ' H'
structure Ed where
  nx : Sl → Mh → Prop
  rt : D → Mh → Prop
  bk : Sl → Mh → Prop
  ct : Sl → Mh → Prop
structure EdH (K : PySem.W.Frag) (T : Addr → Prop) (P : Hp) (M : Mh) (H : Hp) (ε : Ed) (Dn : Ends) : Prop where
  nx : ∀ ρ' σ' P' M' H', ε.nx ρ' M' → Step K T P M H P' M' H' → RepS K P' σ' ρ' → Dn.nx σ' H'
  rt : ∀ v d P' M' H', ε.rt d M' → Step K T P M H P' M' H' → Rep K P' v d → Dn.rt v H'
  bk : ∀ ρ' σ' P' M' H', ε.bk ρ' M' → Step K T P M H P' M' H' → RepS K P' σ' ρ' → Dn.bk σ' H'
  ct : ∀ ρ' σ' P' M' H', ε.ct ρ' M' → Step K T P M H P' M' H' → RepS K P' σ' ρ' → Dn.ct σ' H'
section
variable {K : PySem.W.Frag} {T : Addr → Prop} {W : WX} {P P' : Hp} {M M' : Mh} {H H' : Hp} {Ξ : XP} {ε : Ed} {Dn : Ends}
theorem XH.mono (h : XH K T W P M H Ξ) (s : Step K T P M H P' M' H') : XH K T W P' M' H' Ξ := fun cls dd ρ2 σ2 P2 M2 H2 q st r => h cls dd ρ2 σ2 P2 M2 H2 q (s.trans st) r
theorem EdH.mono (h : EdH K T P M H ε Dn) (s : Step K T P M H P' M' H') : EdH K T P' M' H' ε Dn :=
  ⟨fun ρ2 σ2 P2 M2 H2 q st r => h.nx ρ2 σ2 P2 M2 H2 q (s.trans st) r, fun v d P2 M2 H2 q st r => h.rt v d P2 M2 H2 q (s.trans st) r,
    fun ρ2 σ2 P2 M2 H2 q st r => h.bk ρ2 σ2 P2 M2 H2 q (s.trans st) r, fun ρ2 σ2 P2 M2 H2 q st r => h.ct ρ2 σ2 P2 M2 H2 q (s.trans st) r⟩
end

variable (K : PySem.W.Frag) (T : Addr → Prop)
structure XE where
  t : WX → TE
  w : Sl → Mh → (D → Mh → Prop) → XP → Prop
  ok : ∀ {W ρ M Φ Ξ}, w ρ M Φ Ξ → ∀ {P σ H}, Wr K T P M H → RepS K P σ ρ → ∀ {Q : VK},
    (∀ v d P' M' H', Φ d M' → Step K T P M H P' M' H' → Rep K P' v d → Q v H') → XH K T W P M H Ξ → t W σ H Q
structure XT where
  t : WX → TT
  w : Sl → Mh → (Bool → Mh → Prop) → XP → Prop
  ok : ∀ {W ρ M Φ Ξ}, w ρ M Φ Ξ → ∀ {P σ H}, Wr K T P M H → RepS K P σ ρ → ∀ {Q : Bool → Hp → Prop},
    (∀ b P' M' H', Φ b M' → Step K T P M H P' M' H' → Q b H') → XH K T W P M H Ξ → t W σ H Q
structure XA where
  t : WX → TA
  w : Sl → Mh → (List D → Mh → Prop) → XP → Prop
  ok : ∀ {W ρ M Φ Ξ}, w ρ M Φ Ξ → ∀ {P σ H}, Wr K T P M H → RepS K P σ ρ → ∀ {Q : List V → Hp → Prop},
    (∀ vs ds P' M' H', Φ ds M' → Step K T P M H P' M' H' → RepL K P' vs ds → Q vs H') → XH K T W P M H Ξ → t W σ H Q
structure XS where
  t : WX → TS
  w : Sl → Mh → Ed → XP → Prop
  ok : ∀ {W ρ M ε Ξ}, w ρ M ε Ξ → ∀ {P σ H}, Wr K T P M H → RepS K P σ ρ → ∀ {Dn : Ends},
    EdH K T P M H ε Dn → XH K T W P M H Ξ → t W Dn σ H
/-- a target -/
structure XG where
  t : WX → TG
  w : D → Sl → Mh → (Sl → Mh → Prop) → XP → Prop
  ok : ∀ {W d ρ M Φ Ξ}, w d ρ M Φ Ξ → ∀ {P v σ H}, Wr K T P M H → RepS K P σ ρ → Rep K P v d → ∀ {Q : L2.St → Hp → Prop},
    (∀ ρ' σ' P' M' H', Φ ρ' M' → Step K T P M H P' M' H' → RepS K P' σ' ρ' → Q σ' H') → XH K T W P M H Ξ → t W v σ H Q
structure XGs where
  t : WX → TGs
  w : List D → Sl → Mh → (Sl → Mh → Prop) → XP → Prop
  ok : ∀ {W ds ρ M Φ Ξ}, w ds ρ M Φ Ξ → ∀ {P vs σ H}, Wr K T P M H → RepS K P σ ρ → RepL K P vs ds → ∀ {Q : L2.St → Hp → Prop},
    (∀ ρ' σ' P' M' H', Φ ρ' M' → Step K T P M H P' M' H' → RepS K P' σ' ρ' → Q σ' H') → XH K T W P M H Ξ → t W vs σ H Q
/-- a two-place operation on values -/
structure XO where
  r : R2
  w : D → D → Mh → (D → Mh → Prop) → Prop
  ok : ∀ {x y M Φ}, w x y M Φ → ∀ {P H vx vy}, Wr K T P M H → Rep K P vx x → Rep K P vy y → ∀ {Q : VK},
    (∀ v d P' M' H', Φ d M' → Step K T P M H P' M' H' → Rep K P' v d → Q v H') → r vx vy H Q
/-- a builtin called with values -/
structure XB where
  r : List V → Hp → VK → Prop
  w : List D → Mh → (D → Mh → Prop) → Prop
  ok : ∀ {ds M Φ}, w ds M Φ → ∀ {P H vs}, Wr K T P M H → RepL K P vs ds → ∀ {Q : VK},
    (∀ v d P' M' H', Φ d M' → Step K T P M H P' M' H' → Rep K P' v d → Q v H') → r vs H Q

variable {K T}
/-! ### looks -/
def asI (d : D) (k : Int → Prop) : Prop := match d with | .int i => k i | _ => False
def asB (d : D) (k : Bool → Prop) : Prop := match d with | .bl b => k b | _ => False
def asS (d : D) (k : Str → Prop) : Prop := match d with | .str s => k s | _ => False
def asR (d : D) (k : Addr → Prop) : Prop := match d with | .ref a => k a | _ => False
def asT (d : D) (k : List D → Prop) : Prop := match d with | .tup ds => k ds | _ => False
def asL (d : D) (M : Mh) (k : List D → Prop) : Prop := match d with
  | .lst ds => k ds
  | .lsw ds => k ds
  | .ref p => match M p with
    | some (.lst ds) => k ds
    | _ => False
  | _ => False
def mL (M : Mh) (p : Addr) (k : List D → Prop) : Prop := match M p with | some (.lst ds) => k ds | _ => False
def look (ρ : Sl) (i : Nat) (k : D → Prop) : Prop := match ρ[i]? with | some (some d) => k d | _ => False
theorem asI.get {d : D} {k : Int → Prop} (h : asI d k) : ∃ i, d = .int i ∧ k i := by cases d <;> first | exact h.elim | exact ⟨_, rfl, h⟩
theorem asB.get {d : D} {k : Bool → Prop} (h : asB d k) : ∃ i, d = .bl i ∧ k i := by cases d <;> first | exact h.elim | exact ⟨_, rfl, h⟩
theorem asS.get {d : D} {k : Str → Prop} (h : asS d k) : ∃ i, d = .str i ∧ k i := by cases d <;> first | exact h.elim | exact ⟨_, rfl, h⟩
theorem asR.get {d : D} {k : Addr → Prop} (h : asR d k) : ∃ i, d = .ref i ∧ k i := by cases d <;> first | exact h.elim | exact ⟨_, rfl, h⟩
theorem asT.get {d : D} {k : List D → Prop} (h : asT d k) : ∃ ds, d = .tup ds ∧ k ds := by cases d <;> first | exact h.elim | exact ⟨_, rfl, h⟩
theorem mL.get {M : Mh} {p : Addr} {k : List D → Prop} (h : mL M p k) : ∃ ds, M p = some (.lst ds) ∧ k ds := by
  unfold mL at h
  split at h
  · exact ⟨_, by assumption, h⟩
  · exact h.elim
theorem asL.get {d : D} {M : Mh} {k : List D → Prop} (h : asL d M k) : ∃ ds, k ds ∧ ((d = .lst ds ∨ d = .lsw ds) ∨ ∃ p, d = .ref p ∧ M p = some (.lst ds)) := by
  cases d with
  | lst ds => exact ⟨ds, h, .inl (.inl rfl)⟩
  | lsw ds => exact ⟨ds, h, .inl (.inr rfl)⟩
  | ref p =>
    unfold asL at h
    simp only at h
    split at h
    · exact ⟨_, h, .inr ⟨p, rfl, by assumption⟩⟩
    · exact h.elim
  | _ => exact h.elim
theorem look.get {ρ : Sl} {i : Nat} {k : D → Prop} (h : look ρ i k) : ∃ d, ρ[i]? = some (some d) ∧ k d := by
  unfold look at h
  split at h
  · exact ⟨_, by assumption, h⟩
  · exact h.elim
section
variable {P : Hp} {M : Mh} {H : Hp} {v : V}
theorem Rep.toI {i : Int} (r : Rep K P v (.int i)) : v = .int i := by cases r; rfl
theorem Rep.toB {i : Bool} (r : Rep K P v (.bl i)) : v = .bl i := by cases r; rfl
theorem Rep.toS {i : Str} (r : Rep K P v (.str i)) : v = .str i := by cases r; rfl
theorem Rep.toN (r : Rep K P v .non) : v = .non := by cases r; rfl
theorem Rep.toR {a : Addr} (r : Rep K P v (.ref a)) : v = .ref a := by cases r; rfl
theorem Rep.toT {ds : List D} (r : Rep K P v (.tup ds)) : ∃ a vs, v = .ref a ∧ SqT K P a vs ∧ RepL K P vs ds := by cases r; exact ⟨_, _, rfl, by assumption, by assumption⟩
theorem Rep.toL {ds : List D} (r : Rep K P v (.lst ds)) : ∃ a vs, v = .ref a ∧ P a = some (.lst vs) ∧ RepL K P vs ds := by cases r; exact ⟨_, _, rfl, by assumption, by assumption⟩
theorem Rep.toLw {ds : List D} (r : Rep K P v (.lsw ds)) : ∃ a vs, v = .ref a ∧ SqL K P a vs ∧ RepL K P vs ds := by cases r; exact ⟨_, _, rfl, by assumption, by assumption⟩
theorem Rep.toD {kds : List (Key × D)} (r : Rep K P v (.dct kds)) : ∃ a kvs, v = .ref a ∧ P a = some (.dK kvs) ∧ kvs.map Prod.fst = kds.map Prod.fst ∧ RepL K P (kvs.map Prod.snd) (kds.map Prod.snd) := by
  cases r; exact ⟨_, _, rfl, by assumption, by assumption, by assumption⟩
/-- a list that is read, of either kind -/
theorem asL.rd {d : D} {k : List D → Prop} (h : asL d M k) (w : Wr K T P M H) (r : Rep K P v d) : ∃ ds a vs, k ds ∧ v = .ref a ∧ SqL K H a vs ∧ RepL K P vs ds := by
  obtain ⟨ds, hk, (e | e) | ⟨p, e, hm⟩⟩ := h.get
  · subst e
    obtain ⟨a, vs, rfl, hs, hr⟩ := r.toL
    exact ⟨ds, a, vs, hk, rfl, w.sl (SqL.of hs), hr⟩
  · subst e
    obtain ⟨a, vs, rfl, hs, hr⟩ := r.toLw
    exact ⟨ds, a, vs, hk, rfl, w.sl hs, hr⟩
  · subst e
    obtain ⟨o, ho, rm⟩ := w.chg _ _ hm
    cases rm with
    | lst hr => exact ⟨ds, p, _, hk, r.toR, SqL.of ho, hr⟩
end

/-! ### expressions -/
def xVar (i : Nat) : XE K T where
  t := fun _ => tVar i
  w := fun ρ M Φ _ => look ρ i fun d => Φ d M
  ok := fun h _ _ _ wr rs _ hq _ => by
    obtain ⟨d, e, h⟩ := h.get
    obtain ⟨v, e2, r⟩ := rs.2 _ _ e
    exact ⟨v, e2, hq v d _ _ _ h (Step.refl wr) r⟩
def xInt (i : Int) : XE K T := ⟨fun _ => tC (.int i), fun _ M Φ _ => Φ (.int i) M, fun h _ _ _ wr _ _ hq _ => hq _ _ _ _ _ h (Step.refl wr) (.int i)⟩
def xStr (i : Str) : XE K T := ⟨fun _ => tC (.str i), fun _ M Φ _ => Φ (.str i) M, fun h _ _ _ wr _ _ hq _ => hq _ _ _ _ _ h (Step.refl wr) (.str i)⟩
def xBl (i : Bool) : XE K T := ⟨fun _ => tC (.bl i), fun _ M Φ _ => Φ (.bl i) M, fun h _ _ _ wr _ _ hq _ => hq _ _ _ _ _ h (Step.refl wr) (.bl i)⟩
def xNon : XE K T := ⟨fun _ => tC .non, fun _ M Φ _ => Φ .non M, fun h _ _ _ wr _ _ hq _ => hq _ _ _ _ _ h (Step.refl wr) .non⟩
def xOp (o : XO K T) (a b : XE K T) : XE K T where
  t := fun W => tOp o.r (a.t W) (b.t W)
  w := fun ρ M Φ Ξ => a.w ρ M (fun x M1 => b.w ρ M1 (fun y M2 => o.w x y M2 Φ) Ξ) Ξ
  ok := fun h _ _ _ wr rs _ hq hx => a.ok h wr rs (fun v x P1 M1 H1 h1 s1 r1 => b.ok h1 s1.wr (rs.mono s1.ex) (fun u y P2 M2 H2 h2 s2 r2 =>
    o.ok h2 s2.wr (r1.mono s2.ex) r2 fun z d P3 M3 H3 h3 s3 r3 => hq z d P3 M3 H3 h3 ((s1.trans s2).trans s3) r3) (hx.mono s1)) hx
/-- a op b op' c -/
def xCh (o o' : XO K T) (a b c : XE K T) : XE K T where
  t := fun W => tChain o.r o'.r (a.t W) (b.t W) (c.t W)
  w := fun ρ M Φ Ξ => a.w ρ M (fun x M1 => b.w ρ M1 (fun y M2 => o.w x y M2 fun z M3 => asB z fun k => if k = true then c.w ρ M3 (fun u M4 => o'.w y u M4 Φ) Ξ else Φ (.bl false) M3) Ξ) Ξ
  ok := fun h _ _ _ wr rs _ hq hx => a.ok h wr rs (fun v x P1 M1 H1 h1 s1 r1 => b.ok h1 s1.wr (rs.mono s1.ex) (fun u y P2 M2 H2 h2 s2 r2 =>
    o.ok h2 s2.wr (r1.mono s2.ex) r2 fun z d P3 M3 H3 h3 s3 r3 => by
      obtain ⟨k, rfl, h3⟩ := h3.get
      refine ⟨k, r3.toB, ?_⟩
      have s13 := (s1.trans s2).trans s3
      cases k with
      | true => exact c.ok h3 s3.wr (rs.mono s13.ex) (fun q z P4 M4 H4 h4 s4 r4 => o'.ok h4 s4.wr ((r2.mono s3.ex).mono s4.ex) r4 fun z d P5 M5 H5 h5 s5 r5 => hq z d P5 M5 H5 h5 ((s13.trans s4).trans s5) r5) (hx.mono s13)
      | false => exact hq _ _ _ _ _ h3 s13 (.bl false)) (hx.mono s1)) hx
def xAnd (a b : XE K T) : XE K T where
  t := fun W => tAndV (a.t W) (b.t W)
  w := fun ρ M Φ Ξ => a.w ρ M (fun x M1 => asB x fun k => if k = true then b.w ρ M1 Φ Ξ else Φ (.bl false) M1) Ξ
  ok := fun h _ _ _ wr rs _ hq hx => a.ok h wr rs (fun v x P1 M1 H1 h1 s1 r1 => by
    obtain ⟨k, rfl, h1⟩ := h1.get
    refine ⟨k, r1.toB, ?_⟩
    cases k with
    | true => exact b.ok h1 s1.wr (rs.mono s1.ex) (fun u y P2 M2 H2 h2 s2 r2 => hq u y P2 M2 H2 h2 (s1.trans s2) r2) (hx.mono s1)
    | false => exact hq _ _ _ _ _ h1 s1 (.bl false)) hx
def xOr (a b : XE K T) : XE K T where
  t := fun W => tOrV (a.t W) (b.t W)
  w := fun ρ M Φ Ξ => a.w ρ M (fun x M1 => asB x fun k => if k = true then Φ (.bl true) M1 else b.w ρ M1 Φ Ξ) Ξ
  ok := fun h _ _ _ wr rs _ hq hx => a.ok h wr rs (fun v x P1 M1 H1 h1 s1 r1 => by
    obtain ⟨k, rfl, h1⟩ := h1.get
    refine ⟨k, r1.toB, ?_⟩
    cases k with
    | false => exact b.ok h1 s1.wr (rs.mono s1.ex) (fun u y P2 M2 H2 h2 s2 r2 => hq u y P2 M2 H2 h2 (s1.trans s2) r2) (hx.mono s1)
    | true => exact hq _ _ _ _ _ h1 s1 (.bl true)) hx
def xNot (a : XE K T) : XE K T where
  t := fun W => tNotV (a.t W)
  w := fun ρ M Φ Ξ => a.w ρ M (fun x M1 => asB x fun k => Φ (.bl (!k)) M1) Ξ
  ok := fun h _ _ _ wr rs _ hq hx => a.ok h wr rs (fun v x P1 M1 H1 h1 s1 r1 => by
    obtain ⟨k, rfl, h1⟩ := h1.get
    exact ⟨k, r1.toB, hq _ _ _ _ _ h1 s1 (.bl _)⟩) hx
def xIf (c : XT K T) (a b : XE K T) : XE K T where
  t := fun W => tIf (c.t W) (a.t W) (b.t W)
  w := fun ρ M Φ Ξ => c.w ρ M (fun k M1 => if k = true then a.w ρ M1 Φ Ξ else b.w ρ M1 Φ Ξ) Ξ
  ok := fun h _ _ _ wr rs _ hq hx => c.ok h wr rs (fun k P1 M1 H1 h1 s1 => by
    cases k with
    | true => exact a.ok h1 s1.wr (rs.mono s1.ex) (fun u y P2 M2 H2 h2 s2 r2 => hq u y P2 M2 H2 h2 (s1.trans s2) r2) (hx.mono s1)
    | false => exact b.ok h1 s1.wr (rs.mono s1.ex) (fun u y P2 M2 H2 h2 s2 r2 => hq u y P2 M2 H2 h2 (s1.trans s2) r2) (hx.mono s1)) hx
/-! ### arguments, displays -/
def aNil : XA K T := ⟨fun _ => tNil, fun _ M Φ _ => Φ [] M, fun h _ _ _ wr _ _ hq _ => hq _ _ _ _ _ h (Step.refl wr) .nil⟩
def aCons (a : XE K T) (as : XA K T) : XA K T where
  t := fun W => tCons (a.t W) (as.t W)
  w := fun ρ M Φ Ξ => a.w ρ M (fun x M1 => as.w ρ M1 (fun xs M2 => Φ (x :: xs) M2) Ξ) Ξ
  ok := fun h _ _ _ wr rs _ hq hx => a.ok h wr rs (fun v x P1 M1 H1 h1 s1 r1 => as.ok h1 s1.wr (rs.mono s1.ex) (fun vs xs P2 M2 H2 h2 s2 r2 =>
    hq (v :: vs) (x :: xs) P2 M2 H2 h2 (s1.trans s2) (.cons (r1.mono s2.ex) r2)) (hx.mono s1)) hx
theorem sz_of {n : Nat} (h : n ≤ 100000) : n ≤ sizeLine := Nat.le_trans h (by decide)
theorem sz_lt {n : Nat} (h : n < 100000) : n < sizeLine := Nat.lt_of_lt_of_le h (by decide)
def xTup (as : XA K T) : XE K T where
  t := fun W => tTup (as.t W)
  w := fun ρ M Φ Ξ => as.w ρ M (fun ds M1 => ds.length ≤ 100000 ∧ Φ (.tup ds) M1) Ξ
  ok := fun h _ _ _ wr rs _ hq hx => as.ok h wr rs (fun vs ds P1 M1 H1 h1 s1 r1 => ⟨by rw [r1.len]; exact sz_of h1.1, fun p hp =>
    let s2 := Step.newP s1.wr (o := .tup vs) hp
    hq _ _ _ _ _ h1.2 (s1.trans s2) (.tup (SqT.of upd_same) (r1.mono s2.ex))⟩) hx
def xLst (as : XA K T) : XE K T where
  t := fun W => tLst (as.t W)
  w := fun ρ M Φ Ξ => as.w ρ M (fun ds M1 => ds.length ≤ 100000 ∧ Φ (.lst ds) M1) Ξ
  ok := fun h _ _ _ wr rs _ hq hx => as.ok h wr rs (fun vs ds P1 M1 H1 h1 s1 r1 => ⟨by rw [r1.len]; exact sz_of h1.1, fun p hp =>
    let s2 := Step.newP s1.wr (o := .lst vs) hp
    hq _ _ _ _ _ h1.2 (s1.trans s2) (.lst upd_same (r1.mono s2.ex))⟩) hx
/-- a list that will change -/
def xLstM (as : XA K T) : XE K T where
  t := fun W => tLst (as.t W)
  w := fun ρ M Φ Ξ => as.w ρ M (fun ds M1 => ds.length ≤ 100000 ∧ ∀ p, M1 p = none → Φ (.ref p) (um M1 p (.lst ds))) Ξ
  ok := fun h _ _ _ wr rs _ hq hx => as.ok h wr rs (fun vs ds P1 M1 H1 h1 s1 r1 => ⟨by rw [r1.len]; exact sz_of h1.1, fun p hp =>
    hq _ _ _ _ _ (h1.2 p (s1.wr.mfree hp)) (s1.trans (Step.newM s1.wr hp (.lst r1))) (.ref p)⟩) hx
/-- a builtin, called -/
def xB (b : XB K T) (as : XA K T) : XE K T where
  t := fun W => tCB b.r (as.t W)
  w := fun ρ M Φ Ξ => as.w ρ M (fun ds M1 => b.w ds M1 Φ) Ξ
  ok := fun h _ _ _ wr rs _ hq hx => as.ok h wr rs (fun vs ds P1 M1 H1 h1 s1 r1 => b.ok h1 s1.wr r1 fun v d P2 M2 H2 h2 s2 r2 => hq v d P2 M2 H2 h2 (s1.trans s2) r2) hx
/-! ### a def's promise -/
abbrev Pm := List D → Mh → (D → Mh → Prop) → (Value → Option Addr → Mh → Prop) → Prop
def spOf (K : PySem.W.Frag) (T : Addr → Prop) (sp : Pm) : Sp := fun vs H Q E => ∃ P M ds Φ Ξ, Wr K T P M H ∧ RepL K P vs ds ∧ sp ds M Φ Ξ ∧
  (∀ v d P' M' H', Φ d M' → Step K T P M H P' M' H' → Rep K P' v d → Q v H') ∧ ∀ cls dd P' M' H', Ξ cls dd M' → Step K T P M H P' M' H' → E cls dd H'
def xCall (sp : Pm) (as : XA K T) : XE K T where
  t := fun W => tCallS (spOf K T sp) (WE W) (as.t W)
  w := fun ρ M Φ Ξ => as.w ρ M (fun ds M1 => sp ds M1 Φ (fun cls dd M2 => Ξ cls dd ρ M2)) Ξ
  ok := fun h _ _ _ wr rs _ hq hx => as.ok h wr rs (fun vs ds P1 M1 H1 h1 s1 r1 => ⟨P1, M1, ds, _, _, s1.wr, r1, h1, fun v d P2 M2 H2 h2 s2 r2 => hq v d P2 M2 H2 h2 (s1.trans s2) r2,
    fun cls dd P2 M2 H2 h2 s2 => hx cls dd _ _ P2 M2 H2 h2 (s1.trans s2) (rs.mono (s1.trans s2).ex)⟩) hx
/-! ### tests -/
def qT (a : XE K T) : XT K T where
  t := fun W => tTest (a.t W)
  w := fun ρ M Φ Ξ => a.w ρ M (fun x M1 => asB x fun k => Φ k M1) Ξ
  ok := fun h _ _ _ wr rs _ hq hx => a.ok h wr rs (fun v x P1 M1 H1 h1 s1 r1 => by
    obtain ⟨k, rfl, h1⟩ := h1.get
    exact ⟨k, r1.toB, hq _ _ _ _ h1 s1⟩) hx
def qB (a : XE K T) : XT K T where
  t := fun W => tB (a.t W)
  w := fun ρ M Φ Ξ => a.w ρ M (fun x M1 => asB x fun k => Φ k M1) Ξ
  ok := fun h _ _ _ wr rs _ hq hx => a.ok h wr rs (fun v x P1 M1 H1 h1 s1 r1 => by
    obtain ⟨k, rfl, h1⟩ := h1.get
    exact ⟨k, r1.toB, hq _ _ _ _ h1 s1⟩) hx
def qAnd (a b : XT K T) : XT K T where
  t := fun W => tAnd (a.t W) (b.t W)
  w := fun ρ M Φ Ξ => a.w ρ M (fun k M1 => if k = true then b.w ρ M1 Φ Ξ else Φ false M1) Ξ
  ok := fun h _ _ _ wr rs _ hq hx => a.ok h wr rs (fun k P1 M1 H1 h1 s1 => by
    cases k with
    | true => exact b.ok h1 s1.wr (rs.mono s1.ex) (fun u P2 M2 H2 h2 s2 => hq u P2 M2 H2 h2 (s1.trans s2)) (hx.mono s1)
    | false => exact hq _ _ _ _ h1 s1) hx
def qOr (a b : XT K T) : XT K T where
  t := fun W => tOr (a.t W) (b.t W)
  w := fun ρ M Φ Ξ => a.w ρ M (fun k M1 => if k = true then Φ true M1 else b.w ρ M1 Φ Ξ) Ξ
  ok := fun h _ _ _ wr rs _ hq hx => a.ok h wr rs (fun k P1 M1 H1 h1 s1 => by
    cases k with
    | false => exact b.ok h1 s1.wr (rs.mono s1.ex) (fun u P2 M2 H2 h2 s2 => hq u P2 M2 H2 h2 (s1.trans s2)) (hx.mono s1)
    | true => exact hq _ _ _ _ h1 s1) hx
def qNot (a : XT K T) : XT K T where
  t := fun W => tNot (a.t W)
  w := fun ρ M Φ Ξ => a.w ρ M (fun k M1 => Φ (!k) M1) Ξ
  ok := fun h _ _ _ wr rs _ hq hx => a.ok h wr rs (fun k P1 M1 H1 h1 s1 => hq _ _ _ _ h1 s1) hx
/-! ### targets -/
def gN (i : Nat) : XG K T := ⟨fun _ => gName i, fun d ρ M Φ _ => Φ (ρ.set i (some d)) M, fun h _ _ _ _ wr rs r _ hq _ => hq _ _ _ _ _ h (Step.refl wr) (rs.set r i)⟩
def gsN : XGs K T := ⟨fun _ => gNil, fun ds ρ M Φ _ => ds = [] ∧ Φ ρ M, fun h _ _ _ _ wr rs r _ hq _ => by
  obtain ⟨rfl, h⟩ := h
  cases r
  exact ⟨rfl, hq _ _ _ _ _ h (Step.refl wr) rs⟩⟩
def gsC (g : XG K T) (gs : XGs K T) : XGs K T where
  t := fun W => gCons (g.t W) (gs.t W)
  w := fun ds ρ M Φ Ξ => match ds with | d :: r => g.w d ρ M (fun ρ' M' => gs.w r ρ' M' Φ Ξ) Ξ | [] => False
  ok := fun {W ds ρ M Φ Ξ} h _ _ _ _ wr rs r _ hq hx => by
    cases r with
    | nil => exact h.elim
    | cons r1 r2 => exact ⟨_, _, rfl, g.ok h wr rs r1 (fun ρ' σ' P1 M1 H1 h1 s1 rs1 => gs.ok h1 s1.wr rs1 (r2.mono s1.ex) (fun ρ2 σ2 P2 M2 H2 h2 s2 rs2 => hq ρ2 σ2 P2 M2 H2 h2 (s1.trans s2) rs2) (hx.mono s1)) hx⟩
def gT (n : Nat) (gs : XGs K T) : XG K T where
  t := fun W => gTup K n (gs.t W)
  w := fun d ρ M Φ Ξ => asT d fun ds => ds.length = n ∧ gs.w ds ρ M Φ Ξ
  ok := fun {W d ρ M Φ Ξ} h _ _ _ _ wr rs r _ hq hx => by
    obtain ⟨ds, rfl, hl, h⟩ := h.get
    obtain ⟨a, vs, rfl, hs, hr⟩ := r.toT
    exact ⟨a, vs, rfl, wr.st hs, by rw [hr.len]; exact hl, gs.ok h wr rs hr hq hx⟩
def setD (ds : List D) (k : Int) (d : D) (f : List D → Prop) : Prop := match ixN ds.length k with | some j => f (ds.set j d) | none => False
theorem setD.get {ds : List D} {k : Int} {d : D} {f : List D → Prop} (h : setD ds k d f) : ∃ j, ixN ds.length k = some j ∧ f (ds.set j d) := by
  unfold setD at h
  split at h
  · exact ⟨_, by assumption, h⟩
  · exact h.elim
/-- o[i] = .. of a list that changes -/
def gIx (o i : XE K T) : XG K T where
  t := fun W => gSub (o.t W) (i.t W) rSetL
  w := fun d ρ M Φ Ξ => o.w ρ M (fun x M1 => asR x fun p => i.w ρ M1 (fun y M2 => asI y fun k => mL M2 p fun ds => setD ds k d fun ds' => Φ ρ (um M2 p (.lst ds'))) Ξ) Ξ
  ok := fun {W d ρ M Φ Ξ} h P v σ H wr rs r Q hq hx => o.ok h wr rs (fun u x P1 M1 H1 h1 s1 r1 => by
    obtain ⟨p, rfl, h1⟩ := h1.get
    refine i.ok h1 s1.wr (rs.mono s1.ex) (fun z y P2 M2 H2 h2 s2 r2 => ?_) (hx.mono s1)
    obtain ⟨k, rfl, h3⟩ := h2.get
    obtain ⟨ds, hm, h4⟩ := mL.get h3
    obtain ⟨ob, ho, rm⟩ := s2.wr.chg _ _ hm
    cases rm with
    | @lst vs _ hr =>
      obtain ⟨j, e, h4⟩ := h4.get
      have s12 := s1.trans s2
      refine ⟨p, vs, k, j, r1.toR, r2.toI, ho, by rw [hr.len]; exact e, ?_⟩
      exact hq _ _ _ _ _ h4 (s12.trans (Step.put s2.wr hm (.lst (hr.set j (r.mono s12.ex))))) (rs.mono s12.ex)) hx

/-! ### statements -/
def sNx : XS K T := ⟨fun _ => tNext, fun ρ M ε _ => ε.nx ρ M, fun h _ _ _ wr rs _ hd _ => hd.nx _ _ _ _ _ h (Step.refl wr) rs⟩
def sBk : XS K T := ⟨fun _ => tBreak, fun ρ M ε _ => ε.bk ρ M, fun h _ _ _ wr rs _ hd _ => hd.bk _ _ _ _ _ h (Step.refl wr) rs⟩
def sCt : XS K T := ⟨fun _ => tCont, fun ρ M ε _ => ε.ct ρ M, fun h _ _ _ wr rs _ hd _ => hd.ct _ _ _ _ _ h (Step.refl wr) rs⟩
def sRn : XS K T := ⟨fun _ => tRetN, fun _ M ε _ => ε.rt .non M, fun h _ _ _ wr rs _ hd _ => hd.rt _ _ _ _ _ h (Step.refl wr) .non⟩
def sSeq (a b : XS K T) : XS K T where
  t := fun W => tSeq (a.t W) (b.t W)
  w := fun ρ M ε Ξ => a.w ρ M { ε with nx := fun ρ' M' => b.w ρ' M' ε Ξ } Ξ
  ok := fun h _ _ _ wr rs _ hd hx => a.ok h wr rs ⟨fun ρ1 σ1 P1 M1 H1 h1 s1 rs1 => b.ok h1 s1.wr rs1 (hd.mono s1) (hx.mono s1), hd.rt, hd.bk, hd.ct⟩ hx
def sRet (a : XE K T) : XS K T where
  t := fun W => tRet (a.t W)
  w := fun ρ M ε Ξ => a.w ρ M ε.rt Ξ
  ok := fun h _ _ _ wr rs _ hd hx => a.ok h wr rs (fun v d P1 M1 H1 h1 s1 r1 => hd.rt v d P1 M1 H1 h1 s1 r1) hx
def sEx (a : XE K T) : XS K T where
  t := fun W => tDrop (a.t W)
  w := fun ρ M ε Ξ => a.w ρ M (fun _ M1 => ε.nx ρ M1) Ξ
  ok := fun h _ _ _ wr rs _ hd hx => a.ok h wr rs (fun v d P1 M1 H1 h1 s1 r1 => hd.nx _ _ P1 M1 H1 h1 s1 (rs.mono s1.ex)) hx
def sIf (c : XT K T) (a b : XS K T) : XS K T where
  t := fun W => tIfS (c.t W) (a.t W) (b.t W)
  w := fun ρ M ε Ξ => c.w ρ M (fun k M1 => if k = true then a.w ρ M1 ε Ξ else b.w ρ M1 ε Ξ) Ξ
  ok := fun h _ _ _ wr rs _ hd hx => c.ok h wr rs (fun k P1 M1 H1 h1 s1 => by
    cases k with
    | true => exact a.ok h1 s1.wr (rs.mono s1.ex) (hd.mono s1) (hx.mono s1)
    | false => exact b.ok h1 s1.wr (rs.mono s1.ex) (hd.mono s1) (hx.mono s1)) hx
def sAs (a : XE K T) (g : XG K T) : XS K T where
  t := fun W => tAsg (a.t W) (g.t W)
  w := fun ρ M ε Ξ => a.w ρ M (fun d M1 => g.w d ρ M1 ε.nx Ξ) Ξ
  ok := fun h _ _ _ wr rs _ hd hx => a.ok h wr rs (fun v d P1 M1 H1 h1 s1 r1 => g.ok h1 s1.wr (rs.mono s1.ex) r1 (fun ρ2 σ2 P2 M2 H2 h2 s2 rs2 => hd.nx ρ2 σ2 P2 M2 H2 h2 (s1.trans s2) rs2) (hx.mono s1)) hx
/-- x, y = a, b -/
def sPar (i j : Nat) (as : XA K T) : XS K T where
  t := fun W => tPar i j (as.t W)
  w := fun ρ M ε Ξ => as.w ρ M (fun ds M1 => match ds with | [x, y] => ε.nx ((ρ.set i (some x)).set j (some y)) M1 | _ => False) Ξ
  ok := fun h _ _ _ wr rs _ hd hx => as.ok h wr rs (fun vs ds P1 M1 H1 h1 s1 r1 => by
    cases r1 with
    | nil => exact h1.elim
    | cons r2 r3 =>
      cases r3 with
      | nil => exact h1.elim
      | cons r4 r5 =>
        cases r5 with
        | nil => exact ⟨_, _, rfl, hd.nx _ _ P1 M1 H1 h1 s1 (((rs.mono s1.ex).set r2 _).set r4 _)⟩
        | cons _ _ => exact h1.elim) hx
end Ab

set_option Elab.async false
set_option linter.all false
set_option maxRecDepth 100000
set_option maxHeartbeats 2000000
namespace Ab
open PySem L2
variable {K : PySem.W.Frag} {T : Addr → Prop}
/-! ### operations -/
/-- ints to a value that is no object -/
def oII (r : R2) (g : Int → Int → V) (gd : Int → Int → D) (C : Int → Int → Prop) (hr : ∀ i j H (Q : VK), C i j → Q (g i j) H → r (.int i) (.int j) H Q) (hg : ∀ P i j, Rep K P (g i j) (gd i j)) : XO K T where
  r := r
  w := fun x y M Φ => asI x fun i => asI y fun j => C i j ∧ Φ (gd i j) M
  ok := fun h P H vx vy wr rx ry Q hq => by
    obtain ⟨i, rfl, h1⟩ := h.get
    obtain ⟨j, rfl, h2, h3⟩ := asI.get h1
    rw [rx.toI, ry.toI]
    exact hr i j H Q h2 (hq _ _ _ _ _ h3 (Step.refl wr) (hg P i j))
def oAdd : XO K T := oII (rI0 fun i j => .int (i + j)) (fun i j => .int (i + j)) (fun i j => .int (i + j)) (fun _ _ => True) (fun i j _ _ _ q => ⟨i, j, rfl, rfl, q⟩) (fun _ _ _ => .int _)
def oSub : XO K T := oII (rI0 fun i j => .int (i - j)) (fun i j => .int (i - j)) (fun i j => .int (i - j)) (fun _ _ => True) (fun i j _ _ _ q => ⟨i, j, rfl, rfl, q⟩) (fun _ _ _ => .int _)
def oMul : XO K T := oII (rI CMul fun i j => .int (i * j)) (fun i j => .int (i * j)) (fun i j => .int (i * j)) CMul (fun i j _ _ c q => ⟨i, j, rfl, rfl, c, q⟩) (fun _ _ _ => .int _)
def oMod : XO K T := oII (rI (fun _ j => 0 < j) fun i j => .int (i % j)) (fun i j => .int (i % j)) (fun i j => .int (i % j)) (fun _ j => 0 < j) (fun i j _ _ c q => ⟨i, j, rfl, rfl, c, q⟩) (fun _ _ _ => .int _)
def oDiv : XO K T := oII (rI CDiv fun i j => .int (i / j)) (fun i j => .int (i / j)) (fun i j => .int (i / j)) CDiv (fun i j _ _ c q => ⟨i, j, rfl, rfl, c, q⟩) (fun _ _ _ => .int _)
def oPow : XO K T := oII (rI CPow fun i j => .int (i ^ j.toNat)) (fun i j => .int (i ^ j.toNat)) (fun i j => .int (i ^ j.toNat)) CPow (fun i j _ _ c q => ⟨i, j, rfl, rfl, c, q⟩) (fun _ _ _ => .int _)
def oLt : XO K T := oII (rI0 fun i j => .bl (decide (i < j))) (fun i j => .bl (decide (i < j))) (fun i j => .bl (decide (i < j))) (fun _ _ => True) (fun i j _ _ _ q => ⟨i, j, rfl, rfl, q⟩) (fun _ _ _ => .bl _)
def oLe : XO K T := oII (rI0 fun i j => .bl (decide (i ≤ j))) (fun i j => .bl (decide (i ≤ j))) (fun i j => .bl (decide (i ≤ j))) (fun _ _ => True) (fun i j _ _ _ q => ⟨i, j, rfl, rfl, q⟩) (fun _ _ _ => .bl _)
def oGt : XO K T := oII (rI0 fun i j => .bl (decide (j < i))) (fun i j => .bl (decide (j < i))) (fun i j => .bl (decide (j < i))) (fun _ _ => True) (fun i j _ _ _ q => ⟨i, j, rfl, rfl, q⟩) (fun _ _ _ => .bl _)
def oGe : XO K T := oII (rI0 fun i j => .bl (decide (j ≤ i))) (fun i j => .bl (decide (j ≤ i))) (fun i j => .bl (decide (j ≤ i))) (fun _ _ => True) (fun i j _ _ _ q => ⟨i, j, rfl, rfl, q⟩) (fun _ _ _ => .bl _)
/-- texts -/
def oSS (r : R2) (g : Str → Str → V) (gd : Str → Str → D) (C : Str → Str → Prop) (hr : ∀ i j H (Q : VK), C i j → Q (g i j) H → r (.str i) (.str j) H Q) (hg : ∀ P i j, Rep K P (g i j) (gd i j)) : XO K T where
  r := r
  w := fun x y M Φ => asS x fun i => asS y fun j => C i j ∧ Φ (gd i j) M
  ok := fun h P H vx vy wr rx ry Q hq => by
    obtain ⟨i, rfl, h1⟩ := h.get
    obtain ⟨j, rfl, h2, h3⟩ := asS.get h1
    rw [rx.toS, ry.toS]
    exact hr i j H Q h2 (hq _ _ _ _ _ h3 (Step.refl wr) (hg P i j))
def oAddS : XO K T := oSS (fun x y H Q => ∃ i j, x = .str i ∧ y = .str j ∧ i.length + j.length ≤ sizeLine ∧ Q (.str (i ++ j)) H) (fun i j => .str (i ++ j)) (fun i j => .str (i ++ j)) (fun i j => i.length + j.length ≤ 100000) (fun i j _ _ c q => ⟨i, j, rfl, rfl, sz_of c, q⟩) (fun _ _ _ => .str _)
def oLtS : XO K T := oSS (fun x y H Q => ∃ i j, x = .str i ∧ y = .str j ∧ Q (.bl (decide (i.cps.toList < j.cps.toList))) H) (fun i j => .bl (decide (i.cps.toList < j.cps.toList))) (fun i j => .bl (decide (i.cps.toList < j.cps.toList))) (fun _ _ => True) (fun i j _ _ _ q => ⟨i, j, rfl, rfl, q⟩) (fun _ _ _ => .bl _)
def oGtS : XO K T := oSS (fun x y H Q => ∃ i j, x = .str i ∧ y = .str j ∧ Q (.bl (decide (j.cps.toList < i.cps.toList))) H) (fun i j => .bl (decide (j.cps.toList < i.cps.toList))) (fun i j => .bl (decide (j.cps.toList < i.cps.toList))) (fun _ _ => True) (fun i j _ _ _ q => ⟨i, j, rfl, rfl, q⟩) (fun _ _ _ => .bl _)
def oLeS : XO K T := oSS (fun x y H Q => ∃ i j, x = .str i ∧ y = .str j ∧ Q (.bl (!decide (j.cps.toList < i.cps.toList))) H) (fun i j => .bl (!decide (j.cps.toList < i.cps.toList))) (fun i j => .bl (!decide (j.cps.toList < i.cps.toList))) (fun _ _ => True) (fun i j _ _ _ q => ⟨i, j, rfl, rfl, q⟩) (fun _ _ _ => .bl _)
def oGeS : XO K T := oSS (fun x y H Q => ∃ i j, x = .str i ∧ y = .str j ∧ Q (.bl (!decide (i.cps.toList < j.cps.toList))) H) (fun i j => .bl (!decide (i.cps.toList < j.cps.toList))) (fun i j => .bl (!decide (i.cps.toList < j.cps.toList))) (fun _ _ => True) (fun i j _ _ _ q => ⟨i, j, rfl, rfl, q⟩) (fun _ _ _ => .bl _)
/-- scalars compared -/
def scD : D → Option V
  | .non => some .non | .bl b => some (.bl b) | .int i => some (.int i) | .str s => some (.str s)
  | _ => none
theorem scD_rep {P : Hp} {v u : V} {d : D} (r : Rep K P v d) (h : scD d = some u) : v = u := by
  cases d <;> first | (cases h; cases r; rfl) | cases h
def asSc (d : D) (k : V → Prop) : Prop := match d with
  | .non => k .non | .bl b => k (.bl b) | .int i => k (.int i) | .str s => k (.str s)
  | _ => False
theorem asSc.get {P : Hp} {v : V} {d : D} {k : V → Prop} (h : asSc d k) (r : Rep K P v d) : k v := by
  cases d <;> first | (cases r; exact h) | exact h.elim
def oEq : XO K T where
  r := rEq
  w := fun x y M Φ => asSc x fun u => asSc y fun v => scal u v = true ∧ Φ (.bl (decide (u = v))) M
  ok := fun h P H vx vy wr rx ry Q hq => by
    obtain ⟨h1, h2⟩ := asSc.get (asSc.get h rx) ry
    exact ⟨h1, hq _ _ _ _ _ h2 (Step.refl wr) (.bl _)⟩
def oNe : XO K T where
  r := rNe
  w := fun x y M Φ => asSc x fun u => asSc y fun v => scal u v = true ∧ Φ (.bl (!decide (u = v))) M
  ok := fun h P H vx vy wr rx ry Q hq => by
    obtain ⟨h1, h2⟩ := asSc.get (asSc.get h rx) ry
    exact ⟨h1, hq _ _ _ _ _ h2 (Step.refl wr) (.bl _)⟩
def oIsB : XO K T where
  r := rIsB
  w := fun x y M Φ => asB x fun a => asB y fun b => Φ (.bl (decide (a = b))) M
  ok := fun h P H vx vy wr rx ry Q hq => by
    obtain ⟨i, rfl, h1⟩ := h.get
    obtain ⟨j, rfl, h2⟩ := asB.get h1
    exact ⟨i, j, rx.toB, ry.toB, hq _ _ _ _ _ h2 (Step.refl wr) (.bl _)⟩
def isN : D → Bool | .non => true | _ => false
theorem isN_rep {P : Hp} {v : V} {d : D} (r : Rep K P v d) : decide (v = .non) = isN d := by
  cases r <;> simp [isN]
def xIsN (a : XE K T) : XE K T where
  t := fun W => tIsN (a.t W)
  w := fun ρ M Φ Ξ => a.w ρ M (fun x M1 => Φ (.bl (isN x)) M1) Ξ
  ok := fun h _ _ _ wr rs _ hq hx => a.ok h wr rs (fun v x P1 M1 H1 h1 s1 r1 => by
    rw [isN_rep r1]
    exact hq _ _ _ _ _ h1 s1 (.bl _)) hx
def xNotN (a : XE K T) : XE K T where
  t := fun W => tNotN (a.t W)
  w := fun ρ M Φ Ξ => a.w ρ M (fun x M1 => Φ (.bl (!isN x)) M1) Ξ
  ok := fun h _ _ _ wr rs _ hq hx => a.ok h wr rs (fun v x P1 M1 H1 h1 s1 r1 => by
    rw [isN_rep r1]
    exact hq _ _ _ _ _ h1 s1 (.bl _)) hx
/-- an item -/
def at_ (ds : List D) (i : Int) (k : D → Prop) : Prop := match atI ds i with | some d => k d | none => False
theorem atI_rep {P : Hp} {vs : List V} {ds : List D} {i : Int} {k : D → Prop} (h : at_ ds i k) (r : RepL K P vs ds) : ∃ v d, atI vs i = some v ∧ Rep K P v d ∧ k d := by
  unfold at_ at h
  cases e : atI ds i with
  | none => rw [e] at h; exact h.elim
  | some d =>
    rw [e] at h
    unfold atI at e ⊢
    rw [r.len]
    cases e2 : ixN ds.length i with
    | none => rw [e2] at e; cases e
    | some j =>
      rw [e2] at e
      obtain ⟨v, e3, r3⟩ := r.getd e
      exact ⟨v, d, e3, r3, h⟩
def oIxL : XO K T where
  r := rIxL K
  w := fun x y M Φ => asL x M fun ds => asI y fun i => at_ ds i fun d => Φ d M
  ok := fun h P H vx vy wr rx ry Q hq => by
    obtain ⟨ds, a, vs, h1, rfl, hs, hr⟩ := h.rd wr rx
    obtain ⟨i, rfl, h2⟩ := asI.get h1
    obtain ⟨v, d, e, r, h3⟩ := atI_rep h2 hr
    exact ⟨a, vs, i, v, rfl, ry.toI, hs, e, hq _ _ _ _ _ h3 (Step.refl wr) r⟩
def oIxT : XO K T where
  r := rIxT K
  w := fun x y M Φ => asT x fun ds => asI y fun i => at_ ds i fun d => Φ d M
  ok := fun h P H vx vy wr rx ry Q hq => by
    obtain ⟨ds, rfl, h1⟩ := h.get
    obtain ⟨a, vs, rfl, hs, hr⟩ := rx.toT
    obtain ⟨i, rfl, h2⟩ := asI.get h1
    obtain ⟨v, d, e, r, h3⟩ := atI_rep h2 hr
    exact ⟨a, vs, i, v, rfl, ry.toI, wr.st hs, e, hq _ _ _ _ _ h3 (Step.refl wr) r⟩
def atS (s : Str) (i : Int) (k : Nat → Prop) : Prop := match atI s.cps.toList i with | some c => k c | none => False
theorem atS.get {s : Str} {i : Int} {k : Nat → Prop} (h : atS s i k) : ∃ c, atI s.cps.toList i = some c ∧ k c := by
  unfold atS at h
  split at h
  · exact ⟨_, by assumption, h⟩
  · exact h.elim
def oIxS : XO K T where
  r := rIxS
  w := fun x y M Φ => asS x fun s => asI y fun i => s.length ≤ 100000 ∧ atS s i fun c => Φ (.str ⟨#[c]⟩) M
  ok := fun h P H vx vy wr rx ry Q hq => by
    obtain ⟨s, rfl, h1⟩ := h.get
    obtain ⟨i, rfl, h2, h3⟩ := asI.get h1
    obtain ⟨c, e, h3⟩ := h3.get
    exact ⟨s, i, c, rx.toS, ry.toI, sz_of h2, e, hq _ _ _ _ _ h3 (Step.refl wr) (.str _)⟩
/-- in, not in, among scalars -/
def scL : List D → Option (List V)
  | [] => some []
  | d :: r => match scD d, scL r with | some v, some vs => some (v :: vs) | _, _ => none
theorem scL_rep {P : Hp} : ∀ {vs us : List V} {ds : List D}, RepL K P vs ds → scL ds = some us → vs = us
  | _, _, _, .nil, h => by cases h; rfl
  | _, us, d :: ds, .cons r t, h => by
    unfold scL at h
    cases e1 : scD d with
    | none => rw [e1] at h; cases h
    | some v =>
      cases e2 : scL ds with
      | none => rw [e1, e2] at h; cases h
      | some ws =>
        rw [e1, e2] at h; cases h
        rw [scD_rep r e1, scL_rep t e2]
theorem scD_flat {d : D} {v : V} (h : scD d = some v) : flatV v = true := by cases d <;> first | (cases h; rfl) | cases h
theorem scL_flat : ∀ {ds : List D} {vs : List V}, scL ds = some vs → vs.all flatV = true
  | [], _, h => by cases h; rfl
  | d :: ds, vs, h => by
    unfold scL at h
    cases e1 : scD d with
    | none => rw [e1] at h; cases h
    | some v =>
      cases e2 : scL ds with
      | none => rw [e1, e2] at h; cases h
      | some ws =>
        rw [e1, e2] at h; cases h
        rw [List.all_cons, scD_flat e1, scL_flat e2]; rfl
/-- the sequence read, a list or a tuple -/
def asQ (d : D) (M : Mh) (k : List D → Prop) : Prop := match d with
  | .lst ds => k ds | .lsw ds => k ds | .tup ds => k ds
  | .ref p => match M p with | some (.lst ds) => k ds | _ => False
  | _ => False
theorem asQ.rd {P : Hp} {M : Mh} {H : Hp} {v : V} {d : D} {k : List D → Prop} (h : asQ d M k) (w : Wr K T P M H) (r : Rep K P v d) : ∃ ds a vs, k ds ∧ v = .ref a ∧ (SqL K H a vs ∨ SqT K H a vs) ∧ RepL K P vs ds := by
  cases d with
  | tup ds =>
    obtain ⟨a, vs, rfl, hs, hr⟩ := r.toT
    exact ⟨ds, a, vs, h, rfl, .inr (w.st hs), hr⟩
  | lst ds => obtain ⟨ds, a, vs, q, e, hs, hr⟩ := asL.rd (k := k) (d := .lst ds) h w r; exact ⟨ds, a, vs, q, e, .inl hs, hr⟩
  | lsw ds => obtain ⟨ds, a, vs, q, e, hs, hr⟩ := asL.rd (k := k) (d := .lsw ds) h w r; exact ⟨ds, a, vs, q, e, .inl hs, hr⟩
  | ref p => obtain ⟨ds, a, vs, q, e, hs, hr⟩ := asL.rd (k := k) (d := .ref p) h w r; exact ⟨ds, a, vs, q, e, .inl hs, hr⟩
  | _ => exact h.elim
def asSs (x : D) (ds : List D) (k : V → List V → Prop) : Prop := match scD x, scL ds with | some v, some vs => k v vs | _, _ => False
def oIn (neg : Bool) : XO K T where
  r := rIn K neg
  w := fun x y M Φ => asQ y M fun ds => asSs x ds fun v vs => Φ (.bl (if neg then !inV v vs else inV v vs)) M
  ok := fun {x y M Φ} h P H vx vy wr rx ry Q hq => by
    obtain ⟨ds, a, vs, h1, rfl, hs, hr⟩ := h.rd wr ry
    unfold asSs at h1
    cases e1 : scD x with
    | none => rw [e1] at h1; exact h1.elim
    | some v =>
      cases e2 : scL ds with
      | none => rw [e1, e2] at h1; exact h1.elim
      | some ws =>
        rw [e1, e2] at h1
        rw [scD_rep rx e1]
        have e3 := scL_rep hr e2
        subst e3
        exact ⟨a, vs, rfl, hs, scD_flat e1, scL_flat e2, hq _ _ _ _ _ h1 (Step.refl wr) (.bl _)⟩
/-- tuples, lists glued -/
def oCatT : XO K T where
  r := rCatA K
  w := fun x y M Φ => asT x fun a => asT y fun b => a.length + b.length ≤ 100000 ∧ Φ (.tup (a ++ b)) M
  ok := fun h P H vx vy wr rx ry Q hq => by
    obtain ⟨ds, rfl, h1⟩ := h.get
    obtain ⟨es, rfl, h2, h3⟩ := asT.get h1
    obtain ⟨a, vs, rfl, hs, hr⟩ := rx.toT
    obtain ⟨b, us, rfl, ht, hu⟩ := ry.toT
    refine ⟨a, b, vs, us, rfl, rfl, wr.st hs, wr.st ht, by rw [hr.len, hu.len]; exact sz_of h2, fun e => ?_, fun _ e => ?_, fun _ _ p hp => ?_⟩
    · subst e
      cases hr
      exact hq _ _ _ _ _ h3 (Step.refl wr) (.tup ht hu)
    · subst e
      cases hu
      rw [List.append_nil] at h3
      exact hq _ _ _ _ _ h3 (Step.refl wr) (.tup hs hr)
    · have s := Step.newP wr (o := .tup (vs ++ us)) hp
      exact hq _ _ _ _ _ h3 s (.tup (SqT.of upd_same) (RepL.mono s.ex (hr.app hu)))
def asLt (d : D) (M : Mh) (k : List D → Prop) : Prop := match d with
  | .lst ds => k ds
  | .ref p => match M p with | some (.lst ds) => k ds | _ => False
  | _ => False
theorem asLt.rd {P : Hp} {M : Mh} {H : Hp} {v : V} {d : D} {k : List D → Prop} (h : asLt d M k) (w : Wr K T P M H) (r : Rep K P v d) : ∃ ds a vs, k ds ∧ v = .ref a ∧ H a = some (.lst vs) ∧ RepL K P vs ds := by
  cases d with
  | lst ds =>
    obtain ⟨a, vs, rfl, hs, hr⟩ := r.toL
    rcases w.pure _ _ hs with q | ⟨_, _, e, _⟩
    · exact ⟨ds, a, vs, h, rfl, q, hr⟩
    · cases e
  | ref p =>
    unfold asLt at h
    simp only at h
    split at h
    · rename_i ds hm
      obtain ⟨o, ho, rm⟩ := w.chg _ _ hm
      cases rm with
      | lst hr => exact ⟨_, p, _, h, r.toR, ho, hr⟩
    · exact h.elim
  | _ => exact h.elim
def oCatL : XO K T where
  r := rCat
  w := fun x y M Φ => asLt x M fun a => asLt y M fun b => a.length + b.length ≤ 100000 ∧ Φ (.lst (a ++ b)) M
  ok := fun h P H vx vy wr rx ry Q hq => by
    obtain ⟨ds, a, vs, h1, rfl, hs, hr⟩ := h.rd wr rx
    obtain ⟨es, b, us, h2, rfl, ht, hu⟩ := h1.rd wr ry
    refine ⟨a, b, vs, us, rfl, rfl, hs, ht, by rw [hr.len, hu.len]; exact sz_of h2.1, fun p hp => ?_⟩
    have s := Step.newP wr (o := .lst (vs ++ us)) hp
    exact hq _ _ _ _ _ h2.2 s (.lst upd_same (RepL.mono s.ex (hr.app hu)))
/-- .. into a list that will change -/
def oCatM : XO K T where
  r := rCat
  w := fun x y M Φ => asLt x M fun a => asLt y M fun b => a.length + b.length ≤ 100000 ∧ ∀ p, M p = none → Φ (.ref p) (um M p (.lst (a ++ b)))
  ok := fun h P H vx vy wr rx ry Q hq => by
    obtain ⟨ds, a, vs, h1, rfl, hs, hr⟩ := h.rd wr rx
    obtain ⟨es, b, us, h2, rfl, ht, hu⟩ := h1.rd wr ry
    refine ⟨a, b, vs, us, rfl, rfl, hs, ht, by rw [hr.len, hu.len]; exact sz_of h2.1, fun p hp => ?_⟩
    exact hq _ _ _ _ _ (h2.2 p (wr.mfree hp)) (Step.newM wr hp (.lst (hr.app hu))) (.ref p)
/-! ### builtins -/
theorem RepL.one {P : Hp} {vs : List V} {d : D} (r : RepL K P vs [d]) : ∃ v, vs = [v] ∧ Rep K P v d := by
  cases r with | cons a b => cases b; exact ⟨_, rfl, a⟩
def arg1 (ds : List D) (k : D → Prop) : Prop := match ds with | [d] => k d | _ => False
theorem arg1.get {ds : List D} {k : D → Prop} (h : arg1 ds k) : ∃ d, ds = [d] ∧ k d := by
  match ds, h with
  | [d], h => exact ⟨d, rfl, h⟩
def bLen : XB K T where
  r := fun xs H Q => ∃ p ys, xs = [.ref p] ∧ (SqL K H p ys ∨ SqT K H p ys) ∧ Q (.int ys.length) H
  w := fun ds M Φ => arg1 ds fun d => asQ d M fun es => Φ (.int es.length) M
  ok := fun h P H vs wr r Q hq => by
    obtain ⟨d, rfl, h1⟩ := h.get
    obtain ⟨v, rfl, r1⟩ := r.one
    obtain ⟨es, a, us, h2, rfl, hs, hr⟩ := h1.rd wr r1
    exact ⟨a, us, rfl, hs, by rw [hr.len]; exact hq _ _ _ _ _ h2 (Step.refl wr) (.int _)⟩
def bLenS : XB K T where
  r := fun xs H Q => ∃ z, xs = [.str z] ∧ z.length ≤ sizeLine ∧ Q (.int z.length) H
  w := fun ds M Φ => arg1 ds fun d => asS d fun z => z.length ≤ 100000 ∧ Φ (.int z.length) M
  ok := fun h P H vs wr r Q hq => by
    obtain ⟨d, rfl, h1⟩ := h.get
    obtain ⟨v, rfl, r1⟩ := r.one
    obtain ⟨z, rfl, h2, h3⟩ := h1.get
    exact ⟨z, by rw [r1.toS], sz_of h2, hq _ _ _ _ _ h3 (Step.refl wr) (.int _)⟩
def bList : XB K T where
  r := fun xs H Q => ∃ p ys, xs = [.ref p] ∧ (SqL K H p ys ∨ SqT K H p ys) ∧ ∀ l, H l = none → Q (.ref l) (upd H l (.lst ys))
  w := fun ds M Φ => arg1 ds fun d => asQ d M fun es => Φ (.lst es) M
  ok := fun h P H vs wr r Q hq => by
    obtain ⟨d, rfl, h1⟩ := h.get
    obtain ⟨v, rfl, r1⟩ := r.one
    obtain ⟨es, a, us, h2, rfl, hs, hr⟩ := h1.rd wr r1
    exact ⟨a, us, rfl, hs, fun l hl => let s := Step.newP wr (o := .lst us) hl; hq _ _ _ _ _ h2 s (.lst upd_same (RepL.mono s.ex hr))⟩
def bListM : XB K T where
  r := fun xs H Q => ∃ p ys, xs = [.ref p] ∧ (SqL K H p ys ∨ SqT K H p ys) ∧ ∀ l, H l = none → Q (.ref l) (upd H l (.lst ys))
  w := fun ds M Φ => arg1 ds fun d => asQ d M fun es => ∀ p, M p = none → Φ (.ref p) (um M p (.lst es))
  ok := fun h P H vs wr r Q hq => by
    obtain ⟨d, rfl, h1⟩ := h.get
    obtain ⟨v, rfl, r1⟩ := r.one
    obtain ⟨es, a, us, h2, rfl, hs, hr⟩ := h1.rd wr r1
    exact ⟨a, us, rfl, hs, fun l hl => hq _ _ _ _ _ (h2 l (wr.mfree hl)) (Step.newM wr hl (.lst hr)) (.ref l)⟩
/-- tuple(a list) -/
def bTupL : XB K T where
  r := fun xs H Q => ∃ p ys, xs = [.ref p] ∧ ((SqL K H p ys ∧ ∀ l, H l = none → Q (.ref l) (upd H l (.tup ys))) ∨ (SqT K H p ys ∧ Q (.ref p) H))
  w := fun ds M Φ => arg1 ds fun d => asL d M fun es => Φ (.tup es) M
  ok := fun h P H vs wr r Q hq => by
    obtain ⟨d, rfl, h1⟩ := h.get
    obtain ⟨v, rfl, r1⟩ := r.one
    obtain ⟨es, a, us, h2, rfl, hs, hr⟩ := h1.rd wr r1
    exact ⟨a, us, rfl, .inl ⟨hs, fun l hl => let s := Step.newP wr (o := .tup us) hl; hq _ _ _ _ _ h2 s (.tup (SqT.of upd_same) (RepL.mono s.ex hr))⟩⟩
def toI (d : D) (k : Int → Prop) : Prop := match d with | .int i => k i | .bl b => k (if b then 1 else 0) | _ => False
def bInt : XB K T where
  r := fun xs H Q => (∃ i, xs = [.int i] ∧ Q (.int i) H) ∨ ∃ k, xs = [.bl k] ∧ Q (.int (if k then 1 else 0)) H
  w := fun ds M Φ => arg1 ds fun d => toI d fun i => Φ (.int i) M
  ok := fun h P H vs wr r Q hq => by
    obtain ⟨d, rfl, h1⟩ := h.get
    obtain ⟨v, rfl, r1⟩ := r.one
    cases d with
    | int i => exact .inl ⟨i, by rw [r1.toI], hq _ _ _ _ _ h1 (Step.refl wr) (.int _)⟩
    | bl k => exact .inr ⟨k, by rw [r1.toB], hq _ _ _ _ _ h1 (Step.refl wr) (.int _)⟩
    | _ => exact h1.elim
/-- all are texts -/
def txts : List D → Option (List Str)
  | [] => some []
  | .str s :: r => (txts r).map (s :: ·)
  | _ :: _ => none
theorem txts_rep {P : Hp} : ∀ {vs : List V} {ds : List D} {xs : List Str}, RepL K P vs ds → txts ds = some xs → vs = xs.map V.str
  | _, _, _, .nil, h => by cases h; rfl
  | _, .str s :: ds, xs, .cons r t, h => by
    unfold txts at h
    cases e : txts ds with
    | none => rw [e] at h; cases h
    | some ys => rw [e] at h; cases h; rw [r.toS, txts_rep t e]; rfl
theorem repL_txts {P : Hp} : ∀ (xs : List Str), RepL K P (xs.map V.str) (xs.map D.str)
  | [] => .nil
  | x :: xs => .cons (.str x) (repL_txts xs)
theorem txts_map : ∀ (xs : List Str), txts (xs.map D.str) = some xs
  | [] => rfl
  | x :: xs => by show (txts (xs.map D.str)).map (x :: ·) = _; rw [txts_map xs]; rfl
def asTx (ds : List D) (k : List Str → Prop) : Prop := match txts ds with | some xs => k xs | none => False
def bSortS : XB K T where
  r := rSortedS K
  w := fun ds M Φ => arg1 ds fun d => asL d M fun es => asTx es fun xs => xs.length < 64 ∧ ∀ ys : List Str, ys.Perm xs → PyProof.Rows.sortedS ys = true → Φ (.lst (ys.map D.str)) M
  ok := fun h P H vs wr r Q hq => by
    obtain ⟨d, rfl, h1⟩ := h.get
    obtain ⟨v, rfl, r1⟩ := r.one
    obtain ⟨es, a, us, h2, rfl, hs, hr⟩ := h1.rd wr r1
    unfold asTx at h2
    cases e : txts es with
    | none => rw [e] at h2; exact h2.elim
    | some xs =>
      rw [e] at h2
      have e2 := txts_rep hr e
      subst e2
      exact ⟨a, xs, rfl, hs, h2.1, fun ys p pm so hp => let s := Step.newP wr (o := .lst (ys.map V.str)) hp; hq _ _ _ _ _ (h2.2 ys pm so) s (.lst upd_same (repL_txts ys))⟩
/-- xs.append(e) -/
def xApp (o a : XE K T) : XE K T where
  t := fun W => tBM K "list" rAppend (o.t W) (tCons (a.t W) tNil)
  w := fun ρ M Φ Ξ => o.w ρ M (fun x M1 => asR x fun p => mL M1 p fun _ => a.w ρ M1 (fun y M2 => mL M2 p fun ds => ds.length < 100000 ∧ Φ .non (um M2 p (.lst (ds ++ [y])))) Ξ) Ξ
  ok := fun h _ _ _ wr rs _ hq hx => o.ok h wr rs (fun v x P1 M1 H1 h1 s1 r1 => by
    obtain ⟨p, rfl, h2⟩ := h1.get
    obtain ⟨ds0, hm0, h3⟩ := mL.get h2
    obtain ⟨o0, ho0, rm0⟩ := s1.wr.chg _ _ hm0
    rw [r1.toR]
    cases rm0 with
    | lst hr0 =>
      refine ⟨.inl ⟨rfl, _, SqL.of ho0⟩, a.ok h3 s1.wr (rs.mono s1.ex) (fun u y P2 M2 H2 h4 s2 r2 => ?_) (hx.mono s1)⟩
      obtain ⟨ds, hm, h5, h6⟩ := mL.get h4
      obtain ⟨ob, ho, rm⟩ := s2.wr.chg _ _ hm
      cases rm with
      | lst hr => exact ⟨p, _, u, rfl, rfl, ho, by rw [hr.len]; exact sz_lt h5, hq _ _ _ _ _ h6 ((s1.trans s2).trans (Step.put s2.wr hm (.lst (hr.app (.cons r2 .nil))))) .non⟩) hx
end Ab

set_option Elab.async false
set_option linter.all false
set_option maxRecDepth 100000
set_option maxHeartbeats 2000000
namespace Ab
open PySem L2
section
variable (K : PySem.W.Frag) (T : Addr → Prop)
/-- J walks the items ds as long as St holds of what changes -/
def Goes (J : It) (ds : List D) (St : Mh → Prop) (P : Hp) (M : Mh) (H : Hp) : Prop := ∀ P2 M2 H2, Step K T P M H P2 M2 H2 → St M2 →
  (∀ i d, ds[i]? = some d → J.go i H2 ∧ ∀ x H3, J.yld i H2 x H3 → ∃ P3, Step K T P2 M2 H2 P3 M2 H3 ∧ Rep K P3 x d) ∧ J.stop ds.length H2
structure XI where
  t : WX → TI
  w : Sl → Mh → (List D → (Mh → Prop) → Mh → Prop) → XP → Prop
  ok : ∀ {W ρ M Φ Ξ}, w ρ M Φ Ξ → ∀ {P σ H}, Wr K T P M H → RepS K P σ ρ → ∀ {R : It → Hp → Prop},
    (∀ J ds St P' M' H', Φ ds St M' → Step K T P M H P' M' H' → Goes K T J ds St P' M' H' → R J H') → XH K T W P M H Ξ → t W σ H R
end
variable {K : PySem.W.Frag} {T : Addr → Prop}
def wlk (d : D) (M : Mh) (k : List D → (Mh → Prop) → Prop) : Prop := match d with
  | .lst ds => k ds (fun _ => True)
  | .lsw ds => k ds (fun _ => True)
  | .ref p => mL M p fun ds => k ds (fun M2 => M2 p = some (.lst ds))
  | _ => False
/-- over a list -/
def iL (a : XE K T) : XI K T where
  t := fun W => iList K (a.t W)
  w := fun ρ M Φ Ξ => a.w ρ M (fun d M1 => wlk d M1 fun ds St => Φ ds St M1) Ξ
  ok := fun h P σ H wr rs R hq hx => a.ok h wr rs (fun v d P1 M1 H1 h1 s1 r1 => by
    have pure_ : ∀ {b vs ds}, v = .ref b → SqL K P1 b vs → RepL K P1 vs ds → (∀ J, Goes K T J ds (fun _ => True) P1 M1 H1 → R J H1) → ∃ b, v = .ref b ∧ (∃ xs, SqL K H1 b xs) ∧ R (Itl K b) H1 := by
      intro b vs ds e hs hr hR
      refine ⟨b, e, ⟨vs, s1.wr.sl hs⟩, hR _ fun P2 M2 H2 s2 _ => ?_⟩
      have hs2 : SqL K H2 b vs := s2.wr.sl (s2.ex.sl hs)
      refine ⟨fun i d e => ?_, ⟨vs, hs2, by rw [hr.len]; exact Nat.le_refl _⟩⟩
      obtain ⟨u, e2, r2⟩ := hr.getd e
      exact ⟨⟨vs, u, hs2, e2⟩, fun x H3 y => by
        obtain ⟨e3, y⟩ := y
        subst e3
        have e4 := y vs hs2
        rw [e2] at e4
        cases e4
        exact ⟨P2, Step.refl s2.wr, r2.mono s2.ex⟩⟩
    cases d with
    | lst ds =>
      obtain ⟨b, vs, e, hs, hr⟩ := r1.toL
      exact pure_ e (SqL.of hs) hr fun J g => hq J ds _ P1 M1 H1 h1 s1 g
    | lsw ds =>
      obtain ⟨b, vs, e, hs, hr⟩ := r1.toLw
      exact pure_ e hs hr fun J g => hq J ds _ P1 M1 H1 h1 s1 g
    | ref p =>
      obtain ⟨ds, hm, h2⟩ := mL.get h1
      obtain ⟨o, ho, rm⟩ := s1.wr.chg _ _ hm
      cases rm with
      | lst hr =>
        refine ⟨p, r1.toR, ⟨_, SqL.of ho⟩, hq _ ds _ P1 M1 H1 h2 s1 fun P2 M2 H2 s2 hm2 => ?_⟩
        obtain ⟨o2, ho2, rm2⟩ := s2.wr.chg _ _ hm2
        cases rm2 with
        | lst hr2 =>
          refine ⟨fun i d e => ?_, ⟨_, SqL.of ho2, by rw [hr2.len]; exact Nat.le_refl _⟩⟩
          obtain ⟨u, e2, r2⟩ := hr2.getd e
          exact ⟨⟨_, u, SqL.of ho2, e2⟩, fun x H3 y => by
            obtain ⟨e3, y⟩ := y
            subst e3
            have e4 := y _ (SqL.of ho2)
            rw [e2] at e4
            cases e4
            exact ⟨P2, Step.refl s2.wr, r2⟩⟩
    | _ => exact h1.elim) hx
/-- over a tuple -/
def iT (a : XE K T) : XI K T where
  t := fun W => iTup K (a.t W)
  w := fun ρ M Φ Ξ => a.w ρ M (fun d M1 => asT d fun ds => Φ ds (fun _ => True) M1) Ξ
  ok := fun h P σ H wr rs R hq hx => a.ok h wr rs (fun v d P1 M1 H1 h1 s1 r1 => by
    obtain ⟨ds, rfl, h2⟩ := h1.get
    obtain ⟨b, vs, e, hs, hr⟩ := r1.toT
    refine ⟨b, e, ⟨vs, s1.wr.st hs⟩, hq _ ds _ P1 M1 H1 h2 s1 fun P2 M2 H2 s2 _ => ?_⟩
    have hs2 : SqT K H2 b vs := s2.wr.st (s2.ex.st hs)
    refine ⟨fun i d e => ?_, ⟨vs, hs2, by rw [hr.len]; exact Nat.le_refl _⟩⟩
    obtain ⟨u, e2, r2⟩ := hr.getd e
    exact ⟨⟨vs, u, hs2, e2⟩, fun x H3 y => by
      obtain ⟨e3, y⟩ := y
      subst e3
      have e4 := y vs hs2
      rw [e2] at e4
      cases e4
      exact ⟨P2, Step.refl s2.wr, r2.mono s2.ex⟩⟩) hx
def rngD (lo : Int) (n : Nat) : List D := (List.range n).map fun i => .int (lo + (i : Nat))
theorem rngD_len (lo : Int) (n : Nat) : (rngD lo n).length = n := by simp [rngD]
theorem rngD_get {lo : Int} {n i : Nat} {d : D} (h : (rngD lo n)[i]? = some d) : i < n ∧ d = .int (lo + (i : Nat)) := by
  have hl := (List.getElem?_eq_some_iff.mp h).1
  rw [rngD_len] at hl
  refine ⟨hl, ?_⟩
  unfold rngD at h
  rw [List.getElem?_map, List.getElem?_range hl] at h
  exact (Option.some.inj h).symm
theorem goes_range {lo : Int} {n : Nat} {P : Hp} {M : Mh} {H : Hp} : Goes K T (Itr lo n) (rngD lo n) (fun _ => True) P M H := by
  intro P2 M2 H2 s2 _
  refine ⟨fun i d e => ?_, by show n ≤ (rngD lo n).length; rw [rngD_len]; exact Nat.le_refl _⟩
  obtain ⟨hi, rfl⟩ := rngD_get e
  exact ⟨hi, fun x H3 y => by
    obtain ⟨e3, e4⟩ := y
    subst e3 e4
    exact ⟨P2, Step.refl s2.wr, .int _⟩⟩
def iR1 (a : XE K T) : XI K T where
  t := fun W => iRng1 (tCons (a.t W) tNil)
  w := fun ρ M Φ Ξ => a.w ρ M (fun d M1 => asI d fun j => j ≤ 100000 ∧ -100000 ≤ j ∧ Φ (rngD 0 j.toNat) (fun _ => True) M1) Ξ
  ok := fun h P σ H wr rs R hq hx => a.ok h wr rs (fun v d P1 M1 H1 h1 s1 r1 => by
    obtain ⟨j, rfl, h2, h3, h4⟩ := h1.get
    exact ⟨j, by rw [r1.toI], by omega, by omega, hq _ _ _ P1 M1 H1 h4 s1 goes_range⟩) hx
def iR2 (a b : XE K T) : XI K T where
  t := fun W => iRng2 (tCons (a.t W) (tCons (b.t W) tNil))
  w := fun ρ M Φ Ξ => a.w ρ M (fun x M1 => asI x fun i => b.w ρ M1 (fun y M2 => asI y fun j => (j ≤ 100000 ∧ -100000 ≤ j ∧ i ≤ 100000 ∧ -100000 ≤ i) ∧ Φ (rngD i (j - i).toNat) (fun _ => True) M2) Ξ) Ξ
  ok := fun h P σ H wr rs R hq hx => a.ok h wr rs (fun v d P1 M1 H1 h1 s1 r1 => by
    obtain ⟨i, rfl, h2⟩ := h1.get
    exact b.ok h2 s1.wr (rs.mono s1.ex) (fun u e P2 M2 H2 h3 s2 r2 => by
      obtain ⟨j, rfl, h4, h5⟩ := h3.get
      exact ⟨i, j, by rw [r1.toI, r2.toI], ⟨by omega, by omega, by omega, by omega⟩, hq _ _ _ P2 M2 H2 h5 (s1.trans s2) goes_range⟩) (hx.mono s1)) hx

/-- for -/
def sFor (it : XI K T) (g : XG K T) (b : XS K T) : XS K T where
  t := fun W => tFor (it.t W) (g.t W) (b.t W)
  w := fun ρ M ε Ξ => it.w ρ M (fun ds St M1 => ∃ I : Nat → Sl → Mh → Prop, I 0 ρ M1 ∧ (∀ i ρ' M', I i ρ' M' → St M') ∧
    (∀ i d ρ' M', ds[i]? = some d → I i ρ' M' → g.w d ρ' M' (fun ρ2 M2 => b.w ρ2 M2 ⟨I (i + 1), ε.rt, ε.nx, I (i + 1)⟩ Ξ) Ξ) ∧ (∀ ρ' M', I ds.length ρ' M' → ε.nx ρ' M')) Ξ
  ok := fun {W ρ M ε Ξ} h P σ H wr rs Dn hd hx => it.ok h wr rs (fun J ds St P1 M1 H1 h1 s1 hg => by
    obtain ⟨I, h0, hst, hs, he⟩ := h1
    refine ⟨fun i m σ' H' => m = ds.length - i ∧ i ≤ ds.length ∧ ∃ ρ' P' M', I i ρ' M' ∧ Step K T P1 M1 H1 P' M' H' ∧ RepS K P' σ' ρ', ⟨ds.length, by simp, Nat.zero_le _, ρ, P1, M1, h0, Step.refl s1.wr, rs.mono s1.ex⟩, ?_⟩
    rintro i m σ' H' ⟨rfl, hi, ρ', P', M', hI, st, rs'⟩
    obtain ⟨g1, g2⟩ := hg P' M' H' st (hst i ρ' M' hI)
    by_cases hlt : i < ds.length
    · have e : ds[i]? = some ds[i] := by simp [hlt]
      obtain ⟨k1, k2⟩ := g1 i _ e
      refine .inr ⟨k1, fun σ2 H2 => ∃ ρ2 P2 M2, I (i + 1) ρ2 M2 ∧ Step K T P1 M1 H1 P2 M2 H2 ∧ RepS K P2 σ2 ρ2, fun σ2 H2 q => ⟨ds.length - (i + 1), by omega, rfl, hlt, q⟩, fun x H3 y => ?_⟩
      obtain ⟨P3, s3, r3⟩ := k2 x H3 y
      have s13 := (s1.trans st).trans s3
      refine g.ok (hs i _ ρ' M' e hI) s3.wr (rs'.mono s3.ex) r3 (fun ρ4 σ4 P4 M4 H4 h4 s4 rs4 => ?_) (hx.mono s13)
      refine b.ok h4 s4.wr rs4 ⟨fun ρ5 σ5 P5 M5 H5 h5 s5 rs5 => ⟨ρ5, P5, M5, h5, ((st.trans s3).trans s4).trans s5, rs5⟩, fun v d P5 M5 H5 h5 s5 r5 => hd.rt v d P5 M5 H5 h5 ((s13.trans s4).trans s5) r5,
        fun ρ5 σ5 P5 M5 H5 h5 s5 rs5 => hd.nx ρ5 σ5 P5 M5 H5 h5 ((s13.trans s4).trans s5) rs5, fun ρ5 σ5 P5 M5 H5 h5 s5 rs5 => ⟨ρ5, P5, M5, h5, ((st.trans s3).trans s4).trans s5, rs5⟩⟩ (hx.mono (s13.trans s4))
    · have e : i = ds.length := by omega
      subst e
      exact .inl ⟨g2, hd.nx _ _ _ _ _ (he ρ' M' hI) (s1.trans st) rs'⟩) hx

/-! ### comprehensions -/
theorem wipe_eq {σ σ2 : L2.St} : ∀ {vs : List Nat}, σ2.length = σ.length → (∀ k, k ∉ vs → σ2[k]? = σ[k]?) → wipe σ2 vs = wipe σ vs := by
  intro vs hl h
  have key : ∀ (vs : List Nat) (τ : L2.St) (k : Nat), (wipe τ vs)[k]? = if k ∈ vs then (if k < τ.length then some none else none) else τ[k]? := by
    intro vs
    induction vs with
    | nil => intro τ k; simp [wipe]
    | cons v vs ih =>
      intro τ k
      unfold wipe
      by_cases e : v = k
      · subst e
        rw [if_pos (by simp)]
        by_cases hk : v < τ.length
        · rw [List.getElem?_set_self (by rw [wipe_length]; exact hk), if_pos hk]
        · rw [List.getElem?_eq_none (by rw [List.length_set, wipe_length]; omega), if_neg hk]
      · rw [List.getElem?_set_ne e, ih]
        by_cases m : k ∈ vs
        · rw [if_pos m, if_pos (List.mem_cons_of_mem _ m)]
        · rw [if_neg m, if_neg (by simp only [List.mem_cons, not_or]; exact ⟨fun z => e z.symm, m⟩)]
  apply List.ext_getElem?
  intro k
  rw [key, key]
  by_cases m : k ∈ vs
  · rw [if_pos m, if_pos m, hl]
  · rw [if_neg m, if_neg m, h k m]
def wipeD (ρ : Sl) : List Nat → Sl
  | [] => ρ
  | v :: vs => (wipeD ρ vs).set v none
theorem RepS.wipe {P : Hp} {σ : L2.St} {ρ : Sl} (h : RepS K P σ ρ) : ∀ vs, RepS K P (wipe σ vs) (wipeD ρ vs)
  | [] => h
  | v :: vs => (h.wipe vs).setn v
/-- a comprehension's target: one name, or names in a row -/
inductive CG where | one (i : Nat) | many (is : List Nat)
def CG.slots : CG → List Nat | .one i => [i] | .many is => is
def CG.ts : List Nat → TGs
  | [] => gNil
  | i :: is => gCons (gName i) (CG.ts is)
def CG.t (K : PySem.W.Frag) : CG → TG
  | .one i => gName i
  | .many is => gTup K is.length (CG.ts is)
def putN : List Nat → List D → Sl → Sl
  | i :: is, d :: ds, ρ => putN is ds (ρ.set i (some d))
  | _, _, ρ => ρ
def CG.w (g : CG) (d : D) (ρ : Sl) (k : Sl → Prop) : Prop := match g with
  | .one i => k (ρ.set i (some d))
  | .many is => asT d fun ds => ds.length = is.length ∧ k (putN is ds ρ)
theorem CG.ts_ok {P : Hp} {H : Hp} {Q : L2.St → Hp → Prop} : ∀ (is : List Nat) {vs : List V} {ds : List D} {σ : L2.St} {ρ : Sl}, RepL K P vs ds → ds.length = is.length → RepS K P σ ρ →
    (∀ σ', RepS K P σ' (putN is ds ρ) → σ'.length = σ.length → (∀ k, k ∉ is → σ'[k]? = σ[k]?) → Q σ' H) → CG.ts is vs σ H Q
  | [], _, _, σ, ρ, .nil, _, rs, hq => ⟨rfl, hq σ rs rfl fun _ _ => rfl⟩
  | i :: is, _, _, σ, ρ, .cons r t, hl, rs, hq => ⟨_, _, rfl, CG.ts_ok is t (Nat.succ.inj hl) (rs.set r i) fun σ' rs' l' h' => hq σ' rs' (by rw [l', List.length_set]) fun k hk => by
      rw [h' k (fun z => hk (List.mem_cons_of_mem _ z)), List.getElem?_set_ne (fun z => hk (by rw [z]; exact List.mem_cons_self))]⟩
  | [], _, _, _, _, .cons _ _, hl, _, _ => by cases hl
  | _ :: _, _, _, _, _, .nil, hl, _, _ => by cases hl
theorem CG.ok {g : CG} {d : D} {ρ : Sl} {k : Sl → Prop} (h : g.w d ρ k) {P : Hp} {M : Mh} {H : Hp} {v : V} {σ : L2.St} (wr : Wr K T P M H) (rs : RepS K P σ ρ) (r : Rep K P v d) {Q : L2.St → Hp → Prop}
    (hq : ∀ σ' ρ', k ρ' → RepS K P σ' ρ' → σ'.length = σ.length → (∀ j, j ∉ g.slots → σ'[j]? = σ[j]?) → Q σ' H) : g.t K v σ H Q := by
  cases g with
  | one i => exact hq _ _ h (rs.set r i) (by rw [List.length_set]) fun j hj => List.getElem?_set_ne (fun z => hj (by rw [z]; exact List.mem_cons_self))
  | many is =>
    obtain ⟨ds, rfl, hl, h2⟩ := asT.get h
    obtain ⟨a, vs, rfl, hs, hr⟩ := r.toT
    exact ⟨a, vs, rfl, wr.st hs, by rw [hr.len]; exact hl, CG.ts_ok is hr hl rs fun σ' rs' l' h' => hq σ' _ h2 rs' l' h'⟩
def WX0 : WX := fun _ _ _ _ => False
def qYes : XT K T := ⟨fun _ => tYes, fun _ M Φ _ => Φ true M, fun h _ _ _ wr _ _ hq _ => hq _ _ _ _ h (Step.refl wr)⟩
/-- what the elements' making promises: acc so far -/
def lcW (it : XI K T) (g : CG) (q : XT K T) (e : XE K T) (ρ : Sl) (M : Mh) (F : List D → Mh → Prop) (Ξ : XP) : Prop :=
  it.w ρ M (fun ds St M1 => ds.length ≤ 100000 ∧ ∃ I : Nat → List D → Mh → Prop, I 0 [] M1 ∧ (∀ i acc M', I i acc M' → St M') ∧
    (∀ i d acc M', ds[i]? = some d → I i acc M' → g.w d (wipeD ρ g.slots) fun ρ2 => q.w ρ2 M' (fun b M2 => if b = true then e.w ρ2 M2 (fun y M3 => I (i + 1) (acc ++ [y]) M3) (fun _ _ _ _ => False) else I (i + 1) acc M2) (fun _ _ _ _ => False)) ∧
    (∀ acc M', I ds.length acc M' → F acc M')) Ξ
theorem lc_ok {it : XI K T} {g : CG} {q : XT K T} {e : XE K T} {ρ : Sl} {M : Mh} {F : List D → Mh → Prop} {Ξ : XP} {W : WX} (h : lcW it g q e ρ M F Ξ) {P : Hp} {σ : L2.St} {H : Hp} (wr : Wr K T P M H) (rs : RepS K P σ ρ) {Q : VK}
    (hq : ∀ p acc vs P' M' H', F acc M' → Step K T P M H P' M' H' → H p = none → H' p = some (.lst vs) → RepL K P' vs acc → P' p = none → M' p = none → ¬ T p → Q (.ref p) H') (hx : XH K T W P M H Ξ) :
    tLc (it.t W) (g.t K) (q.t WX0) (e.t WX0) g.slots σ H Q := by
  refine it.ok h wr rs (fun J ds St P1 M1 H1 h1 s1 hg => ?_) hx
  obtain ⟨hlen, I, h0, hst, hs, he⟩ := h1
  intro p hp
  have pf1 := s1.wr.pfree hp
  have mf1 := s1.wr.mfree hp
  have nt := s1.wr.tne hp
  have hH : H p = none := s1.back hp
  have S0 : Step K T P1 M1 H1 P1 M1 (upd H1 p (.lst [])) := (Step.refl s1.wr).side hp pf1 mf1 nt
  refine ⟨fun i m H' => m = ds.length - i ∧ i ≤ ds.length ∧ ∃ acc vs P' M', I i acc M' ∧ acc.length ≤ i ∧ Step K T P1 M1 H1 P' M' H' ∧ H' p = some (.lst vs) ∧ RepL K P' vs acc ∧ P' p = none ∧ M' p = none,
    ⟨ds.length, by simp, Nat.zero_le _, [], [], P1, M1, h0, Nat.zero_le _, S0, upd_same, .nil, pf1, mf1⟩, ?_⟩
  rintro i m H' ⟨rfl, hi, acc, vs, P', M', hI, hal, st, hp', hr, pp, mp⟩
  obtain ⟨g1, g2⟩ := hg P' M' H' st (hst i acc M' hI)
  by_cases hlt : i < ds.length
  · have ee : ds[i]? = some ds[i] := by simp [hlt]
    obtain ⟨k1, k2⟩ := g1 i _ ee
    refine .inr ⟨k1, fun H2 => ∃ acc vs P' M', I (i + 1) acc M' ∧ acc.length ≤ i + 1 ∧ Step K T P1 M1 H1 P' M' H2 ∧ H2 p = some (.lst vs) ∧ RepL K P' vs acc ∧ P' p = none ∧ M' p = none, fun H2 q => ⟨ds.length - (i + 1), by omega, rfl, hlt, q⟩, fun x H3 y => ?_⟩
    obtain ⟨P3, s3, r3⟩ := k2 x H3 y
    obtain ⟨hp3, pp3, mp3⟩ := s3.fr p _ hp' pp mp nt
    have st3 := st.trans s3
    have rs3 : RepS K P3 (wipe σ g.slots) (wipeD ρ g.slots) := (rs.mono (s1.trans st3).ex).wipe _
    refine CG.ok (hs i _ acc M' ee hI) s3.wr rs3 r3 fun σ4 ρ4 h4 rs4 hl4 hk4 => ⟨?_, ?_⟩
    · have q1 : L2.wipe σ4 g.slots = L2.wipe (L2.wipe σ g.slots) g.slots := wipe_eq hl4 hk4
      have q2 : L2.wipe (L2.wipe σ g.slots) g.slots = L2.wipe σ g.slots := wipe_eq (wipe_length σ g.slots) fun k hk => wipe_out hk
      rw [q1, q2]
    · refine q.ok h4 s3.wr rs4 (fun b P5 M5 H5 h5 s5 => ?_) (fun _ _ _ _ _ _ _ z _ _ => z.elim)
      obtain ⟨hp5, pp5, mp5⟩ := s5.fr p _ hp3 pp3 mp3 nt
      cases b with
      | true =>
        refine e.ok h5 s5.wr (rs4.mono s5.ex) (fun v d P6 M6 H6 h6 s6 r6 => ?_) (fun _ _ _ _ _ _ _ z _ _ => z.elim)
        obtain ⟨hp6, pp6, mp6⟩ := s6.fr p _ hp5 pp5 mp5 nt
        have st6 := (st3.trans s5).trans s6
        refine ⟨vs, hp6, ?_, acc ++ [d], vs ++ [v], P6, M6, h6, ?_, st6.side hp pp6 mp6 nt, upd_same, (RepL.mono ((s3.trans s5).trans s6).ex hr).app (.cons r6 .nil), pp6, mp6⟩
        · rw [hr.len]; exact sz_lt (by omega)
        · rw [List.length_append]; show acc.length + 1 ≤ i + 1; omega
      | false => exact ⟨acc, vs, P5, M5, h5, by omega, st3.trans s5, hp5, RepL.mono (s3.trans s5).ex hr, pp5, mp5⟩
  · have ee : i = ds.length := by omega
    subst ee
    exact .inl ⟨g2, hq p acc vs P' M' H' (he acc M' hI) (s1.trans st) hH hp' hr pp mp nt⟩
/-- a new list, as data -/
def xLc (it : XI K T) (g : CG) (q : XT K T) (e : XE K T) : XE K T where
  t := fun W => tLc (it.t W) (g.t K) (q.t WX0) (e.t WX0) g.slots
  w := fun ρ M Φ Ξ => lcW it g q e ρ M (fun acc M' => Φ (.lst acc) M') Ξ
  ok := fun h P σ H wr rs Q hq hx => lc_ok h wr rs (fun p acc vs P' M' H' h1 st hp hp' hr pp mp nt =>
    let s := st.adoptP hp pp mp nt hp'
    hq _ _ _ _ _ h1 s (.lst upd_same (RepL.mono (Ex.put pp) hr))) hx
/-- .. that will change -/
def xLcM (it : XI K T) (g : CG) (q : XT K T) (e : XE K T) : XE K T where
  t := fun W => tLc (it.t W) (g.t K) (q.t WX0) (e.t WX0) g.slots
  w := fun ρ M Φ Ξ => lcW it g q e ρ M (fun acc M' => ∀ p, M' p = none → Φ (.ref p) (um M' p (.lst acc))) Ξ
  ok := fun h P σ H wr rs Q hq hx => lc_ok h wr rs (fun p acc vs P' M' H' h1 st hp hp' hr pp mp nt =>
    hq _ _ _ _ _ (h1 p mp) (st.adoptM hp pp mp nt hp' (.lst hr)) (.ref p)) hx

/-! ### a def -/
def st0 (n : Nat) (ds : List D) : Sl := ds.map some ++ List.replicate (n - ds.length) none
theorem RepL.start {P : Hp} {N : List Str} : ∀ {vs : List V} {ds : List D}, RepL K P vs ds → RepS K P (L2.start N vs) (st0 N.length ds) := by
  intro vs ds r
  refine ⟨by simp [L2.start, st0, r.len], fun i d e => ?_⟩
  unfold st0 at e
  unfold L2.start
  by_cases h : i < ds.length
  · rw [List.getElem?_append_left (by simpa using h), List.getElem?_map] at e
    cases e2 : ds[i]? with
    | none => rw [e2] at e; cases e
    | some d2 =>
      rw [e2] at e
      cases e
      obtain ⟨v, e3, r3⟩ := r.getd e2
      exact ⟨v, by rw [List.getElem?_append_left (by simpa [r.len] using h), List.getElem?_map, e3]; rfl, r3⟩
  · rw [List.getElem?_append_right (by simpa using Nat.le_of_not_lt h)] at e
    rw [List.getElem?_replicate] at e
    split at e
    · cases e
    · cases e
/-- no more: what a ghost step may do to the state -/
def sFrz (i : Nat) (b : XS K T) : XS K T where
  t := b.t
  w := fun ρ M ε Ξ => look ρ i fun d => asR d fun p => mL M p fun ds => b.w (ρ.set i (some (.lst ds))) (em M p) ε Ξ
  ok := fun {W ρ M ε Ξ} h P σ H wr rs Dn hd hx => by
    obtain ⟨d, e, h1⟩ := h.get
    obtain ⟨p, rfl, h2⟩ := h1.get
    obtain ⟨ds, hm, h3⟩ := mL.get h2
    obtain ⟨o, ho, rm, st⟩ := Step.freeze wr hm
    obtain ⟨v, e2, r⟩ := rs.2 i _ e
    cases rm with
    | @lst vs _ hr =>
      refine b.ok h3 st.wr ?_ (hd.mono st) (hx.mono st)
      refine ⟨by rw [List.length_set]; exact rs.1, fun j d q => ?_⟩
      by_cases hij : i = j
      · subst hij
        have hl : i < ρ.length := (List.getElem?_eq_some_iff.mp e).1
        rw [List.getElem?_set_self hl] at q
        cases q
        rw [r.toR] at e2
        exact ⟨_, e2, .lst upd_same (RepL.mono st.ex hr)⟩
      · rw [List.getElem?_set_ne hij] at q
        obtain ⟨v', e3, r3⟩ := rs.2 j d q
        exact ⟨v', e3, r3.mono st.ex⟩
end Ab

set_option Elab.async false
set_option linter.all false
set_option maxRecDepth 100000
set_option maxHeartbeats 2000000
namespace Ab
open PySem PySem.Spec PyProof.Rows L2
/-! ### a def by its name -/
structure Cl (P : Program) (w : World) (K : PySem.W.Frag) (mg : Str → Option Value) (base : Heap) (T : Addr → Prop) (k : Nat) (x : Str) (sp : Pm) : Prop where
  ex : ∃ (f : Addr) (fd : FuncData) (ps : List Str), FnOk P w K mg base (L2.CX P w) k f fd ps (spOf K T sp) ∧ mg x = some (.ref f) ∧ PySem.W.keepIn K (.ref f) = true ∧ Binds K fd ps []
theorem Cl.mono {P : Program} {w : World} {K : PySem.W.Frag} {mg : Str → Option Value} {base : Heap} {T : Addr → Prop} {j k : Nat} {x : Str} {sp : Pm} (c : Cl P w K mg base T j x sp) (h : j ≤ k) : Cl P w K mg base T k x sp :=
  let ⟨f, fd, ps, F, a, b, d⟩ := c.ex
  ⟨f, fd, ps, F.mono h, a, b, d⟩
/-- a def that stands behind the top -/
structure Df (K : PySem.W.Frag) (mg : Str → Option Value) (x : Str) (st : Stmt) : Prop where
  ex : ∃ (f : Addr) (fd : FuncData), Fun K x x st f fd ∧ mg x = some (.ref f) ∧ fd.defaults = .none
section
variable {P : Program} {w : World} {K : PySem.W.Frag} {mg : Str → Option Value} {base : Heap} {T : Addr → Prop}
/-- a def that raises nothing keeps its promise -/
theorem fn0 {x : Str} {st : Stmt} {f : Addr} {fd : FuncData} {N ps : List Str} {k : Nat} {sp : Pm} (F : Fun K x x st f fd) (S : FnScope N ps (defScope st)) (b : XS K T) (hlen : ∀ ds M Φ Ξ, sp ds M Φ Ξ → ds.length = ps.length)
    (hd : ∀ (f : Addr) (cdv : Value) (A : Around) (outer : List Env) (s : Shared) (H : Hp) (E : XK), Room k (A.deeper (envOfC x (defScope st) s.heap.objs.size f cdv)) →
      PSs (cxOf (L2.CX P w) P w K mg base N x (defScope st) f cdv A outer s H E).nox (defBody st) (b.t WX0))
    (hw : ∀ ds M Φ Ξ, sp ds M Φ Ξ → b.w (st0 N.length ds) M ⟨fun _ M' => Φ .non M', Φ, fun _ _ => False, fun _ _ => False⟩ (fun _ _ _ _ => False)) : FnOk P w K mg base (L2.CX P w) (k + 1) f fd ps (spOf K T sp) := by
  refine F.okX S (fun vs H Q E h => ?_) (fun cdv A outer s H vs Q E hr h => ?_)
  · obtain ⟨P0, M, ds, Φ, Ξ, wr, r, hs, _⟩ := h
    rw [r.len]; exact hlen _ _ _ _ hs
  · obtain ⟨P0, M, ds, Φ, Ξ, wr, r, hs, hq, _⟩ := h
    refine ⟨_, (hd f cdv A outer s H E hr).nox, ?_⟩
    exact b.ok (hw ds M Φ Ξ hs) wr r.start ⟨fun ρ' σ' P' M' H' h1 s1 r1 => hq _ _ _ _ _ h1 s1 .non, fun v d P' M' H' h1 s1 r1 => hq _ _ _ _ _ h1 s1 r1, fun _ _ _ _ _ z _ _ => z.elim, fun _ _ _ _ _ z _ _ => z.elim⟩ (fun _ _ _ _ _ _ _ z _ _ => z.elim)
theorem cl0 {x : Str} {st : Stmt} {N ps : List Str} {k : Nat} {sp : Pm} (F : Df K mg x st) (S : FnScope N ps (defScope st)) (b : XS K T) (hlen : ∀ ds M Φ Ξ, sp ds M Φ Ξ → ds.length = ps.length)
    (hb : ∀ (kV doc pm : Value) (an : Option Addr) (cdv ct : Value) (us : List Value), us.length = ps.length → bindArgs (PySem.W.fnOf x x (defArgs st) (defBody st) (defScope st) .none kV doc pm an cdv ct) ⟨us, []⟩ = pure (ps.zip us))
    (hd : ∀ (f : Addr) (cdv : Value) (A : Around) (outer : List Env) (s : Shared) (H : Hp) (E : XK), Room k (A.deeper (envOfC x (defScope st) s.heap.objs.size f cdv)) →
      PSs (cxOf (L2.CX P w) P w K mg base N x (defScope st) f cdv A outer s H E).nox (defBody st) (b.t WX0))
    (hw : ∀ ds M Φ Ξ, sp ds M Φ Ξ → b.w (st0 N.length ds) M ⟨fun _ M' => Φ .non M', Φ, fun _ _ => False, fun _ _ => False⟩ (fun _ _ _ _ => False)) : Cl P w K mg base T (k + 1) x sp := by
  obtain ⟨f, fd, F, hm, hdf⟩ := F.ex
  exact ⟨f, fd, ps, fn0 F S b hlen hd hw, hm, F.kp, F.binds hb⟩
theorem df_mk {h : Heap} (X : K.In h) (G : h.Ns mainGlobals mg) {x : Str} {st : Stmt} {f : Addr} {oc : Value} {od an : Option Addr} {osl : Array (Option Value)} {kV doc pm cdv ct : Value} (a : PySem.W.nsIn K mainGlobals x = some (some (.ref f)))
    (l : K.lookup f = some ⟨oc, od, .func (PySem.W.fnOf x x (defArgs st) (defBody st) (defScope st) .none kV doc pm an cdv ct), osl⟩) (c : PySem.W.codeIn K cdv x = true) (k : PySem.W.keepIn K (.ref f) = true) : Df K mg x st :=
  ⟨f, _, fun_mk l c k, PySem.W.mg_of X G a, rfl⟩
end
/-! ### what stands in the text -/
section
variable {X : Cx} {W : WX} {T : Addr → Prop} {pos : Pos}
abbrev B1 (X : Cx) := X.K
theorem dVar (i : Nat) {x : Str} (hN : X.N[i]? = some x := by rfl) (hv : Vis X.env.scope x := by first | exact Or.inl rfl | exact Or.inr (Or.inl rfl) | exact Or.inr (Or.inr rfl)) (hd : (x == ("__debug__" : Str)) = false := by decide)
    (hcd : (x == ("__classdict__" : Str)) = false := by decide) : PE X (.Name x pos) ((xVar (K := X.K) (T := T) i).t W) := pe_var hN hv hd hcd
theorem dInt {i j} : PE X (.Constant (.int i) j pos) ((xInt (K := X.K) (T := T) i).t W) := pe_int
theorem dStr {i j} : PE X (.Constant (.str i) j pos) ((xStr (K := X.K) (T := T) i).t W) := pe_str
theorem dBl {i j} : PE X (.Constant (.bool i) j pos) ((xBl (K := X.K) (T := T) i).t W) := pe_bl
theorem dNon {j} : PE X (.Constant .none j pos) ((xNon (K := X.K) (T := T)).t W) := pe_non
/-- a module's int -/
theorem dGlI {i : Int} {x : Str} (hm : ∃ u, X.mg x = some u ∧ RelV (.int i) u) (hg : Gl X x := by rfl) (hd : (x == ("__debug__" : Str)) = false := by decide) : PE X (.Name x pos) ((xInt (K := X.K) (T := T) i).t W) := let ⟨_, hm, r⟩ := hm; pe_glob hg hm r hd
variable {a b c : XE X.K T} {o o' : XO X.K T} {ea eb ec : Expr} {es : List Expr} {as : XA X.K T} {q q' : XT X.K T}
theorem dOp {op : Operator} (ho : OpR X (binaryOp op) o.r) (ha : PE X ea (a.t W)) (hb : PE X eb (b.t W)) : PE X (.BinOp ea op eb pos) ((xOp o a b).t W) := pe_op ho ha hb
theorem dIx (hr : IxR X o.r) (ha : PE X ea (a.t W)) (hb : PE X eb (b.t W)) (hs : PlainIx eb := by intro _ _; rfl) : PE X (.Subscript ea eb pos) ((xOp o a b).t W) := pe_ix hr ha hb hs
theorem dCmp {op : CmpOp} (ho : OpR X (compareOp op) o.r) (ha : PE X ea (a.t W)) (hb : PE X eb (b.t W)) (hm : behindInMarks op eb = false := by first | exact nobehind _ (by decide) (by decide) | with_unfolding_all rfl) : PE X (.Compare ea [op] [eb] pos) ((xOp o a b).t W) := pe_cmpR ho ha hb hm
theorem dCh {op op' : CmpOp} (ho : OpR X (compareOp op) o.r) (ho' : OpR X (compareOp op') o'.r) (ha : PE X ea (a.t W)) (hb : PE X eb (b.t W)) (hc : PE X ec (c.t W)) (hm : lastMarks [op, op'] [eb, ec] = false := by with_unfolding_all rfl) :
    PE X (.Compare ea [op, op'] [eb, ec] pos) ((xCh o o' a b c).t W) := pe_chain ho ho' ha hb hc hm
theorem dIsN {j pos'} (ha : PE X ea (a.t W)) : PE X (.Compare ea [.Is] [.Constant .none j pos'] pos) ((xIsN a).t W) := pe_cmp (pc_isN ha)
theorem dNotN {j pos'} (ha : PE X ea (a.t W)) : PE X (.Compare ea [.IsNot] [.Constant .none j pos'] pos) ((xNotN a).t W) := pe_cmp (pc_notN ha)
theorem dAnd {rest} (ha : PE X ea (a.t W)) (hb : PE X (.BoolOp .And (eb :: rest) pos) (b.t W)) : PE X (.BoolOp .And (ea :: eb :: rest) pos) ((xAnd a b).t W) := pe_and ha hb
theorem dOr {rest} (ha : PE X ea (a.t W)) (hb : PE X (.BoolOp .Or (eb :: rest) pos) (b.t W)) : PE X (.BoolOp .Or (ea :: eb :: rest) pos) ((xOr a b).t W) := pe_or ha hb
theorem dNot (ha : PE X ea (a.t W)) : PE X (.UnaryOp .Not ea pos) ((xNot a).t W) := pe_not ha
theorem dIf (hq : PT X ec (q.t W)) (ha : PE X ea (a.t W)) (hb : PE X eb (b.t W)) : PE X (.IfExp ec ea eb pos) ((xIf q a b).t W) := pe_ifExp hq ha hb
theorem dTup {x1} (h : PA X es (as.t W)) : PE X (.Tuple es x1 pos) ((xTup as).t W) := pe_tup h
theorem dLst (h : PA X es (as.t W)) : PE X (.List es pos) ((xLst as).t W) := pe_lst h
theorem dLstM (h : PA X es (as.t W)) : PE X (.List es pos) ((xLstM as).t W) := pe_lst h
theorem dNil : PA X [] ((aNil (K := X.K) (T := T)).t W) := pa_nil
theorem dCons (ha : PE X ea (a.t W)) (h : PA X es (as.t W)) (hs : starEach (ea :: es) X.env = (false, eval ea X.env) :: starEach es X.env := by rfl) : PA X (ea :: es) ((aCons a as).t W) := pa_cons ha h hs
/-- a builtin -/
theorem dB {bb : XB X.K T} {x : Str} {id : String} {p : Pos} (hr : CallR X (.builtin id) bb.r) (hm : X.mg x = none) (ha : PA X (ea :: es) (as.t W)) (hv : bootBuiltins x = some (.builtin id)) (hg : Gl X x := by rfl) (hn : x ≠ "__name__" := by decide) (hd : (x == ("__debug__" : Str)) = false := by decide)
    (he : starEach (ea :: es) X.env = (false, eval ea X.env) :: starEach es X.env := by rfl) (hpl : (backTo pos (starEach es X.env)).any (·.1) = false := by rfl) : PE X (.Call (.Name x p) (ea :: es) [] pos) ((xB bb as).t W) := pe_callB hr hg hm hv ha hn hd he hpl
theorem dTy {bb : XB X.K T} {x : Str} {id : String} {p : Pos} (hr : CallR X (.type id) bb.r) (hm : X.mg x = none) (ha : PA X (ea :: es) (as.t W)) (hv : bootBuiltins x = some (.type id)) (hg : Gl X x := by rfl) (hn : x ≠ "__name__" := by decide) (hd : (x == ("__debug__" : Str)) = false := by decide)
    (he : starEach (ea :: es) X.env = (false, eval ea X.env) :: starEach es X.env := by rfl) (hpl : (backTo pos (starEach es X.env)).any (·.1) = false := by rfl) : PE X (.Call (.Name x p) (ea :: es) [] pos) ((xB bb as).t W) := pe_callTy hr hg hm hv ha hn hd he hpl
theorem dCall {k j : Nat} {x : Str} {sp : Pm} {p : Pos} (c : Cl X.prog X.w X.K X.mg X.base T k x sp) (hr : Room j X.A) (hk : k ≤ j) (tk : Takes X W) (ha : PA X (ea :: es) (as.t W)) (hg : Gl X x := by rfl) (hdb : (x == ("__debug__" : Str)) = false := by decide)
    (he : starEach (ea :: es) X.env = (false, eval ea X.env) :: starEach es X.env := by rfl) (hpl : (backTo pos (starEach es X.env)).any (·.1) = false := by rfl) : PE X (.Call (.Name x p) (ea :: es) [] pos) ((xCall sp as).t W) := by
  obtain ⟨f, fd, ps, F, hm, kp, b⟩ := c.ex
  exact pe_callS F (hr.mono hk) hg hm kp b (fun σ => passAt tk σ) ha hdb he hpl
theorem dqT {op : CmpOp} (ho : OpR X (compareOp op) o.r) (ha : PE X ea (a.t W)) (hb : PE X eb (b.t W)) (hm : behindInMarks op eb = false := by first | exact nobehind _ (by decide) (by decide) | with_unfolding_all rfl) : PT X (.Compare ea [op] [eb] pos) ((qT (xOp o a b)).t W) := pt_cmpR ho ha hb hm
theorem dqCh {op op' : CmpOp} (ho : OpR X (compareOp op) o.r) (ho' : OpR X (compareOp op') o'.r) (ha : PE X ea (a.t W)) (hb : PE X eb (b.t W)) (hc : PE X ec (c.t W)) (hm : lastMarks [op, op'] [eb, ec] = false := by with_unfolding_all rfl) :
    PT X (.Compare ea [op, op'] [eb, ec] pos) ((qT (xCh o o' a b c)).t W) := pt_chain ho ho' ha hb hc hm
theorem dqIsN {j pos'} (ha : PE X ea (a.t W)) : PT X (.Compare ea [.Is] [.Constant .none j pos'] pos) ((qB (xIsN a)).t W) := pt_cmp (pc_isN ha)
theorem dqNotN {j pos'} (ha : PE X ea (a.t W)) : PT X (.Compare ea [.IsNot] [.Constant .none j pos'] pos) ((qB (xNotN a)).t W) := pt_cmp (pc_notN ha)
theorem dqB (ha : PE X ea (a.t W)) (he : ∀ whole, isTrue ea X.env whole = (do let v ← whole; standAt ea.pos; holding [v] (truthy v)) := by intro _; rfl) : PT X ea ((qB a).t W) := pt_val ha he
theorem dwAnd {rest} (ha : PT X ea (q.t W)) (hb : PW X (.BoolOp .And (eb :: rest) pos) (q'.t W)) : PW X (.BoolOp .And (ea :: eb :: rest) pos) ((qAnd q q').t W) := pw_and ha hb
theorem dwOr {rest} (ha : PT X ea (q.t W)) (hb : PW X (.BoolOp .Or (eb :: rest) pos) (q'.t W)) : PW X (.BoolOp .Or (ea :: eb :: rest) pos) ((qOr q q').t W) := pw_or ha hb
theorem dqNot (ha : PT X ea (q.t W)) : PT X (.UnaryOp .Not ea pos) ((qNot q).t W) := pt_not ha
/-! statements -/
variable {s1 s2 : XS X.K T} {st : Stmt} {rest : List Stmt} {g : XG X.K T} {gs : XGs X.K T}
theorem dsNil : PSs X [] ((sNx (K := X.K) (T := T)).t W) := pss_nil
theorem dsCons (h1 : PS X st (s1.t W)) (h2 : PSs X rest (s2.t W)) : PSs X (st :: rest) ((sSeq s1 s2).t W) := (pss_cons h1 h2 : PSs X (st :: rest) (tSeq (s1.t W) (s2.t W)))
theorem dsOne (h1 : PS X st (s1.t W)) : PSs X [st] (s1.t W) := pss_one h1
theorem dRet (ha : PE X ea (a.t W)) : PS X (.Return (some ea) pos) ((sRet a).t W) := ps_ret ha
theorem dRetN : PS X (.Return none pos) ((sRn (K := X.K) (T := T)).t W) := ps_retN
theorem dEx (ha : PE X ea (a.t W)) (hs : swapsWith ea none pos.line X.env = pure false := by rfl) : PS X (.Expr ea pos) ((sEx a).t W) := ps_expr ha hs
theorem dsIf {xs ys : List Stmt} (hq : PT X ec (q.t W)) (ha : PSs X xs (s1.t W)) (hb : PSs X ys (s2.t W)) : PS X (.If ec xs ys pos) ((sIf q s1 s2).t W) := ps_if hq ha hb
theorem dAs {tg : Expr} (ha : PE X ea (a.t W)) (hg : PG X tg (g.t W)) (hs : swapsWithSole [tg] ea pos.line X.env = pure false := by rfl) (hw : swappedStores [tg] ea X.env = pure none := by rfl) (h1 : (assignEach [tg] X.env).map (·.2) = [assign tg X.env] := by rfl) : PS X (.Assign [tg] ea pos) ((sAs a g).t W) := ps_asg ha hg hs hw h1
theorem dPar {i j : Nat} {x y : Str} {px py pt : Pos} {kt k2 pt2} (hc : X.calm = true) (hN : X.N.Nodup) (hi : X.N[i]? = some x) (hj : X.N[j]? = some y) (hij : i ≠ j) (ha : PA X [ea, eb] (as.t W)) (hx : X.env.scope.names.lookup x = some .local := by rfl) (hy : X.env.scope.names.lookup y = some .local := by rfl)
    (hw : swappedStores [.Tuple [.Name x px, .Name y py] kt pt] (.Tuple [ea, eb] k2 pt2) X.env = pure (some [x, y]) := by rfl) (hs : swapsWithSole [.Tuple [.Name x px, .Name y py] kt pt] (.Tuple [ea, eb] k2 pt2) pos.line X.env = pure false := by rfl) :
    PS X (.Assign [.Tuple [.Name x px, .Name y py] kt pt] (.Tuple [ea, eb] k2 pt2) pos) ((sPar i j as).t W) := ps_par hc hN hi hj hij hx hy ha hw hs
theorem dN (i : Nat) {x : Str} (hN : X.N.Nodup) (hi : X.N[i]? = some x := by rfl) (hx : Loc X.env.scope x := by first | exact .inl rfl | exact .inr rfl) (hf : X.fn x = true ∨ X.env.scope.names.lookup x = some .local := by first | exact .inl rfl | exact .inr rfl) : PG X (.Name x pos) ((gN (K := X.K) (T := T) i).t W) := pg_name hN hi hx hf
theorem dgN : PGs X [] ((gsN (K := X.K) (T := T)).t W) := pgs_nil
theorem dgC {es : List Expr} (h1 : PG X ea (g.t W)) (h2 : PGs X es (gs.t W)) (hm : (assignEach (ea :: es) X.env).map (·.2) = assign ea X.env :: (assignEach es X.env).map (·.2) := by rfl) : PGs X (ea :: es) ((gsC g gs).t W) := pgs_cons h1 h2 hm
theorem dgT {es : List Expr} {k n : Nat} (hc : X.calm = true) (h : PGs X es (gs.t W)) (hn : (assignEach es X.env).length = n := by rfl) (hst : (assignEach es X.env).findIdx? (·.1) = none := by rfl) : PG X (.Tuple es k pos) ((gT n gs).t W) := pg_tup hc h hn hst
theorem dgIx {o i : XE X.K T} {eo ei : Expr} (ho : PE X eo (o.t W)) (hi : PE X ei (i.t W)) (h : ∀ (v : Value), assign (eo.Subscript ei pos) X.env v = (do
    let ov ← holding [v] (eval eo X.env)
    let iv ← holding [v, ov] (eval ei X.env)
    standAt pos
    holding [v, ov, iv] (setItem ov iv v)
    release [v, ov, iv] []) := by intro _; rfl) : PG X (.Subscript eo ei pos) ((gIx o i).t W) := pg_sub ho hi set_list h
theorem dFor {tg iter : Expr} {body : List Stmt} {it : XI X.K T} (hp : PassesOwn (model X.prog X.w) X.A X.env X.xe) (hc : X.calm = true) (hi : PI X tg iter (it.t W)) (hg : PG X tg (g.t W)) (hb : PSs X body (s1.t W))
    (hs : ∀ x, foldedSetIterable iter X.env x = pure x := by intro _; rfl) : PS X (.For tg iter body [] pos) ((sFor it g s1).t W) := ps_for hp hc hi hg hb hs
theorem diL {tg : Expr} (h : PE X ea (a.t W)) : PI X tg ea ((iL a).t W) := pi_list h
theorem diT {tg : Expr} (h : PE X ea (a.t W)) : PI X tg ea ((iT a).t W) := pi_tup h
theorem diR1 {tg : Expr} {p : Pos} (hm : X.mg "range" = none) (h : PE X ea (a.t W)) (hg : Gl X "range" := by rfl) (h1 : starEach [ea] X.env = [(false, eval ea X.env)] := by rfl) : PI X tg (.Call (.Name "range" p) [ea] [] pos) ((iR1 a).t W) := pi_range1 hg hm (pa_cons h pa_nil h1) h1
theorem diR2 {tg : Expr} {p : Pos} (hm : X.mg "range" = none) (h : PE X ea (a.t W)) (h' : PE X eb (b.t W)) (hg : Gl X "range" := by rfl) (h1 : starEach [ea, eb] X.env = [(false, eval ea X.env), (false, eval eb X.env)] := by rfl) (h2 : starEach [eb] X.env = [(false, eval eb X.env)] := by rfl) :
    PI X tg (.Call (.Name "range" p) [ea, eb] [] pos) ((iR2 a b).t W) := pi_range2 hg hm (pa_cons h (pa_cons h' pa_nil h2) (by rw [h1, h2])) h1 h2
theorem dApp {xo : XE X.K T} {eo : Expr} {p : Pos} (ho : PE X eo (xo.t W)) (ha : PE X ea (a.t W)) (hbase : attributeBase eo "append" X.env (eval eo X.env) = eval eo X.env := by rfl)
    (hfew : ((backTo pos (starEach [ea] X.env)).all (fun x => !x.1) && (backToKw pos (keywordEach [] X.env)).all (fun x => x.1.isSome) && decide ([ea].length + ([] : List Keyword).length + (if ([] : List Keyword).isEmpty then 0 else 1) < 30)) = true := by rfl)
    (hline : (p.endLine == pos.line) = true := by rfl) (hs : starEach [ea] X.env = (false, eval ea X.env) :: starEach [] X.env := by rfl) (hpl : (backTo pos (starEach [] X.env)).any (·.1) = false := by rfl) :
    PE X (.Call (.Attribute eo "append" p) [ea] [] pos) ((xApp xo a).t W) := pe_bm PySem.F.plainAttrs_list PySem.F.slot_list_append PySem.F.type_list_append mt_append ho (pa_cons ha pa_nil hs) hbase hfew hline hs hpl
/-! comprehensions -/
variable {it : XI X.K T} {cg : CG} {e : XE X.K T}
theorem dYes : PTs X [] ((qYes (K := X.K) (T := T)).t W) := pts_nil
theorem dTest (h : PT X ec (q.t W)) : PTs X [ec] (q.t W) := pts_one h
theorem dLc {elt tg iter : Expr} {ifs : List Expr} {scope : Scope} {own : List (Str × Nat)} (hc : X.calm = true) (hN : X.N.Nodup) (ok : BlkOk X.N X.env.scope scope own) (hi : PI X tg iter (it.t W)) (ho : own.map (·.2) = cg.slots)
    (hg : ∀ (s : Shared) (H : Hp) (C : Addr) (cl : List (Str × Addr)) (fp : List Addr), PG (X.blk s H scope (compEnvC scope cl C X.env) fp) tg (cg.t X.K)) (ht : ∀ (s : Shared) (H : Hp) (C : Addr) (cl : List (Str × Addr)) (fp : List Addr), PTs (X.blk s H scope (compEnvC scope cl C X.env) fp) ifs (q.t WX0))
    (he : ∀ (s : Shared) (H : Hp) (C : Addr) (cl : List (Str × Addr)) (fp : List Addr), PE (X.blk s H scope (compEnvC scope cl C X.env) fp) elt (e.t WX0)) (hs : ∀ x, foldedSetIterable iter X.env x = pure x := by intro _; rfl) :
    PE X (.ListComp elt [⟨tg, iter, ifs, 0⟩] scope pos) ((xLc it cg q e).t W) := by
  have h := pe_lc (pos := pos) hc hN hi ok hg ht he hs
  rw [ho] at h
  exact h
theorem dLcM {elt tg iter : Expr} {ifs : List Expr} {scope : Scope} {own : List (Str × Nat)} (hc : X.calm = true) (hN : X.N.Nodup) (ok : BlkOk X.N X.env.scope scope own) (hi : PI X tg iter (it.t W)) (ho : own.map (·.2) = cg.slots)
    (hg : ∀ (s : Shared) (H : Hp) (C : Addr) (cl : List (Str × Addr)) (fp : List Addr), PG (X.blk s H scope (compEnvC scope cl C X.env) fp) tg (cg.t X.K)) (ht : ∀ (s : Shared) (H : Hp) (C : Addr) (cl : List (Str × Addr)) (fp : List Addr), PTs (X.blk s H scope (compEnvC scope cl C X.env) fp) ifs (q.t WX0))
    (he : ∀ (s : Shared) (H : Hp) (C : Addr) (cl : List (Str × Addr)) (fp : List Addr), PE (X.blk s H scope (compEnvC scope cl C X.env) fp) elt (e.t WX0)) (hs : ∀ x, foldedSetIterable iter X.env x = pure x := by intro _; rfl) :
    PE X (.ListComp elt [⟨tg, iter, ifs, 0⟩] scope pos) ((xLcM it cg q e).t W) := by
  have h := pe_lc (pos := pos) hc hN hi ok hg ht he hs
  rw [ho] at h
  exact h
/-- y = [..] -/
theorem dSetLc {elt tg iter : Expr} {ifs : List Expr} {scope : Scope} {own : List (Str × Nat)} {i : Nat} {y : Str} {py spos : Pos} (mk : Bool) (hc : X.calm = true) (hN : X.N.Nodup) (hy : X.N[i]? = some y) (ok : BlkOk X.N X.env.scope scope own) (hi : PI X tg iter (it.t W)) (ho : own.map (·.2) = cg.slots)
    (hg : ∀ (s : Shared) (H : Hp) (C : Addr) (cl : List (Str × Addr)) (fp : List Addr), PG (X.blk s H scope (compEnvC scope cl C X.env) fp) tg (cg.t X.K)) (ht : ∀ (s : Shared) (H : Hp) (C : Addr) (cl : List (Str × Addr)) (fp : List Addr), PTs (X.blk s H scope (compEnvC scope cl C X.env) fp) ifs (q.t WX0))
    (he : ∀ (s : Shared) (H : Hp) (C : Addr) (cl : List (Str × Addr)) (fp : List Addr), PE (X.blk s H scope (compEnvC scope cl C X.env) fp) elt (e.t WX0)) (hs : ∀ x, foldedSetIterable iter X.env x = pure x := by intro _; rfl)
    (hyl : X.env.scope.names.lookup y = some .local := by rfl) (hsw : swapsWith (.ListComp elt [⟨tg, iter, ifs, 0⟩] scope pos) (some (.Name y py)) spos.line X.env = pure true := by exact sw_true rfl rfl rfl (by decide +kernel)) :
    PS X (.Assign [.Name y py] (.ListComp elt [⟨tg, iter, ifs, 0⟩] scope pos) spos) ((sAs (bif mk then xLcM it cg q e else xLc it cg q e) (gN i)).t W) := by
  have h := ps_setLc (pos := pos) (spos := spos) (py := py) hc hN hy hyl hsw hi ok hg ht he hs
  rw [ho] at h
  cases mk with
  | true => exact h
  | false => exact h
theorem cgOne (i : Nat) {x : Str} (hN : X.N.Nodup) (hi : X.N[i]? = some x := by rfl) (hx : Loc X.env.scope x := by first | exact .inl rfl | exact .inr rfl) (hf : X.fn x = true ∨ X.env.scope.names.lookup x = some .local := by first | exact .inl rfl | exact .inr rfl) : PG X (.Name x pos) ((CG.one i).t X.K) := pg_name hN hi hx hf
theorem cgsN : PGs X [] (CG.ts []) := pgs_nil
theorem cgsC {es : List Expr} {is : List Nat} {x : Str} (i : Nat) (hN : X.N.Nodup) (h2 : PGs X es (CG.ts is)) (hi : X.N[i]? = some x := by rfl) (hx : Loc X.env.scope x := by first | exact .inl rfl | exact .inr rfl) (hf : X.fn x = true ∨ X.env.scope.names.lookup x = some .local := by first | exact .inl rfl | exact .inr rfl)
    (hm : (assignEach (.Name x pos :: es) X.env).map (·.2) = assign (.Name x pos) X.env :: (assignEach es X.env).map (·.2) := by rfl) : PGs X (.Name x pos :: es) (CG.ts (i :: is)) := pgs_cons (pg_name hN hi hx hf) h2 hm
theorem cgMany {es : List Expr} {k : Nat} {is : List Nat} (hc : X.calm = true) (h : PGs X es (CG.ts is)) (hn : (assignEach es X.env).length = is.length := by rfl) (hst : (assignEach es X.env).findIdx? (·.1) = none := by rfl) : PG X (.Tuple es k pos) ((CG.many is).t X.K) := pg_tup hc h hn hst
end
/-! ### the law's own end -/
theorem repL_ints {K : PySem.W.Frag} {P : Hp} : ∀ ns : List Int, RepL K P (ns.map V.int) (ns.map D.int)
  | [] => .nil
  | n :: ns => .cons (.int n) (repL_ints ns)
/-- a law's promise over the script's ints: True -/
def spLaw : Pm := fun ds M Φ _ => ∃ ns : List Int, ds = [.lsw (ns.map D.int)] ∧ ns.length ≤ 63 ∧ ∀ M', Φ (.bl true) M'
theorem law_walk {l : PySem.W.OpenLaw} {q : Program} {loose : List Str} {XP : (Str → Option Value) → Heap → Prop} {YP : World → Heap → Prop} {d : DefRec} {K : Params → PySem.W.Frag} {k : Nat} (hk : Room k callerA) (hn : l.most = some 63) (hdf : d.params.defaults = [])
    (hY : ∀ (w : World) (h : Heap), YP w h → (K w.params).In h)
    (F : ∀ (w : World) (mg : Str → Option Value) (fa : Addr) (h : Heap), (K w.params).In h → h.Ns mainGlobals mg → mg d.name = some (.ref fa) →
      ∃ fd : FuncData, (∀ (s : Shared) (u : Value), BindsTo s fd ⟨[u], []⟩ [("script", u)]) ∧ ∀ base : Heap, (K w.params).In base → base.Ns mainGlobals mg → FnOk l.prog w (K w.params) mg base (L2.CX l.prog w) k fa fd ["script"] (spOf (K w.params) (fun _ => False) spLaw)) :
    PySem.W.WalkO q loose XP YP l.row.toRowW d [] (fun f vs => PySem.call f vs) :=
  L2.walk_of (n := 63) (k := k) (x := "script") (CX := fun w => L2.CX l.prog w) (sp := fun w => spOf (K w.params) (fun _ => False) spLaw) hn (by decide) hdf hk hY F
    (fun w H a ns hl _ hS => ⟨H, fun _ => none, [.lsw (ns.map D.int)], fun d _ => d = .bl true, fun _ _ _ => False, ⟨fun _ _ h => .inl h, fun _ _ h => by (cases h), fun _ _ h => by (cases h), fun _ h => h.elim⟩, .cons (.lsw hS (repL_ints ns)) .nil, ⟨ns, rfl, hl, fun _ => rfl⟩,
      fun v d P' M' H' e _ r => by subst e; exact r.toB, fun _ _ _ _ _ z _ => z⟩)
    fun _ _ _ _ _ ⟨_, _, _, _, _, _, _, _, _, _, _, _, z⟩ => z
end Ab

set_option Elab.async false
set_option linter.all false
set_option maxRecDepth 100000
set_option maxHeartbeats 2000000
namespace Ab
open PySem PySem.Spec PyProof.Rows L2
section
variable {K : PySem.W.Frag} {T : Addr → Prop}
def xNeg (a : XE K T) : XE K T where
  t := fun W => tUn (rU fun i => .int (-i)) (a.t W)
  w := fun ρ M Φ Ξ => a.w ρ M (fun x M1 => asI x fun i => Φ (.int (-i)) M1) Ξ
  ok := fun h P σ H wr rs Q hq hx => a.ok h wr rs (fun v x P1 M1 H1 h1 s1 r1 => by
    obtain ⟨i, rfl, h2⟩ := h1.get
    exact ⟨i, r1.toI, hq _ _ _ _ _ h2 s1 (.int _)⟩) hx
/-- a statement and the rest, with a word of one's own between them -/
def sCut (a b : XS K T) : XS K T where
  t := fun W => tSeq (a.t W) (b.t W)
  w := fun ρ M ε Ξ => ∃ J : Sl → Mh → Prop, a.w ρ M { ε with nx := J } Ξ ∧ ∀ ρ' M', J ρ' M' → b.w ρ' M' ε Ξ
  ok := fun {W ρ M ε Ξ} h P σ H wr rs Dn hd hx => by
    obtain ⟨J, h1, h2⟩ := h
    exact a.ok h1 wr rs ⟨fun ρ1 σ1 P1 M1 H1 h3 s1 rs1 => b.ok (h2 ρ1 M1 h3) s1.wr rs1 (hd.mono s1) (hx.mono s1), hd.rt, hd.bk, hd.ct⟩ hx
end
section
variable {X : Cx} {W : WX} {T : Addr → Prop} {pos : Pos} {a b : XE X.K T} {ea eb : Expr} {q : XT X.K T}
theorem dNeg (ha : PE X ea (a.t W)) : PE X (.UnaryOp .USub ea pos) ((xNeg a).t W) := (pe_un un_neg ha : PE X (.UnaryOp .USub ea pos) (tUn (rU fun i => .int (-i)) (a.t W)))
theorem dOne {op} (ha : PE X ea (a.t W)) : PE X (.BoolOp op [ea] pos) (a.t W) := pe_one ha
theorem dsCut {s1 s2 : XS X.K T} {st : Stmt} {rest : List Stmt} (h1 : PS X st (s1.t W)) (h2 : PSs X rest (s2.t W)) : PSs X (st :: rest) ((sCut s1 s2).t W) := (pss_cons h1 h2 : PSs X (st :: rest) (tSeq (s1.t W) (s2.t W)))
theorem dFz {sts : List Stmt} {i : Nat} {b : XS X.K T} (h : PSs X sts (b.t W)) : PSs X sts ((sFrz i b).t W) := h
theorem dw1A (ha : PT X ea (q.t W)) : PW X (.BoolOp .And [ea] pos) (q.t W) := pw_and1 ha
theorem dw1O (ha : PT X ea (q.t W)) : PW X (.BoolOp .Or [ea] pos) (q.t W) := pw_or1 ha
end
end Ab

set_option Elab.async false
set_option linter.all false
set_option maxRecDepth 100000
set_option maxHeartbeats 2000000
namespace Ab
open PySem L2
section
variable {ρ : Sl} {d x y : D} {k : D → Prop} {M : Mh} {p q : Addr} {ds : List D} {kl : List D → Prop} {n : Nat}
theorem asI_ {i : Int} {k : Int → Prop} : asI (.int i) k = k i := rfl
theorem asB_ {i : Bool} {k : Bool → Prop} : asB (.bl i) k = k i := rfl
theorem asS_ {i : Str} {k : Str → Prop} : asS (.str i) k = k i := rfl
theorem asR_ {i : Addr} {k : Addr → Prop} : asR (.ref i) k = k i := rfl
theorem asT_ : asT (.tup ds) kl = kl ds := rfl
theorem asL_1 : asL (.lst ds) M kl = kl ds := rfl
theorem asL_2 : asL (.lsw ds) M kl = kl ds := rfl
theorem asL_3 : asL (.ref p) M kl = mL M p kl := rfl
theorem asLt_1 : asLt (.lst ds) M kl = kl ds := rfl
theorem asLt_3 : asLt (.ref p) M kl = mL M p kl := rfl
theorem asQ_1 : asQ (.lst ds) M kl = kl ds := rfl
theorem asQ_2 : asQ (.lsw ds) M kl = kl ds := rfl
theorem asQ_3 : asQ (.ref p) M kl = mL M p kl := rfl
theorem asQ_4 : asQ (.tup ds) M kl = kl ds := rfl
theorem asSc_1 {k : V → Prop} : asSc .non k = k .non := rfl
theorem asSc_2 {b : Bool} {k : V → Prop} : asSc (.bl b) k = k (.bl b) := rfl
theorem asSc_3 {b : Int} {k : V → Prop} : asSc (.int b) k = k (.int b) := rfl
theorem asSc_4 {b : Str} {k : V → Prop} : asSc (.str b) k = k (.str b) := rfl
theorem arg1_ : arg1 [d] k = k d := rfl
theorem look_0 : look (some d :: ρ) 0 k = k d := rfl
theorem look_s {o : Option D} : look (o :: ρ) (n + 1) k = look ρ n k := rfl
theorem mL_of (h : M p = some (.lst ds)) : mL M p kl = kl ds := by unfold mL; rw [h]
theorem mL_um : mL (um M p (.lst ds)) p kl = kl ds := mL_of um_same
theorem at_of {i : Int} (h : atI ds i = some d) : at_ ds i k = k d := by unfold at_; rw [h]
theorem at_nat {n : Nat} (h : ds[n]? = some d) : at_ ds (n : Int) k = k d := at_of (atI_nat h)
theorem at_0 {a0 : D} : at_ (a0 :: ds) 0 k = k a0 := at_nat (n := 0) rfl
theorem at_1 {a0 a1 : D} : at_ (a0 :: a1 :: ds) 1 k = k a1 := at_nat (n := 1) rfl
theorem at_2 {a0 a1 a2 : D} : at_ (a0 :: a1 :: a2 :: ds) 2 k = k a2 := at_nat (n := 2) rfl
theorem at_3 {a0 a1 a2 a3 : D} : at_ (a0 :: a1 :: a2 :: a3 :: ds) 3 k = k a3 := at_nat (n := 3) rfl
theorem at_4 {a0 a1 a2 a3 a4 : D} : at_ (a0 :: a1 :: a2 :: a3 :: a4 :: ds) 4 k = k a4 := at_nat (n := 4) rfl
theorem at_5 {a0 a1 a2 a3 a4 a5 : D} : at_ (a0 :: a1 :: a2 :: a3 :: a4 :: a5 :: ds) 5 k = k a5 := at_nat (n := 5) rfl
theorem at_6 {a0 a1 a2 a3 a4 a5 a6 : D} : at_ (a0 :: a1 :: a2 :: a3 :: a4 :: a5 :: a6 :: ds) 6 k = k a6 := at_nat (n := 6) rfl
theorem at_7 {a0 a1 a2 a3 a4 a5 a6 a7 : D} : at_ (a0 :: a1 :: a2 :: a3 :: a4 :: a5 :: a6 :: a7 :: ds) 7 k = k a7 := at_nat (n := 7) rfl
theorem at_8 {a0 a1 a2 a3 a4 a5 a6 a7 a8 : D} : at_ (a0 :: a1 :: a2 :: a3 :: a4 :: a5 :: a6 :: a7 :: a8 :: ds) 8 k = k a8 := at_nat (n := 8) rfl
theorem setD_nat {n : Nat} {e : D} {f : List D → Prop} (h : n < ds.length) : setD ds (n : Int) e f = f (ds.set n e) := by
  unfold setD ixN
  rw [if_pos (by omega), if_pos (by omega)]
  rfl
theorem setD_0 {a0 e : D} {f : List D → Prop} : setD (a0 :: ds) 0 e f = f (e :: ds) := setD_nat (n := 0) (by simp)
theorem setD_1 {a0 a1 e : D} {f : List D → Prop} : setD (a0 :: a1 :: ds) 1 e f = f (a0 :: e :: ds) := setD_nat (n := 1) (by simp)
theorem setD_2 {a0 a1 a2 e : D} {f : List D → Prop} : setD (a0 :: a1 :: a2 :: ds) 2 e f = f (a0 :: a1 :: e :: ds) := setD_nat (n := 2) (by simp)
theorem setD_3 {a0 a1 a2 a3 e : D} {f : List D → Prop} : setD (a0 :: a1 :: a2 :: a3 :: ds) 3 e f = f (a0 :: a1 :: a2 :: e :: ds) := setD_nat (n := 3) (by simp)
theorem setD_4 {a0 a1 a2 a3 a4 e : D} {f : List D → Prop} : setD (a0 :: a1 :: a2 :: a3 :: a4 :: ds) 4 e f = f (a0 :: a1 :: a2 :: a3 :: e :: ds) := setD_nat (n := 4) (by simp)
theorem setD_5 {a0 a1 a2 a3 a4 a5 e : D} {f : List D → Prop} : setD (a0 :: a1 :: a2 :: a3 :: a4 :: a5 :: ds) 5 e f = f (a0 :: a1 :: a2 :: a3 :: a4 :: e :: ds) := setD_nat (n := 5) (by simp)
theorem setD_6 {a0 a1 a2 a3 a4 a5 a6 e : D} {f : List D → Prop} : setD (a0 :: a1 :: a2 :: a3 :: a4 :: a5 :: a6 :: ds) 6 e f = f (a0 :: a1 :: a2 :: a3 :: a4 :: a5 :: e :: ds) := setD_nat (n := 6) (by simp)
theorem setD_7 {a0 a1 a2 a3 a4 a5 a6 a7 e : D} {f : List D → Prop} : setD (a0 :: a1 :: a2 :: a3 :: a4 :: a5 :: a6 :: a7 :: ds) 7 e f = f (a0 :: a1 :: a2 :: a3 :: a4 :: a5 :: a6 :: e :: ds) := setD_nat (n := 7) (by simp)
theorem toI_1 {i : Int} {k : Int → Prop} : toI (.int i) k = k i := rfl
theorem toI_2 {b : Bool} {k : Int → Prop} : toI (.bl b) k = k (if b then 1 else 0) := rfl
theorem atS_of {s : Str} {i : Int} {c : Nat} {k : Nat → Prop} (h : atI s.cps.toList i = some c) : atS s i k = k c := by unfold atS; rw [h]
theorem asTx_ {xs : List Str} {k : List Str → Prop} : asTx (xs.map D.str) k = k xs := by unfold asTx; rw [txts_map]
theorem wlk_1 {k : List D → (Mh → Prop) → Prop} : wlk (.lst ds) M k = k ds (fun _ => True) := rfl
theorem wlk_2 {k : List D → (Mh → Prop) → Prop} : wlk (.lsw ds) M k = k ds (fun _ => True) := rfl
theorem wlk_3 {k : List D → (Mh → Prop) → Prop} : wlk (.ref p) M k = mL M p fun ds => k ds (fun M2 => M2 p = some (.lst ds)) := rfl
theorem asSs_of {v : V} {vs : List V} {k : V → List V → Prop} (h1 : scD x = some v) (h2 : scL ds = some vs) : asSs x ds k = k v vs := by unfold asSs; rw [h1, h2]
theorem sc_ii {i j : Int} : scal (.int i) (.int j) = true := rfl
theorem sc_ss {i j : Str} : scal (.str i) (.str j) = true := rfl
theorem sc_bb {i j : Bool} : scal (.bl i) (.bl j) = true := rfl
theorem sc_nn : scal .non .non = true := rfl
theorem sc_ni {i : Int} : scal .non (.int i) = true := rfl
theorem sc_in {i : Int} : scal (.int i) .non = true := rfl
theorem sc_ns {i : Str} : scal .non (.str i) = true := rfl
theorem sc_sn {i : Str} : scal (.str i) .non = true := rfl
theorem sc_is {i : Int} {s : Str} : scal (.int i) (.str s) = true := rfl
theorem sc_si {i : Int} {s : Str} : scal (.str s) (.int i) = true := rfl
theorem gsw_ {K : PySem.W.Frag} {T : Addr → Prop} {g : XG K T} {gs : XGs K T} {d : D} {r : List D} {Φ : Sl → Mh → Prop} {Ξ : XP} : (gsC g gs).w (d :: r) ρ M Φ Ξ = g.w d ρ M (fun ρ' M' => gs.w r ρ' M' Φ Ξ) Ξ := rfl
end
/-- an item in its bounds -/
theorem atI_in {α : Type} {l : List α} {i : Int} (h0 : 0 ≤ i) (h1 : i < l.length) : ∃ c, atI l i = some c ∧ l[i.toNat]? = some c := by
  have h : i.toNat < l.length := by omega
  refine ⟨l[i.toNat], ?_, by simp [h]⟩
  unfold atI ixN
  rw [if_pos h0, if_pos h1]
  simp [h]
end Ab

set_option Elab.async false
set_option linter.all false
set_option maxRecDepth 100000
set_option maxHeartbeats 4000000
namespace Lw
open PySem PySem.Spec PyProof.Rows L2 Ab
def top (i : Nat) : Stmt := PySem.Challenge.pw_leasehall_k32_true_statements.main.body.getD i (.Pass ⟨0, 0, 0, 0⟩)
local macro_rules | `(tactic| walk_at "vc") => `(tactic| try simp only [xVar, xInt, xStr, xBl, xNon, xOp, xCh, xAnd, xOr, xNot, xIf, aNil, aCons, xTup, xLst, xLstM, xB, xCall, qT, qB, qAnd, qOr, qNot, gN, gsN, gsC, gT, gIx, sNx, sBk, sCt, sRn, sSeq, sCut, sRet, sEx, sIf, sAs, sPar,
  oII, oAdd, oSub, oMul, oMod, oDiv, oPow, oLt, oLe, oGt, oGe, oSS, oAddS, oLtS, oGtS, oLeS, oGeS, oEq, oNe, oIsB, xIsN, xNotN, oIxL, oIxT, oIxS, oIn, oCatT, oCatL, oCatM, bLen, bLenS, bList, bListM, bTupL, bInt, bSortS, xApp, iL, iT, iR1, iR2, sFor, xLc, xLcM, lcW, sFrz, xNeg, qYes,
  asI_, asB_, asS_, asR_, asT_, asL_1, asL_2, asL_3, asLt_1, asLt_3, asQ_1, asQ_2, asQ_3, asQ_4, asSc_1, asSc_2, asSc_3, asSc_4, arg1_, look_0, look_s, st0, isN, at_0, at_1, at_2, at_3, at_4, at_5, at_6, at_7, at_8, setD_0, setD_1, setD_2, setD_3, setD_4, mL_um, wipeD, CG.slots, CG.w, putN, toI_1, toI_2, asTx_, wlk_1, wlk_2, wlk_3, sc_ii, sc_ss, sc_bb, sc_nn, sc_ni, sc_in, sc_ns, sc_sn, sc_is, sc_si, V.int.injEq, V.str.injEq, V.bl.injEq,
  List.map_cons, List.map_nil, List.length_cons, List.length_nil, List.replicate, List.nil_append, List.cons_append, List.set_cons_zero, List.set_cons_succ, Nat.reduceAdd, Nat.reduceSub, Nat.zero_add, Nat.add_zero, true_and, and_true, Nat.reduceLeDiff, decide_eq_true_eq, Bool.not_eq_true', Bool.not_eq_eq_eq_not, Bool.not_true, Bool.not_false, decide_eq_false_iff_not, if_true, if_false, Bool.true_eq_false, Bool.false_eq_true, ite_true, ite_false, rngD_len])
section
variable {P : Program} {w : World} {K : PySem.W.Frag} {mg : Str → Option Value} {base : Heap} {T : Addr → Prop}
def Wp (b : XS K T) (n : Nat) (ds : List D) (M : Mh) (Φ : D → Mh → Prop) : Prop := b.w (st0 n ds) M ⟨fun _ M' => Φ .non M', Φ, fun _ _ => False, fun _ _ => False⟩ (fun _ _ _ _ => False)
def sp_law_mix : Pm := fun ds M Φ _ => ∃ c, ds = [.int c] ∧ ∀ r, 0 ≤ r → r < 2147483629 → Φ (.int r) M
/-! _law_mix -/
abbrev s_law_mix : Stmt := top 6
abbrev nm_law_mix : List Str := ["cell", "number"]
theorem sc_law_mix : FnScope ["cell", "number"] ["cell"] (defScope s_law_mix) := ⟨rfl, rfl, rfl, by decide +kernel, rfl, by decide +kernel, by decide +kernel⟩
def b_law_mix : XS K T :=
  (sSeq (sAs (xOp oMod (xB bInt (aCons (xVar 0) aNil)) (xInt 2147483647)) (gN 1))
  (sSeq (sAs (xOp oMod (xB bInt (aCons (xOp oAdd (xOp oMul (xVar 1) (xInt 48271)) (xInt 11)) aNil)) (xInt 2147483647)) (gN 1))
  (sRet (xOp oMod (xB bInt (aCons (xOp oAdd (xOp oMul (xVar 1) (xInt 69621)) (xInt 5)) aNil)) (xInt 2147483629)))))
theorem len_law_mix : ∀ ds M Φ Ξ, sp_law_mix ds M Φ Ξ → ds.length = 1 := by
  rintro _ _ _ _ ⟨c, rfl, _⟩
  rfl
theorem vc_law_mix : ∀ ds M Φ Ξ, sp_law_mix ds M Φ Ξ → Wp (b_law_mix : XS K T) 2 ds M Φ := by
  rintro _ M Φ Ξ ⟨c, rfl, h⟩
  unfold Wp b_law_mix
  walk_at "vc"
  have m1 := Int.emod_nonneg c (b := 2147483647) (by decide)
  have m2 := Int.emod_lt_of_pos c (b := 2147483647) (by decide)
  refine ⟨by decide, .inr ⟨by decide, by decide⟩, by decide, .inr ⟨by decide, by decide⟩, by decide, h _ (Int.emod_nonneg _ (by decide)) (Int.emod_lt_of_pos _ (by decide))⟩
theorem cl_law_mix (F : Df K mg "_law_mix" s_law_mix) (z_int : mg "int" = none) : Cl P w K mg base T 1 "_law_mix" sp_law_mix :=
  cl0 F sc_law_mix b_law_mix (len_law_mix) (fun _ _ _ _ _ _ us hl => match us, hl with | [_], _ => rfl) (fun f cdv A outer s H E hr =>
  (dsCons (dAs (dOp (o := oMod) op_mod (dTy (bb := bInt) call_int1 z_int (dCons (dVar 0) dNil) (by decide +kernel)) dInt) (dN 1 sc_law_mix.nd))
  (dsCons (dAs (dOp (o := oMod) op_mod (dTy (bb := bInt) call_int1 z_int (dCons (dOp (o := oAdd) op_add (dOp (o := oMul) op_mul (dVar 1) dInt) dInt) dNil) (by decide +kernel)) dInt) (dN 1 sc_law_mix.nd))
  (dsOne (dRet (dOp (o := oMod) op_mod (dTy (bb := bInt) call_int1 z_int (dCons (dOp (o := oAdd) op_add (dOp (o := oMul) op_mul (dVar 1) dInt) dInt) dNil) (by decide +kernel)) dInt)))))) vc_law_mix
def sp_law_number : Pm := fun ds M Φ _ => ∃ c, ds = [.int c] ∧ ∀ r, 0 ≤ r → Φ (.int r) M
/-! _law_number -/
abbrev s_law_number : Stmt := top 7
abbrev nm_law_number : List Str := ["cell", "first"]
theorem sc_law_number : FnScope ["cell", "first"] ["cell"] (defScope s_law_number) := ⟨rfl, rfl, rfl, by decide +kernel, rfl, by decide +kernel, by decide +kernel⟩
def b_law_number : XS K T :=
  (sSeq (sIf (qT (xOp oGe (xVar 0) (xOp oPow (xInt 10) (xInt 18)))) (sRet (xVar 0)) sNx)
  (sSeq (sAs (xCall sp_law_mix (aCons (xVar 0) aNil)) (gN 1))
  (sRet (xOp oAdd (xOp oMul (xVar 1) (xInt 2147483629)) (xCall sp_law_mix (aCons (xOp oAdd (xVar 1) (xVar 0)) aNil))))))
theorem len_law_number : ∀ ds M Φ Ξ, sp_law_number ds M Φ Ξ → ds.length = 1 := by
  rintro _ _ _ _ ⟨c, rfl, _⟩
  rfl
theorem vc_law_number : ∀ ds M Φ Ξ, sp_law_number ds M Φ Ξ → Wp (b_law_number : XS K T) 2 ds M Φ := by
  rintro _ M Φ Ξ ⟨c, rfl, h⟩
  unfold Wp b_law_number
  walk_at "vc"
  refine ⟨⟨by decide, by decide, by decide⟩, ite2 (fun hc => h c (Int.le_trans (by decide) hc)) (fun hc => ⟨c, rfl, fun r h0 h1 => ?_⟩)⟩
  walk_at "vc"
  refine ⟨.inl ⟨by omega, by omega⟩, _, rfl, fun r2 h2 h3 => ?_⟩
  walk_at "vc"
  exact h _ (by omega)
theorem cl_law_number (F : Df K mg "_law_number" s_law_number) (c_law_mix : Cl P w K mg base T 1 "_law_mix" sp_law_mix) : Cl P w K mg base T 2 "_law_number" sp_law_number :=
  cl0 F sc_law_number b_law_number (len_law_number) (fun _ _ _ _ _ _ us hl => match us, hl with | [_], _ => rfl) (fun f cdv A outer s H E hr =>
  (dsCons (dsIf (dqT (o := oGe) op_ge (dVar 0) (dOp (o := oPow) op_pow dInt dInt)) (dsOne (dRet (dVar 0))) dsNil)
  (dsCons (dAs (dCall c_law_mix hr (by decide) takes0 (dCons (dVar 0) dNil)) (dN 1 sc_law_number.nd))
  (dsOne (dRet (dOp (o := oAdd) op_add (dOp (o := oMul) op_mul (dVar 1) dInt) (dCall c_law_mix hr (by decide) takes0 (dCons (dOp (o := oAdd) op_add (dVar 1) (dVar 0)) dNil)))))))) vc_law_number
/-- the drawing state -/
def GV (m : MO) : Prop := ∃ (a : Int) (sc : List Int) (i c : Int), m = .lst [.int a, .lst (sc.map D.int), .int i, .int c] ∧ 0 ≤ a ∧ 0 ≤ i ∧ 0 ≤ c
def GS (M : Mh) (st : Addr) : Prop := ∃ m, M st = some m ∧ GV m
/-- but for st all is as it was -/
def Sam (st : Addr) (M M' : Mh) : Prop := ∀ a m, M a = some m → a ≠ st → M' a = some m
theorem Sam.refl {st : Addr} (M : Mh) : Sam st M M := fun _ _ h _ => h
theorem Sam.trans {st : Addr} {M M1 M2 : Mh} (a : Sam st M M1) (b : Sam st M1 M2) : Sam st M M2 := fun x m h n => b x m (a x m h n) n
theorem Sam.ch {st : Addr} {M : Mh} {m : MO} : Sam st M (um M st m) := fun a m h n => by rw [um_ne n]; exact h
def sp_law_state : Pm := fun ds M Φ _ => ∃ ns : List Int, ds = [.lsw (ns.map D.int)] ∧ ∀ p M', GS M' p → M p = none → (∀ a m, M a = some m → M' a = some m) → Φ (.ref p) M'
/-! _law_state -/
abbrev s_law_state : Stmt := top 8
abbrev nm_law_state : List Str := ["script"]
theorem sc_law_state : FnScope ["script"] ["script"] (defScope s_law_state) := ⟨rfl, rfl, rfl, by decide +kernel, rfl, by decide +kernel, by decide +kernel⟩
def b_law_state : XS K T :=
  (sRet (xLstM (aCons (xInt 0) (aCons (xB bList (aCons (xVar 0) aNil)) (aCons (xInt 0) (aCons (xOp oAdd (xInt 1) (xB bLen (aCons (xVar 0) aNil))) aNil))))))
theorem len_law_state : ∀ ds M Φ Ξ, sp_law_state ds M Φ Ξ → ds.length = 1 := by
  rintro _ _ _ _ ⟨ns, rfl, _⟩
  rfl
theorem vc_law_state : ∀ ds M Φ Ξ, sp_law_state ds M Φ Ξ → Wp (b_law_state : XS K T) 1 ds M Φ := by
  rintro _ M Φ Ξ ⟨ns, rfl, h⟩
  unfold Wp b_law_state
  walk_at "vc"
  intro p hp
  refine h p _ ⟨_, um_same, 0, ns, 0, _, rfl, by decide, by decide, by omega⟩ hp fun a m e => ?_
  rw [um_ne (fun z => by rw [z, hp] at e; cases e)]
  exact e
theorem cl_law_state (F : Df K mg "_law_state" s_law_state) (z_len : mg "len" = none) (z_list : mg "list" = none) : Cl P w K mg base T 1 "_law_state" sp_law_state :=
  cl0 F sc_law_state b_law_state (len_law_state) (fun _ _ _ _ _ _ us hl => match us, hl with | [_], _ => rfl) (fun f cdv A outer s H E hr =>
  (dsOne (dRet (dLstM (dCons dInt (dCons (dTy (bb := bList) call_list_of z_list (dCons (dVar 0) dNil) (by decide +kernel)) (dCons dInt (dCons (dOp (o := oAdd) op_add dInt (dB (bb := bLen) call_len_seq z_len (dCons (dVar 0) dNil) PySem.boot_len)) dNil)))))))) vc_law_state
def sp_law_draw : Pm := fun ds M Φ _ => ∃ st many, ds = [.ref st, .int many] ∧ GS M st ∧ 0 < many ∧ many < 1073741824 ∧ ∀ r M', 0 ≤ r → r < many → GS M' st → Sam st M M' → Φ (.int r) M'
/-- the second half of a draw -/
theorem draw_end {M M0 : Mh} {st : Addr} {many : Int} {Φ : D → Mh → Prop} {a i c : Int} {sc : List Int} (s0 : Sam st M0 M) (ha : 0 ≤ a) (hi : 0 ≤ i) (hc : 0 ≤ c) (h0 : 0 < many) (h1 : many < 1073741824)
    (h : ∀ r M', 0 ≤ r → r < many → GS M' st → Sam st M0 M' → Φ (.int r) M') :
    if a = 0 then CMul c 48271 ∧ 0 < (2147483647 : Int) ∧ CDiv ((c * 48271 + 7) % 2147483647) 11 ∧ 0 < many ∧ Φ (.int ((c * 48271 + 7) % 2147483647 / 11 % many)) (um M st (.lst [.int a, .lst (sc.map D.int), .int i, .int ((c * 48271 + 7) % 2147483647)]))
    else 0 < many ∧ CDiv a many ∧ Φ (.int (a % many)) (um M st (.lst [.int (a / many), .lst (sc.map D.int), .int i, .int c])) :=
  ite2 (fun _ => ⟨.inr ⟨by decide, by decide⟩, by decide, ⟨by decide, by decide⟩, h0, h _ _ (Int.emod_nonneg _ (by omega)) (Int.emod_lt_of_pos _ h0) ⟨_, um_same, _, _, _, _, rfl, ha, hi, Int.emod_nonneg _ (by decide)⟩ (s0.trans Sam.ch)⟩)
    (fun _ => ⟨h0, ⟨h0, h1⟩, h _ _ (Int.emod_nonneg _ (by omega)) (Int.emod_lt_of_pos _ h0) ⟨_, um_same, _, _, _, _, rfl, Int.ediv_nonneg ha (by omega), hi, hc⟩ (s0.trans Sam.ch)⟩)
/-! _law_draw -/
abbrev s_law_draw : Stmt := top 9
abbrev nm_law_draw : List Str := ["state", "many", "value"]
theorem sc_law_draw : FnScope ["state", "many", "value"] ["state", "many"] (defScope s_law_draw) := ⟨rfl, rfl, rfl, by decide +kernel, rfl, by decide +kernel, by decide +kernel⟩
def b_law_draw : XS K T :=
  (sSeq (sIf (qAnd (qT (xOp oLt (xOp oIxL (xVar 0) (xInt 0)) (xVar 1))) (qT (xOp oLt (xOp oIxL (xVar 0) (xInt 2)) (xB bLen (aCons (xOp oIxL (xVar 0) (xInt 1)) aNil))))) (sSeq (sAs (xCall sp_law_number (aCons (xOp oIxL (xOp oIxL (xVar 0) (xInt 1)) (xOp oIxL (xVar 0) (xInt 2))) aNil)) (gIx (xVar 0) (xInt 0)))
  (sAs (xOp oAdd (xOp oIxL (xVar 0) (xInt 2)) (xInt 1)) (gIx (xVar 0) (xInt 2)))) sNx)
  (sSeq (sIf (qT (xOp oEq (xOp oIxL (xVar 0) (xInt 0)) (xInt 0))) (sSeq (sAs (xOp oMod (xB bInt (aCons (xOp oAdd (xOp oMul (xOp oIxL (xVar 0) (xInt 3)) (xInt 48271)) (xInt 7)) aNil)) (xInt 2147483647)) (gIx (xVar 0) (xInt 3)))
  (sRet (xOp oMod (xB bInt (aCons (xOp oDiv (xOp oIxL (xVar 0) (xInt 3)) (xInt 11)) aNil)) (xVar 1)))) sNx)
  (sSeq (sAs (xOp oMod (xB bInt (aCons (xOp oIxL (xVar 0) (xInt 0)) aNil)) (xVar 1)) (gN 2))
  (sSeq (sAs (xOp oDiv (xOp oIxL (xVar 0) (xInt 0)) (xVar 1)) (gIx (xVar 0) (xInt 0)))
  (sRet (xVar 2))))))
theorem len_law_draw : ∀ ds M Φ Ξ, sp_law_draw ds M Φ Ξ → ds.length = 2 := by
  rintro _ _ _ _ ⟨st, many, rfl, _⟩
  rfl
theorem vc_law_draw : ∀ ds M Φ Ξ, sp_law_draw ds M Φ Ξ → Wp (b_law_draw : XS K T) 3 ds M Φ := by
  rintro _ M Φ Ξ ⟨st, many, rfl, ⟨_, hm, a, sc, i, c, rfl, ha, hi, hc⟩, h0, h1, h⟩
  unfold Wp b_law_draw
  walk_at "vc"
  simp only [mL_of hm]
  walk_at "vc"
  have e0 := draw_end (M := M) (sc := sc) (i := i) (Sam.refl M) ha hi hc h0 h1 h
  refine ite2 (fun hl => ite2 (fun hi2 => ?_) (fun _ => ?_)) (fun _ => ?_)
  · rw [List.length_map] at hi2
    have hq : ∃ q : Int, at_ (sc.map D.int) i = fun k => k (.int q) := by
      obtain ⟨q, e1, e2⟩ := atI_in (l := sc.map D.int) hi (by rw [List.length_map]; exact hi2)
      rw [List.getElem?_map] at e2
      cases e3 : sc[i.toNat]? with
      | none => rw [e3] at e2; cases e2
      | some q2 => rw [e3] at e2; cases e2; exact ⟨q2, by funext k; exact at_of e1⟩
    obtain ⟨q, hq⟩ := hq
    rw [hq]
    refine ⟨q, rfl, fun r hr => ?_⟩
    simp only [mL_of hm]
    walk_at "vc"
    have e1 := draw_end (M := um (um M st (.lst [.int r, .lst (sc.map D.int), .int i, .int c])) st (.lst [.int r, .lst (sc.map D.int), .int (i + 1), .int c])) (sc := sc) (i := i + 1) (Sam.trans Sam.ch Sam.ch) hr (by omega) hc h0 h1 h
    exact e1
  · exact e0
  · exact e0
theorem cl_law_draw (F : Df K mg "_law_draw" s_law_draw) (z_int : mg "int" = none) (z_len : mg "len" = none) (c_law_number : Cl P w K mg base T 2 "_law_number" sp_law_number) : Cl P w K mg base T 3 "_law_draw" sp_law_draw :=
  cl0 F sc_law_draw b_law_draw (len_law_draw) (fun _ _ _ _ _ _ us hl => match us, hl with | [_, _], _ => rfl) (fun f cdv A outer s H E hr =>
  (dsCons (dsIf ((dwAnd (dqT (o := oLt) op_lt (dIx (o := oIxL) ix_list (dVar 0) dInt) (dVar 1)) (dw1A (dqT (o := oLt) op_lt (dIx (o := oIxL) ix_list (dVar 0) dInt) (dB (bb := bLen) call_len_seq z_len (dCons (dIx (o := oIxL) ix_list (dVar 0) dInt) dNil) PySem.boot_len))))).pt (dsCons (dAs (dCall c_law_number hr (by decide) takes0 (dCons (dIx (o := oIxL) ix_list (dIx (o := oIxL) ix_list (dVar 0) dInt) (dIx (o := oIxL) ix_list (dVar 0) dInt)) dNil)) (dgIx (dVar 0) dInt))
  (dsOne (dAs (dOp (o := oAdd) op_add (dIx (o := oIxL) ix_list (dVar 0) dInt) dInt) (dgIx (dVar 0) dInt)))) dsNil)
  (dsCons (dsIf (dqT (o := oEq) op_eq (dIx (o := oIxL) ix_list (dVar 0) dInt) dInt) (dsCons (dAs (dOp (o := oMod) op_mod (dTy (bb := bInt) call_int1 z_int (dCons (dOp (o := oAdd) op_add (dOp (o := oMul) op_mul (dIx (o := oIxL) ix_list (dVar 0) dInt) dInt) dInt) dNil) (by decide +kernel)) dInt) (dgIx (dVar 0) dInt))
  (dsOne (dRet (dOp (o := oMod) op_mod (dTy (bb := bInt) call_int1 z_int (dCons (dOp (o := oDiv) op_fdiv (dIx (o := oIxL) ix_list (dVar 0) dInt) dInt) dNil) (by decide +kernel)) (dVar 1))))) dsNil)
  (dsCons (dAs (dOp (o := oMod) op_mod (dTy (bb := bInt) call_int1 z_int (dCons (dIx (o := oIxL) ix_list (dVar 0) dInt) dNil) (by decide +kernel)) (dVar 1)) (dN 2 sc_law_draw.nd))
  (dsCons (dAs (dOp (o := oDiv) op_fdiv (dIx (o := oIxL) ix_list (dVar 0) dInt) (dVar 1)) (dgIx (dVar 0) dInt))
  (dsOne (dRet (dVar 2)))))))) vc_law_draw
def sp_law_tells : Pm := fun ds M Φ _ => ∃ a b, ds = [.bl a, .bl b] ∧ Φ (.bl (decide (a = b))) M
/-! _law_tells -/
abbrev s_law_tells : Stmt := top 10
abbrev nm_law_tells : List Str := ["actual", "due"]
theorem sc_law_tells : FnScope ["actual", "due"] ["actual", "due"] (defScope s_law_tells) := ⟨rfl, rfl, rfl, by decide +kernel, rfl, by decide +kernel, by decide +kernel⟩
def b_law_tells : XS K T :=
  (sSeq (sIf (qB (xVar 1)) (sRet (xOp oIsB (xVar 0) (xBl true))) sNx)
  (sRet (xOp oIsB (xVar 0) (xBl false))))
theorem len_law_tells : ∀ ds M Φ Ξ, sp_law_tells ds M Φ Ξ → ds.length = 2 := by
  rintro _ _ _ _ ⟨a, b, rfl, _⟩
  rfl
theorem vc_law_tells : ∀ ds M Φ Ξ, sp_law_tells ds M Φ Ξ → Wp (b_law_tells : XS K T) 2 ds M Φ := by
  rintro _ M Φ Ξ ⟨a, b, rfl, h⟩
  unfold Wp b_law_tells
  walk_at "vc"
  cases b with
  | true => exact h
  | false => exact h
theorem cl_law_tells (F : Df K mg "_law_tells" s_law_tells) : Cl P w K mg base T 1 "_law_tells" sp_law_tells :=
  cl0 F sc_law_tells b_law_tells (len_law_tells) (fun _ _ _ _ _ _ us hl => match us, hl with | [_, _], _ => rfl) (fun f cdv A outer s H E hr =>
  (dsCons (dsIf (dqB (dVar 1)) (dsOne (dRet (dCmp (o := oIsB) op_isBl (dVar 0) dBl))) dsNil)
  (dsOne (dRet (dCmp (o := oIsB) op_isBl (dVar 0) dBl))))) vc_law_tells
def sp_law_key : Pm := fun ds M Φ _ => ∃ st, ds = [.ref st] ∧ GS M st ∧ ∀ (x : Str) M', x.length ≤ 8 → GS M' st → Sam st M M' → Φ (.str x) M'
theorem Sam.gs {st p : Addr} {M : Mh} {m : MO} (hg : GS M st) (hp : M p = none) : p ≠ st ∧ GS (um M p m) st := by
  obtain ⟨q, e, v⟩ := hg
  have n : p ≠ st := fun z => by rw [← z, hp] at e; cases e
  exact ⟨n, q, by rw [um_ne (Ne.symm n)]; exact e, v⟩
theorem Sam.new {st p : Addr} {M M' : Mh} {m : MO} (hp : M p = none) (s : Sam st (um M p m) M') : Sam st M M' := fun a q e n => s a q (by rw [um_ne (fun z => by rw [z, hp] at e; cases e)]; exact e) n
theorem em_ne {M : Mh} {a p : Addr} (h : a ≠ p) : em M p a = M a := by unfold em; rw [if_neg h]
theorem GS.drop {st p : Addr} {M : Mh} (hg : GS M st) (n : p ≠ st) : GS (em M p) st := let ⟨q, e, v⟩ := hg; ⟨q, by rw [em_ne (Ne.symm n)]; exact e, v⟩
/-- the list at p, made since M, is given up -/
theorem Sam.drop {st p : Addr} {M M' : Mh} (hp : M p = none) (s : Sam st M M') : Sam st M (em M' p) := fun a q e n => by rw [em_ne (fun z => by rw [z, hp] at e; cases e)]; exact s a q e n
/-! _law_key -/
abbrev s_law_key : Stmt := top 11
abbrev nm_law_key : List Str := ["state"]
theorem sc_law_key : FnScope ["state"] ["state"] (defScope s_law_key) := ⟨rfl, rfl, rfl, by decide +kernel, rfl, by decide +kernel, by decide +kernel⟩
def b_law_key : XS K T :=
  (sRet (xOp oAddS (xOp oIxS (xStr "abcd") (xCall sp_law_draw (aCons (xVar 0) (aCons (xInt 4) aNil)))) (xOp oIxL (xLst (aCons (xStr "") (aCons (xStr "") (aCons (xStr "a") (aCons (xStr "z") aNil))))) (xCall sp_law_draw (aCons (xVar 0) (aCons (xInt 4) aNil))))))
theorem len_law_key : ∀ ds M Φ Ξ, sp_law_key ds M Φ Ξ → ds.length = 1 := by
  rintro _ _ _ _ ⟨st, rfl, _⟩
  rfl
theorem vc_law_key : ∀ ds M Φ Ξ, sp_law_key ds M Φ Ξ → Wp (b_law_key : XS K T) 1 ds M Φ := by
  rintro _ M Φ Ξ ⟨st, rfl, hg, h⟩
  unfold Wp b_law_key
  walk_at "vc"
  refine ⟨st, 4, rfl, hg, by decide, by decide, fun r M1 h0 h1 g1 s1 => ?_⟩
  walk_at "vc"
  obtain ⟨c, e1, _⟩ := atI_in (l := ("abcd" : Str).cps.toList) h0 h1
  refine ⟨by decide, ?_⟩
  rw [atS_of e1]
  refine ⟨st, 4, rfl, g1, by decide, by decide, fun r2 M2 h2 h3 g2 s2 => ?_⟩
  walk_at "vc"
  have s := s1.trans s2
  have h4 : r2 = 0 ∨ r2 = 1 ∨ r2 = 2 ∨ r2 = 3 := by omega
  rcases h4 with rfl | rfl | rfl | rfl
  · walk_at "vc"; exact ⟨Nat.le_of_ble_eq_true rfl, h _ M2 (Nat.le_of_ble_eq_true rfl) g2 s⟩
  · walk_at "vc"; exact ⟨Nat.le_of_ble_eq_true rfl, h _ M2 (Nat.le_of_ble_eq_true rfl) g2 s⟩
  · walk_at "vc"; exact ⟨Nat.le_of_ble_eq_true rfl, h _ M2 (Nat.le_of_ble_eq_true rfl) g2 s⟩
  · walk_at "vc"; exact ⟨Nat.le_of_ble_eq_true rfl, h _ M2 (Nat.le_of_ble_eq_true rfl) g2 s⟩
theorem cl_law_key (F : Df K mg "_law_key" s_law_key) (c_law_draw : Cl P w K mg base T 3 "_law_draw" sp_law_draw) : Cl P w K mg base T 4 "_law_key" sp_law_key :=
  cl0 F sc_law_key b_law_key (len_law_key) (fun _ _ _ _ _ _ us hl => match us, hl with | [_], _ => rfl) (fun f cdv A outer s H E hr =>
  (dsOne (dRet (dOp (o := oAddS) op_add_str (dIx (o := oIxS) ix_str dStr (dCall c_law_draw hr (by decide) takes0 (dCons (dVar 0) (dCons dInt dNil)))) (dIx (o := oIxL) ix_list (dLst (dCons dStr (dCons dStr (dCons dStr (dCons dStr dNil))))) (dCall c_law_draw hr (by decide) takes0 (dCons (dVar 0) (dCons dInt dNil)))))))) vc_law_key
def sp_law_cover : Pm := fun ds M Φ _ => ∃ st, ds = [.ref st] ∧ GS M st ∧ ∀ (x y : Str) M', x.length ≤ 8 → y.length ≤ 8 → GS M' st → Sam st M M' → Φ (.tup [.str x, .str y]) M'
/-! _law_cover -/
abbrev s_law_cover : Stmt := top 12
abbrev nm_law_cover : List Str := ["state", "first", "last"]
theorem sc_law_cover : FnScope ["state", "first", "last"] ["state"] (defScope s_law_cover) := ⟨rfl, rfl, rfl, by decide +kernel, rfl, by decide +kernel, by decide +kernel⟩
def b_law_cover : XS K T :=
  (sSeq (sAs (xCall sp_law_key (aCons (xVar 0) aNil)) (gN 1))
  (sSeq (sAs (xCall sp_law_key (aCons (xVar 0) aNil)) (gN 2))
  (sSeq (sIf (qT (xOp oEq (xCall sp_law_draw (aCons (xVar 0) (aCons (xInt 3) aNil))) (xInt 0))) (sRet (xTup (aCons (xVar 1) (aCons (xVar 1) aNil)))) sNx)
  (sSeq (sIf (qAnd (qT (xOp oLtS (xVar 2) (xVar 1))) (qT (xOp oGt (xCall sp_law_draw (aCons (xVar 0) (aCons (xInt 6) aNil))) (xInt 0)))) (sRet (xTup (aCons (xVar 2) (aCons (xVar 1) aNil)))) sNx)
  (sRet (xTup (aCons (xVar 1) (aCons (xVar 2) aNil))))))))
theorem len_law_cover : ∀ ds M Φ Ξ, sp_law_cover ds M Φ Ξ → ds.length = 1 := by
  rintro _ _ _ _ ⟨st, rfl, _⟩
  rfl
theorem vc_law_cover : ∀ ds M Φ Ξ, sp_law_cover ds M Φ Ξ → Wp (b_law_cover : XS K T) 3 ds M Φ := by
  rintro _ M Φ Ξ ⟨st, rfl, hg, h⟩
  unfold Wp b_law_cover
  walk_at "vc"
  refine ⟨st, rfl, hg, fun x M1 hx g1 s1 => ⟨st, rfl, g1, fun y M2 hy g2 s2 => ⟨st, 3, rfl, g2, by decide, by decide, fun r M3 _ _ g3 s3 => ?_⟩⟩⟩
  walk_at "vc"
  have s := (s1.trans s2).trans s3
  refine ite2 (fun _ => h x x M3 hx hx g3 s) (fun _ => ite2 (fun _ => ⟨st, 6, rfl, g3, by decide, by decide, fun r2 M4 _ _ g4 s4 => ?_⟩) (fun _ => h x y M3 hx hy g3 s))
  walk_at "vc"
  exact ite2 (fun _ => h y x M4 hy hx g4 (s.trans s4)) (fun _ => h x y M4 hx hy g4 (s.trans s4))
theorem cl_law_cover (F : Df K mg "_law_cover" s_law_cover) (c_law_draw : Cl P w K mg base T 3 "_law_draw" sp_law_draw) (c_law_key : Cl P w K mg base T 4 "_law_key" sp_law_key) : Cl P w K mg base T 5 "_law_cover" sp_law_cover :=
  cl0 F sc_law_cover b_law_cover (len_law_cover) (fun _ _ _ _ _ _ us hl => match us, hl with | [_], _ => rfl) (fun f cdv A outer s H E hr =>
  (dsCons (dAs (dCall c_law_key hr (by decide) takes0 (dCons (dVar 0) dNil)) (dN 1 sc_law_cover.nd))
  (dsCons (dAs (dCall c_law_key hr (by decide) takes0 (dCons (dVar 0) dNil)) (dN 2 sc_law_cover.nd))
  (dsCons (dsIf (dqT (o := oEq) op_eq (dCall c_law_draw hr (by decide) takes0 (dCons (dVar 0) (dCons dInt dNil))) dInt) (dsOne (dRet (dTup (dCons (dVar 1) (dCons (dVar 1) dNil))))) dsNil)
  (dsCons (dsIf ((dwAnd (dqT (o := oLtS) op_lt_str (dVar 2) (dVar 1)) (dw1A (dqT (o := oGt) op_gt (dCall c_law_draw hr (by decide) takes0 (dCons (dVar 0) (dCons dInt dNil))) dInt)))).pt (dsOne (dRet (dTup (dCons (dVar 2) (dCons (dVar 1) dNil))))) dsNil)
  (dsOne (dRet (dTup (dCons (dVar 1) (dCons (dVar 2) dNil)))))))))) vc_law_cover
def encO : Option Int → D | none => .non | some i => .int i
def encW (p : Str × Option Int) : D := .tup [.str p.1, encO p.2]
/-- a group's writes -/
def GrD (d : D) : Prop := ∃ g : List (Str × Option Int), d = .tup (g.map encW) ∧ g.length ≤ 6 ∧ ∀ p ∈ g, p.1.length ≤ 8
def sp_law_group : Pm := fun ds M Φ _ => ∃ st, ds = [.ref st] ∧ GS M st ∧ ∀ (g : D) M', GrD g → GS M' st → Sam st M M' → Φ g M'
theorem scL_txts : ∀ xs : List Str, scL (xs.map D.str) = some (xs.map V.str)
  | [] => rfl
  | x :: xs => by show (match scD (.str x), scL (xs.map D.str) with | some v, some vs => some (v :: vs) | _, _ => none) = _; rw [scL_txts xs]; rfl
theorem map_get {α : Type} {f : α → D} {l : List α} {i : Nat} {d : D} (h : (l.map f)[i]? = some d) : ∃ a, l[i]? = some a ∧ d = f a := by
  rw [List.getElem?_map] at h
  cases e : l[i]? with
  | none => rw [e] at h; cases h
  | some a => rw [e] at h; cases h; exact ⟨a, rfl, rfl⟩
/-! _law_group -/
abbrev s_law_group : Stmt := top 13
abbrev nm_law_group : List Str := ["state", "writes", "k", "key", "other", "value"]
theorem sc_law_group : FnScope ["state", "writes", "k", "key", "other", "value"] ["state"] (defScope s_law_group) := ⟨rfl, rfl, rfl, by decide +kernel, rfl, by decide +kernel, by decide +kernel⟩
def b_law_group : XS K T :=
  (sSeq (sAs (xLstM aNil) (gN 1))
  (sSeq (sFor (iL (xB bSortS (aCons (xLc (iR1 (xOp oAdd (xInt 1) (xCall sp_law_draw (aCons (xVar 0) (aCons (xInt 3) aNil))))) (.one 2) qYes (xCall sp_law_key (aCons (xVar 0) aNil))) aNil))) (gN 3)
    (sIf (qT (xOp (oIn true) (xVar 3) (xLc (iL (xVar 1)) (.many [4, 5]) qYes (xVar 4)))) (sEx (xApp (xVar 1) (xTup (aCons (xVar 3) (aCons (xIf (qT (xOp oEq (xCall sp_law_draw (aCons (xVar 0) (aCons (xInt 3) aNil))) (xInt 0))) xNon (xOp oSub (xCall sp_law_draw (aCons (xVar 0) (aCons (xInt 9) aNil))) (xInt 4))) aNil))))) sNx))
  (sRet (xB bTupL (aCons (xVar 1) aNil)))))
theorem len_law_group : ∀ ds M Φ Ξ, sp_law_group ds M Φ Ξ → ds.length = 1 := by
  rintro _ _ _ _ ⟨st, rfl, _⟩
  rfl
theorem vc_law_group : ∀ ds M Φ Ξ, sp_law_group ds M Φ Ξ → Wp (b_law_group : XS K T) 6 ds M Φ := by
  rintro _ M Φ Ξ ⟨st, rfl, hg, h⟩
  unfold Wp b_law_group
  walk_at "vc"
  intro p hp
  obtain ⟨np, hg'⟩ := Sam.gs (m := .lst []) hg hp
  refine ⟨st, 3, rfl, hg', by decide, by decide, fun r M1 h0 h1 g1 s1 => ?_⟩
  walk_at "vc"
  have e1 : M1 p = some (.lst []) := s1 p _ um_same np
  refine ⟨by omega, by omega, by omega, fun i acc M' => GS M' st ∧ Sam st M1 M' ∧ ∃ xs : List Str, acc = xs.map D.str ∧ xs.length = i ∧ ∀ x ∈ xs, x.length ≤ 8, ⟨g1, Sam.refl _, [], rfl, rfl, by simp⟩, fun _ _ _ _ => trivial, ?_, ?_⟩
  · rintro i d acc M' _ ⟨g, s, xs, rfl, hl, h8⟩
    exact ⟨st, rfl, g, fun x M2 hx g2 s2 => ⟨g2, s.trans s2, xs ++ [x], by simp, by simp [hl], fun y hy => by
      rcases List.mem_append.mp hy with q | q
      · exact h8 y q
      · rw [List.mem_singleton.mp q]; exact hx⟩⟩
  · rintro acc M' ⟨g, s, xs, rfl, hl, h8⟩
    walk_at "vc"
    refine ⟨by omega, fun ys hperm _ => ?_⟩
    have e2 : M' p = some (.lst []) := s p _ e1 np
    have hyl : ys.length = xs.length := hperm.length_eq
    have hy8 : ∀ y ∈ ys, y.length ≤ 8 := fun y hy => h8 y (hperm.mem_iff.mp hy)
    refine ⟨fun i ρ' M2 => ∃ o1 o2 o3 o4 ws, ρ' = [some (.ref st), some (.ref p), o1, o2, o3, o4] ∧ GS M2 st ∧ Sam st M M2 ∧ M2 p = some (.lst (ws.map encW)) ∧ (∀ q ∈ ws, q.1.length ≤ 8) ∧ ws.length ≤ i,
      ⟨none, none, none, none, [], rfl, g, (s1.trans s).new hp, e2, by simp, Nat.le_refl _⟩, fun _ _ _ _ => trivial, ?_, ?_⟩
    · rintro i d ρ' M2 hd ⟨o1, o2, o3, o4, ws, rfl, g2, s2, e3, h3, hw⟩
      obtain ⟨y, ey, rfl⟩ := map_get hd
      have hi : i < ys.length := (List.getElem?_eq_some_iff.mp ey).1
      have hy : y.length ≤ 8 := hy8 y (List.mem_of_getElem? ey)
      walk_at "vc"
      simp only [mL_of e3]
      refine ⟨by rw [List.length_map]; omega, fun j acc M3 => M3 = M2 ∧ ∃ us : List Str, acc = us.map D.str, ⟨rfl, [], rfl⟩, fun _ _ _ z => by rw [z.1]; exact e3, ?_, ?_⟩
      · rintro j d acc M3 hj ⟨rfl, us, rfl⟩
        obtain ⟨q, eq, rfl⟩ := map_get hj
        unfold encW
        walk_at "vc"
        exact ⟨us ++ [q.1], by simp⟩
      · rintro acc M3 ⟨rfl, us, rfl⟩
        rw [asSs_of (x := .str y) (v := .str y) rfl (scL_txts us)]
        walk_at "vc"
        refine ite2 (fun _ => ?_) (fun _ => ⟨_, _, _, _, ws, rfl, g2, s2, e3, h3, by omega⟩)
        simp only [mL_of e3]
        refine ⟨st, 3, rfl, g2, by decide, by decide, fun r2 M4 _ _ g4 s4 => ?_⟩
        walk_at "vc"
        have e4 : M4 p = some (.lst (ws.map encW)) := s4 p _ e3 np
        have fin : ∀ (o : Option Int) (M5 : Mh), GS M5 st → Sam st M4 M5 → mL M5 p fun ds => ds.length < 100000 ∧ ∃ q1 q2 q3 q4 ws', [some (D.ref st), some (D.ref p), o1, some (D.str y), o3, o4] = [some (D.ref st), some (D.ref p), q1, q2, q3, q4] ∧ GS (um M5 p (.lst (ds ++ [encW (y, o)]))) st ∧ Sam st M (um M5 p (.lst (ds ++ [encW (y, o)]))) ∧
            um M5 p (.lst (ds ++ [encW (y, o)])) p = some (.lst (List.map encW ws')) ∧ (∀ q ∈ ws', q.1.length ≤ 8) ∧ ws'.length ≤ i + 1 := by
          intro o M5 g5 s5
          rw [mL_of (s5 p _ e4 np)]
          refine ⟨by rw [List.length_map]; omega, _, _, _, _, ws ++ [(y, o)], rfl, ?_, ?_, by rw [um_same]; simp, ?_, by rw [List.length_append]; simp; omega⟩
          · obtain ⟨q, eq, v⟩ := g5
            exact ⟨q, by rw [um_ne (Ne.symm np)]; exact eq, v⟩
          · exact fun a q e n => by rw [um_ne (fun z => by rw [z, hp] at e; cases e)]; exact ((s2.trans s4).trans s5) a q e n
          · intro q hq
            rcases List.mem_append.mp hq with z | z
            · exact h3 q z
            · rw [List.mem_singleton.mp z]; exact hy
        refine ite2 (fun _ => fin none M4 g4 (Sam.refl _)) (fun _ => ⟨st, 9, rfl, g4, by decide, by decide, fun r3 M5 _ _ g5 s5 => ?_⟩)
        walk_at "vc"
        exact fin (some (r3 - 4)) M5 g5 s5
    · rintro ρ' M2 ⟨o1, o2, o3, o4, ws, rfl, g2, s2, e3, h3, hw⟩
      walk_at "vc"
      simp only [mL_of e3]
      exact h _ M2 ⟨ws, rfl, by rw [List.length_map] at hw; omega, h3⟩ g2 s2
theorem cl_law_group (F : Df K mg "_law_group" s_law_group) (z_range : mg "range" = none) (z_sorted : mg "sorted" = none) (z_tuple : mg "tuple" = none) (c_law_draw : Cl P w K mg base T 3 "_law_draw" sp_law_draw) (c_law_key : Cl P w K mg base T 4 "_law_key" sp_law_key) : Cl P w K mg base T 5 "_law_group" sp_law_group :=
  cl0 F sc_law_group b_law_group (len_law_group) (fun _ _ _ _ _ _ us hl => match us, hl with | [_], _ => rfl) (fun f cdv A outer s H E hr =>
  (dsCons (dAs (dLstM dNil) (dN 1 sc_law_group.nd))
  (dsCons (dFor PassesOwn.never rfl (diL (dB (bb := bSortS) cr_sortedS z_sorted (dCons (dLc rfl sc_law_group.nd (blkOk_by (N := nm_law_group) (sc := defScope s_law_group) (own := [("k", 2)]) (by decide +kernel)) (diR1 z_range (dOp (o := oAdd) op_add dInt (dCall c_law_draw hr (by decide) takes0 (dCons (dVar 0) (dCons dInt dNil))))) rfl (fun _ _ _ _ _ => (cgOne 2 sc_law_group.nd)) (fun _ _ _ _ _ => dYes) (fun _ _ _ _ _ => (dCall c_law_key hr (by decide) takes0 (dCons (dVar 0) dNil)))) dNil) (by decide +kernel))) (dN 3 sc_law_group.nd)
    (dsOne (dsIf (dqT (o := (oIn true)) op_notIn_seq (dVar 3) (dLc rfl sc_law_group.nd (blkOk_by (N := nm_law_group) (sc := defScope s_law_group) (own := [("other", 4), ("value", 5)]) (by decide +kernel)) (diL (dVar 1)) rfl (fun _ _ _ _ _ => (cgMany rfl (cgsC 4 sc_law_group.nd (cgsC 5 sc_law_group.nd cgsN)))) (fun _ _ _ _ _ => dYes) (fun _ _ _ _ _ => (dVar 4)))) (dsOne (dEx (dApp (dVar 1) (dTup (dCons (dVar 3) (dCons (dIf (dqT (o := oEq) op_eq (dCall c_law_draw hr (by decide) takes0 (dCons (dVar 0) (dCons dInt dNil))) dInt) dNon (dOp (o := oSub) op_sub (dCall c_law_draw hr (by decide) takes0 (dCons (dVar 0) (dCons dInt dNil))) dInt)) dNil)))))) dsNil)))
  (dsOne (dRet (dTy (bb := bTupL) call_tuple_of z_tuple (dCons (dVar 1) dNil) (by decide +kernel))))))) vc_law_group
/-- a commit, a time below 1000 -/
def CmD (d : D) : Prop := ∃ (t : Int) (g : D), d = .tup [.int t, g] ∧ 0 ≤ t ∧ t ≤ 1000 ∧ GrD g
def sp_law_ledger : Pm := fun ds M Φ _ => ∃ st n, ds = [.ref st, .int n] ∧ GS M st ∧ 0 ≤ n ∧ n ≤ 20 ∧ ∀ (L : List D) M', (∀ d ∈ L, CmD d) → (L.length : Int) = n → GS M' st → Sam st M M' → Φ (.lst L) M'
/-! _law_ledger -/
abbrev s_law_ledger : Stmt := top 14
abbrev nm_law_ledger : List Str := ["state", "count", "ledger", "time", "k"]
theorem sc_law_ledger : FnScope ["state", "count", "ledger", "time", "k"] ["state", "count"] (defScope s_law_ledger) := ⟨rfl, rfl, rfl, by decide +kernel, rfl, by decide +kernel, by decide +kernel⟩
def b_law_ledger : XS K T :=
  (sSeq (sAs (xLstM aNil) (gN 2))
  (sSeq (sAs (xCall sp_law_draw (aCons (xVar 0) (aCons (xInt 3) aNil))) (gN 3))
  (sSeq (sFor (iR1 (xVar 1)) (gN 4)
    (sSeq (sEx (xApp (xVar 2) (xTup (aCons (xVar 3) (aCons (xCall sp_law_group (aCons (xVar 0) aNil)) aNil)))))
  (sAs (xOp oAdd (xVar 3) (xCall sp_law_draw (aCons (xVar 0) (aCons (xInt 4) aNil)))) (gN 3))))
  (sFrz 2 (sRet (xVar 2))))))
theorem len_law_ledger : ∀ ds M Φ Ξ, sp_law_ledger ds M Φ Ξ → ds.length = 2 := by
  rintro _ _ _ _ ⟨st, n, rfl, _⟩
  rfl
theorem vc_law_ledger : ∀ ds M Φ Ξ, sp_law_ledger ds M Φ Ξ → Wp (b_law_ledger : XS K T) 5 ds M Φ := by
  rintro _ M Φ Ξ ⟨st, n, rfl, hg, h0, h1, h⟩
  unfold Wp b_law_ledger
  walk_at "vc"
  intro p hp
  obtain ⟨np, hg'⟩ := Sam.gs (m := .lst []) hg hp
  refine ⟨st, 3, rfl, hg', by decide, by decide, fun r M1 hr0 hr1 g1 s1 => ?_⟩
  walk_at "vc"
  have e1 : M1 p = some (.lst []) := s1 p _ um_same np
  refine ⟨by omega, by omega, fun i ρ' M2 => ∃ o L t, ρ' = [some (.ref st), some (.int n), some (.ref p), some (.int t), o] ∧ GS M2 st ∧ Sam st M M2 ∧ M2 p = some (.lst L) ∧ (∀ d ∈ L, CmD d) ∧ L.length = i ∧ 0 ≤ t ∧ t ≤ 3 + 4 * i,
    ⟨none, [], r, rfl, g1, s1.new hp, e1, by simp, rfl, hr0, by omega⟩, fun _ _ _ _ => trivial, ?_, ?_⟩
  · rintro i d ρ' M2 hd ⟨o, L, t, rfl, g2, s2, e2, hL, hl, ht0, ht1⟩
    obtain ⟨hi, rfl⟩ := rngD_get hd
    walk_at "vc"
    simp only [mL_of e2]
    refine ⟨st, rfl, g2, fun g M3 hG g3 s3 => ?_⟩
    walk_at "vc"
    have e3 : M3 p = some (.lst L) := s3 p _ e2 np
    rw [mL_of e3]
    refine ⟨by omega, ?_⟩
    have g3' : GS (um M3 p (.lst (L ++ [.tup [.int t, g]]))) st := by
      obtain ⟨q, eq, v⟩ := g3
      exact ⟨q, by rw [um_ne (Ne.symm np)]; exact eq, v⟩
    refine ⟨st, 4, rfl, g3', by decide, by decide, fun r2 M4 hr2 hr3 g4 s4 => ?_⟩
    walk_at "vc"
    refine ⟨_, L ++ [.tup [.int t, g]], t + r2, rfl, g4, ?_, s4 p _ um_same np, ?_, by simp [hl], by omega, by omega⟩
    · exact fun a q e n => s4 a q (by rw [um_ne (fun z => by rw [z, hp] at e; cases e)]; exact (s2.trans s3) a q e n) n
    · intro d hd
      rcases List.mem_append.mp hd with z | z
      · exact hL d z
      · rw [List.mem_singleton.mp z]; exact ⟨t, g, rfl, ht0, by omega, hG⟩
  · rintro ρ' M2 ⟨o, L, t, rfl, g2, s2, e2, hL, hl, ht0, ht1⟩
    walk_at "vc"
    rw [mL_of e2]
    walk_at "vc"
    exact h L _ hL (by omega) (g2.drop np) (s2.drop hp)
theorem cl_law_ledger (F : Df K mg "_law_ledger" s_law_ledger) (z_range : mg "range" = none) (c_law_draw : Cl P w K mg base T 3 "_law_draw" sp_law_draw) (c_law_group : Cl P w K mg base T 5 "_law_group" sp_law_group) : Cl P w K mg base T 6 "_law_ledger" sp_law_ledger :=
  cl0 F sc_law_ledger b_law_ledger (len_law_ledger) (fun _ _ _ _ _ _ us hl => match us, hl with | [_, _], _ => rfl) (fun f cdv A outer s H E hr =>
  (dsCons (dAs (dLstM dNil) (dN 2 sc_law_ledger.nd))
  (dsCons (dAs (dCall c_law_draw hr (by decide) takes0 (dCons (dVar 0) (dCons dInt dNil))) (dN 3 sc_law_ledger.nd))
  (dsCons (dFor PassesOwn.never rfl (diR1 z_range (dVar 1)) (dN 4 sc_law_ledger.nd)
    (dsCons (dEx (dApp (dVar 2) (dTup (dCons (dVar 3) (dCons (dCall c_law_group hr (by decide) takes0 (dCons (dVar 0) dNil)) dNil)))))
  (dsOne (dAs (dOp (o := oAdd) op_add (dVar 3) (dCall c_law_draw hr (by decide) takes0 (dCons (dVar 0) (dCons dInt dNil)))) (dN 3 sc_law_ledger.nd)))))
  (dFz (dsOne (dRet (dVar 2)))))))) vc_law_ledger
structure Lz where
  a0 : D
  a1 : D
  a2 : D
  a3 : D
  u : Int
  a5 : D
  a6 : D
  b : Bool
def encZ (z : Lz) : D := .tup [z.a0, z.a1, z.a2, z.a3, .int z.u, z.a5, z.a6, .bl z.b]
def actZ (z : Lz) (t : Int) : Bool := !z.b && decide (t < z.u)
def sp_is_active : Pm := fun ds M Φ _ => ∃ z t, ds = [encZ z, .int t] ∧ Φ (.bl (actZ z t)) M
/-! is_active -/
abbrev s_is_active : Stmt := top 1
abbrev nm_is_active : List Str := ["lease", "time", "_", "until", "is_returned"]
theorem sc_is_active : FnScope ["lease", "time", "_", "until", "is_returned"] ["lease", "time"] (defScope s_is_active) := ⟨rfl, rfl, rfl, by decide +kernel, rfl, by decide +kernel, by decide +kernel⟩
def b_is_active : XS K T :=
  (sSeq (sAs (xVar 0) (gT 8 (gsC (gN 2) (gsC (gN 2) (gsC (gN 2) (gsC (gN 2) (gsC (gN 3) (gsC (gN 2) (gsC (gN 2) (gsC (gN 4) gsN))))))))))
  (sRet (xAnd (xNot (xVar 4)) (xOp oLt (xVar 1) (xVar 3)))))
theorem len_is_active : ∀ ds M Φ Ξ, sp_is_active ds M Φ Ξ → ds.length = 2 := by
  rintro _ _ _ _ ⟨z, t, rfl, _⟩
  rfl
theorem vc_is_active : ∀ ds M Φ Ξ, sp_is_active ds M Φ Ξ → Wp (b_is_active : XS K T) 5 ds M Φ := by
  rintro _ M Φ Ξ ⟨z, t, rfl, h⟩
  unfold Wp b_is_active
  walk_at "vc"
  unfold encZ
  walk_at "vc"
  unfold actZ at h
  cases e : z.b with
  | true => rw [e] at h; exact h
  | false => rw [e] at h; exact h
theorem cl_is_active (F : Df K mg "is_active" s_is_active) : Cl P w K mg base T 1 "is_active" sp_is_active :=
  cl0 F sc_is_active b_is_active (len_is_active) (fun _ _ _ _ _ _ us hl => match us, hl with | [_, _], _ => rfl) (fun f cdv A outer s H E hr =>
  (dsCons (dAs (dVar 0) (dgT rfl (dgC (dN 2 sc_is_active.nd) (dgC (dN 2 sc_is_active.nd) (dgC (dN 2 sc_is_active.nd) (dgC (dN 2 sc_is_active.nd) (dgC (dN 3 sc_is_active.nd) (dgC (dN 2 sc_is_active.nd) (dgC (dN 2 sc_is_active.nd) (dgC (dN 4 sc_is_active.nd) dgN))))))))))
  (dsOne (dRet (dAnd (dNot (dVar 4)) (dOne (dCmp (o := oLt) op_lt (dVar 1) (dVar 3)))))))) vc_is_active
def tmD (d : D) : Int := match d with | .tup (.int t :: _) => t | _ => 0
def hadC (L : List D) (t m : Int) : Bool := decide (0 ≤ m ∧ m ≤ L.length) && (!(decide (0 < m) && decide (t < tmD (L.getD (m - 1).toNat .non))) && (decide (m = L.length) || decide (t ≤ tmD (L.getD m.toNat .non))))
theorem cm_at {L : List D} (hL : ∀ d ∈ L, CmD d) {m : Int} (h0 : 0 ≤ m) (h1 : m < L.length) : ∃ t g, atI L m = some (.tup [.int t, g]) ∧ tmD (L.getD m.toNat .non) = t := by
  obtain ⟨c, e1, e2⟩ := atI_in h0 h1
  obtain ⟨t, g, rfl, _⟩ := hL c (List.mem_of_getElem? e2)
  refine ⟨t, g, e1, ?_⟩
  rw [List.getD_eq_getElem?_getD, e2]
  rfl
theorem had_no {L : List D} {t m : Int} (h : ¬ (0 ≤ m ∧ m ≤ L.length)) : hadC L t m = false := by unfold hadC; rw [decide_eq_false h]; rfl
theorem had_yes {L : List D} {t m : Int} (h : 0 ≤ m ∧ m ≤ L.length) : hadC L t m = (!(decide (0 < m) && decide (t < tmD (L.getD (m - 1).toNat .non))) && (decide (m = L.length) || decide (t ≤ tmD (L.getD m.toNat .non)))) := by unfold hadC; rw [decide_eq_true h]; rfl
def sp_had_commits : Pm := fun ds M Φ _ => ∃ L t m, ds = [.lst L, .int t, .int m] ∧ (∀ d ∈ L, CmD d) ∧ Φ (.bl (hadC L t m)) M
/-! _had_commits -/
abbrev s_had_commits : Stmt := top 4
abbrev nm_had_commits : List Str := ["ledger", "time", "moment"]
theorem sc_had_commits : FnScope ["ledger", "time", "moment"] ["ledger", "time", "moment"] (defScope s_had_commits) := ⟨rfl, rfl, rfl, by decide +kernel, rfl, by decide +kernel, by decide +kernel⟩
def b_had_commits : XS K T :=
  (sSeq (sIf (qNot (qT (xCh oLe oLe (xInt 0) (xVar 2) (xB bLen (aCons (xVar 0) aNil))))) (sRet (xBl false)) sNx)
  (sSeq (sIf (qAnd (qT (xOp oGt (xVar 2) (xInt 0))) (qT (xOp oGt (xOp oIxT (xOp oIxL (xVar 0) (xOp oSub (xVar 2) (xInt 1))) (xInt 0)) (xVar 1)))) (sRet (xBl false)) sNx)
  (sRet (xOr (xOp oEq (xVar 2) (xB bLen (aCons (xVar 0) aNil))) (xOp oGe (xOp oIxT (xOp oIxL (xVar 0) (xVar 2)) (xInt 0)) (xVar 1))))))
theorem len_had_commits : ∀ ds M Φ Ξ, sp_had_commits ds M Φ Ξ → ds.length = 3 := by
  rintro _ _ _ _ ⟨L, t, m, rfl, _⟩
  rfl
theorem vc_had_commits : ∀ ds M Φ Ξ, sp_had_commits ds M Φ Ξ → Wp (b_had_commits : XS K T) 3 ds M Φ := by
  rintro _ M Φ Ξ ⟨L, t, m, rfl, hL, h⟩
  unfold Wp b_had_commits
  walk_at "vc"
  have last : 0 ≤ m → m ≤ L.length → Φ (.bl (decide (m = (L.length : Int)) || decide (t ≤ tmD (L.getD m.toNat .non)))) M → if m = (L.length : Int) then Φ (.bl true) M else at_ L m fun d => asT d fun ds => at_ ds 0 fun d => asI d fun i => Φ (.bl (decide (t ≤ i))) M := fun h0 h1 hh => by
    refine ite2 (fun e => ?_) (fun e => ?_)
    · rw [decide_eq_true e] at hh; exact hh
    · obtain ⟨t2, g, e1, e2⟩ := cm_at hL h0 (by omega)
      rw [at_of e1]
      walk_at "vc"
      rw [decide_eq_false e, e2] at hh
      exact hh
  refine ite2 (fun h0 => ?_) (fun h0 => ?_)
  · refine ite2 (fun h1 => ?_) (fun h1 => ?_)
    · rw [had_no (fun z => h1 z.2)] at h; exact h
    · have h1 : m ≤ (L.length : Int) := by omega
      rw [had_yes ⟨h0, h1⟩] at h
      refine ite2 (fun h2 => ?_) (fun h2 => ?_)
      · obtain ⟨t2, g, e1, e2⟩ := cm_at hL (m := m - 1) (by omega) (by omega)
        rw [at_of e1]
        walk_at "vc"
        rw [e2, decide_eq_true h2] at h
        refine ite2 (fun h3 => ?_) (fun h3 => ?_)
        · rw [decide_eq_true h3] at h; exact h
        · rw [decide_eq_false h3] at h; exact last h0 h1 h
      · rw [decide_eq_false h2] at h; exact last h0 h1 h
  · rw [had_no (fun z => h0 z.1)] at h; exact h
theorem cl_had_commits (F : Df K mg "_had_commits" s_had_commits) (z_len : mg "len" = none) : Cl P w K mg base T 1 "_had_commits" sp_had_commits :=
  cl0 F sc_had_commits b_had_commits (len_had_commits) (fun _ _ _ _ _ _ us hl => match us, hl with | [_, _, _], _ => rfl) (fun f cdv A outer s H E hr =>
  (dsCons (dsIf (dqNot (dqCh (o := oLe) (o' := oLe) op_le op_le dInt (dVar 2) (dB (bb := bLen) call_len_seq z_len (dCons (dVar 0) dNil) PySem.boot_len))) (dsOne (dRet dBl)) dsNil)
  (dsCons (dsIf ((dwAnd (dqT (o := oGt) op_gt (dVar 2) dInt) (dw1A (dqT (o := oGt) op_gt (dIx (o := oIxT) ix_tup (dIx (o := oIxL) ix_list (dVar 0) (dOp (o := oSub) op_sub (dVar 2) dInt)) dInt) (dVar 1))))).pt (dsOne (dRet dBl)) dsNil)
  (dsOne (dRet (dOr (dCmp (o := oEq) op_eq (dVar 2) (dB (bb := bLen) call_len_seq z_len (dCons (dVar 0) dNil) PySem.boot_len)) (dOne (dCmp (o := oGe) op_ge (dIx (o := oIxT) ix_tup (dIx (o := oIxL) ix_list (dVar 0) (dVar 2)) dInt) (dVar 1))))))))) vc_had_commits
def isT (L : List D) (S : List Lz) (t : Int) (s : Str) (is : List Int) : Bool := match is with
  | [a, b] => decide (s = "at") && (decide (a ≤ t) && hadC L a b)
  | [i] => decide (s = "lease") && (decide (0 ≤ i ∧ i < S.length) && (match S[i.toNat]? with | some z => actZ z t | none => false))
  | _ => false
def sp_is_true : Pm := fun ds M Φ _ => ∃ (L : List D) (S : List Lz) (t : Int) (s : Str) (is : List Int), ds = [.lst L, .lst (S.map encZ), .int t, .tup (.str s :: is.map D.int)] ∧ (∀ d ∈ L, CmD d) ∧ Φ (.bl (isT L S t s is)) M
theorem lz_at {S : List Lz} {i : Int} (h0 : 0 ≤ i) (h1 : i < S.length) : ∃ z, S[i.toNat]? = some z ∧ atI (S.map encZ) i = some (encZ z) := by
  obtain ⟨c, e1, e2⟩ := atI_in (l := S.map encZ) h0 (by rw [List.length_map]; exact h1)
  obtain ⟨z, e3, rfl⟩ := map_get e2
  exact ⟨z, e3, e1⟩
/-! is_true -/
abbrev s_is_true : Stmt := top 3
abbrev nm_is_true : List Str := ["ledger", "leases", "time", "statement", "_", "then", "moment", "index"]
theorem sc_is_true : FnScope ["ledger", "leases", "time", "statement", "_", "then", "moment", "index"] ["ledger", "leases", "time", "statement"] (defScope s_is_true) := ⟨rfl, rfl, rfl, by decide +kernel, rfl, by decide +kernel, by decide +kernel⟩
def b_is_true : XS K T :=
  (sSeq (sIf (qAnd (qT (xOp oEq (xOp oIxT (xVar 3) (xInt 0)) (xStr "at"))) (qT (xOp oEq (xB bLen (aCons (xVar 3) aNil)) (xInt 3)))) (sSeq (sAs (xVar 3) (gT 3 (gsC (gN 4) (gsC (gN 5) (gsC (gN 6) gsN)))))
  (sRet (xAnd (xOp oLe (xVar 5) (xVar 2)) (xCall sp_had_commits (aCons (xVar 0) (aCons (xVar 5) (aCons (xVar 6) aNil))))))) sNx)
  (sSeq (sIf (qAnd (qT (xOp oEq (xOp oIxT (xVar 3) (xInt 0)) (xStr "lease"))) (qT (xOp oEq (xB bLen (aCons (xVar 3) aNil)) (xInt 2)))) (sSeq (sAs (xOp oIxT (xVar 3) (xInt 1)) (gN 7))
  (sRet (xAnd (xCh oLe oLt (xInt 0) (xVar 7) (xB bLen (aCons (xVar 1) aNil))) (xCall sp_is_active (aCons (xOp oIxL (xVar 1) (xVar 7)) (aCons (xVar 2) aNil)))))) sNx)
  (sRet (xBl false))))
theorem len_is_true : ∀ ds M Φ Ξ, sp_is_true ds M Φ Ξ → ds.length = 4 := by
  rintro _ _ _ _ ⟨L, S, t, s, is, rfl, _⟩
  rfl
theorem vc_is_true : ∀ ds M Φ Ξ, sp_is_true ds M Φ Ξ → Wp (b_is_true : XS K T) 8 ds M Φ := by
  rintro _ M Φ Ξ ⟨L, S, t, s, is, rfl, hL, h⟩
  unfold Wp b_is_true
  walk_at "vc"
  have no : ∀ b, b = false → isT L S t s is = b → Φ (.bl false) M := fun b e1 e2 => by rw [e2, e1] at h; exact h
  match is, h, no with
  | [], h, _ =>
    walk_at "vc"
    exact ite2 (fun _ => ite2 (fun z => absurd z (by decide)) (fun _ => ite2 (fun _ => ite2 (fun z => absurd z (by decide)) (fun _ => h)) (fun _ => h))) (fun _ => ite2 (fun _ => ite2 (fun z => absurd z (by decide)) (fun _ => h)) (fun _ => h))
  | [a, b], h, _ =>
    walk_at "vc"
    have h' : Φ (.bl (decide (s = "at") && (decide (a ≤ t) && hadC L a b))) M := h
    refine ite2 (fun e => ?_) (fun e => ?_)
    · rw [decide_eq_true e] at h'
      refine ite2 (fun _ => ?_) (fun z => absurd rfl z)
      refine ite2 (fun e2 => ?_) (fun e2 => ?_)
      · rw [decide_eq_true e2] at h'; exact ⟨L, a, b, rfl, hL, h'⟩
      · rw [decide_eq_false e2] at h'; exact h'
    · rw [decide_eq_false e] at h'
      exact ite2 (fun _ => ite2 (fun z => absurd z (by decide)) (fun _ => h')) (fun _ => h')
  | [i], h, _ =>
    walk_at "vc"
    have h' : Φ (.bl (decide (s = "lease") && (decide (0 ≤ i ∧ i < S.length) && (match S[i.toNat]? with | some z => actZ z t | none => false)))) M := h
    have main : if s = Str.ofString "lease" then if ((1 : Nat) + 1 : Int) = 2 then if 0 ≤ i then if i < ((S.map encZ).length : Int) then at_ (S.map encZ) i fun d => sp_is_active [d, D.int t] M Φ fun cls dd M2 => False else Φ (D.bl false) M else Φ (D.bl false) M else Φ (D.bl false) M else Φ (D.bl false) M := by
      refine ite2 (fun e => ?_) (fun e => ?_)
      · rw [decide_eq_true (show s = "lease" from e)] at h'
        refine ite2 (fun _ => ?_) (fun z => absurd rfl z)
        refine ite2 (fun e0 => ?_) (fun e0 => ?_)
        · refine ite2 (fun e1 => ?_) (fun e1 => ?_)
          · rw [List.length_map] at e1
            obtain ⟨z, e2, e3⟩ := lz_at e0 e1
            rw [decide_eq_true ⟨e0, e1⟩, e2] at h'
            rw [at_of e3]
            exact ⟨z, t, rfl, h'⟩
          · rw [List.length_map] at e1
            rw [decide_eq_false (fun z => e1 z.2)] at h'; exact h'
        · rw [decide_eq_false (fun z => e0 z.1)] at h'; exact h'
      · rw [decide_eq_false (show ¬ s = "lease" from e)] at h'; exact h'
    exact ite2 (fun _ => ite2 (fun z => absurd z (by decide)) (fun _ => main)) (fun _ => main)
  | a :: b :: c :: r, h, _ =>
    walk_at "vc"
    have l1 : ∀ k : Nat, ¬ (((List.map D.int r).length + 1 + 1 + 1 + 1 : Nat) : Int) = 3 := fun _ z => by omega
    have l2 : ¬ (((List.map D.int r).length + 1 + 1 + 1 + 1 : Nat) : Int) = 2 := fun z => by omega
    exact ite2 (fun _ => ite2 (fun z => absurd z (l1 0)) (fun _ => ite2 (fun _ => ite2 (fun z => absurd z l2) (fun _ => h)) (fun _ => h))) (fun _ => ite2 (fun _ => ite2 (fun z => absurd z l2) (fun _ => h)) (fun _ => h))
theorem cl_is_true (F : Df K mg "is_true" s_is_true) (z_len : mg "len" = none) (c_had_commits : Cl P w K mg base T 1 "_had_commits" sp_had_commits) (c_is_active : Cl P w K mg base T 1 "is_active" sp_is_active) : Cl P w K mg base T 2 "is_true" sp_is_true :=
  cl0 F sc_is_true b_is_true (len_is_true) (fun _ _ _ _ _ _ us hl => match us, hl with | [_, _, _, _], _ => rfl) (fun f cdv A outer s H E hr =>
  (dsCons (dsIf ((dwAnd (dqT (o := oEq) op_eq (dIx (o := oIxT) ix_tup (dVar 3) dInt) dStr) (dw1A (dqT (o := oEq) op_eq (dB (bb := bLen) call_len_seq z_len (dCons (dVar 3) dNil) PySem.boot_len) dInt)))).pt (dsCons (dAs (dVar 3) (dgT rfl (dgC (dN 4 sc_is_true.nd) (dgC (dN 5 sc_is_true.nd) (dgC (dN 6 sc_is_true.nd) dgN)))))
  (dsOne (dRet (dAnd (dCmp (o := oLe) op_le (dVar 5) (dVar 2)) (dOne (dCall c_had_commits hr (by decide) takes0 (dCons (dVar 0) (dCons (dVar 5) (dCons (dVar 6) dNil))))))))) dsNil)
  (dsCons (dsIf ((dwAnd (dqT (o := oEq) op_eq (dIx (o := oIxT) ix_tup (dVar 3) dInt) dStr) (dw1A (dqT (o := oEq) op_eq (dB (bb := bLen) call_len_seq z_len (dCons (dVar 3) dNil) PySem.boot_len) dInt)))).pt (dsCons (dAs (dIx (o := oIxT) ix_tup (dVar 3) dInt) (dN 7 sc_is_true.nd))
  (dsOne (dRet (dAnd (dCh (o := oLe) (o' := oLt) op_le op_lt dInt (dVar 7) (dB (bb := bLen) call_len_seq z_len (dCons (dVar 1) dNil) PySem.boot_len)) (dOne (dCall c_is_active hr (by decide) takes0 (dCons (dIx (o := oIxL) ix_list (dVar 1) (dVar 7)) (dCons (dVar 2) dNil)))))))) dsNil)
  (dsOne (dRet dBl))))) vc_is_true
def sp_law_is_true : Pm := fun ds M Φ _ => ∃ (L : List D) (S : List Lz) (t : Int) (s : Str) (is : List Int), ds = [.lst L, .lst (S.map encZ), .int t, .tup (.str s :: is.map D.int)] ∧ (∀ d ∈ L, CmD d) ∧ Φ (.bl (isT L S t s is)) M
/-! _law_is_true -/
abbrev s_law_is_true : Stmt := top 15
abbrev nm_law_is_true : List Str := ["ledger", "leases", "time", "statement", "said", "moment"]
theorem sc_law_is_true : FnScope ["ledger", "leases", "time", "statement", "said", "moment"] ["ledger", "leases", "time", "statement"] (defScope s_law_is_true) := ⟨rfl, rfl, rfl, by decide +kernel, rfl, by decide +kernel, by decide +kernel⟩
def b_law_is_true : XS K T :=
  (sSeq (sIf (qAnd (qT (xOp oEq (xOp oIxT (xVar 3) (xInt 0)) (xStr "at"))) (qT (xOp oEq (xB bLen (aCons (xVar 3) aNil)) (xInt 3)))) (sSeq (sPar 4 5 (aCons (xOp oIxT (xVar 3) (xInt 1)) (aCons (xOp oIxT (xVar 3) (xInt 2)) aNil)))
  (sSeq (sIf (qOr (qT (xOp oGt (xVar 4) (xVar 2))) (qOr (qT (xOp oLt (xVar 5) (xInt 0))) (qT (xOp oGt (xVar 5) (xB bLen (aCons (xVar 0) aNil)))))) (sRet (xBl false)) sNx)
  (sSeq (sIf (qAnd (qT (xOp oGt (xVar 5) (xInt 0))) (qT (xOp oGt (xOp oIxT (xOp oIxL (xVar 0) (xOp oSub (xVar 5) (xInt 1))) (xInt 0)) (xVar 4)))) (sRet (xBl false)) sNx)
  (sRet (xOr (xOp oEq (xVar 5) (xB bLen (aCons (xVar 0) aNil))) (xOp oGe (xOp oIxT (xOp oIxL (xVar 0) (xVar 5)) (xInt 0)) (xVar 4))))))) sNx)
  (sSeq (sIf (qOr (qT (xOp oNe (xOp oIxT (xVar 3) (xInt 0)) (xStr "lease"))) (qOr (qT (xOp oNe (xB bLen (aCons (xVar 3) aNil)) (xInt 2))) (qOr (qT (xOp oLt (xOp oIxT (xVar 3) (xInt 1)) (xInt 0))) (qT (xOp oGe (xOp oIxT (xVar 3) (xInt 1)) (xB bLen (aCons (xVar 1) aNil))))))) (sRet (xBl false)) sNx)
  (sRet (xAnd (xOp oIsB (xOp oIxT (xOp oIxL (xVar 1) (xOp oIxT (xVar 3) (xInt 1))) (xInt 7)) (xBl false)) (xOp oLt (xVar 2) (xOp oIxT (xOp oIxL (xVar 1) (xOp oIxT (xVar 3) (xInt 1))) (xInt 4)))))))
theorem len_law_is_true : ∀ ds M Φ Ξ, sp_law_is_true ds M Φ Ξ → ds.length = 4 := by
  rintro _ _ _ _ ⟨L, S, t, s, is, rfl, _⟩
  rfl
theorem vc_law_is_true : ∀ ds M Φ Ξ, sp_law_is_true ds M Φ Ξ → Wp (b_law_is_true : XS K T) 6 ds M Φ := by
  rintro _ M Φ Ξ ⟨L, S, t, s, is, rfl, hL, h⟩
  unfold Wp b_law_is_true
  walk_at "vc"
  match is, h with
  | [], h =>
    walk_at "vc"
    exact ite2 (fun _ => ite2 (fun z => absurd z (by decide)) (fun _ => ite2 (fun _ => h) (fun _ => ite2 (fun _ => h) (fun z => absurd (by decide) z)))) (fun _ => ite2 (fun _ => h) (fun _ => ite2 (fun _ => h) (fun z => absurd (by decide) z)))
  | [a, b], h =>
    walk_at "vc"
    have h' : Φ (.bl (decide (s = "at") && (decide (a ≤ t) && hadC L a b))) M := h
    have last : 0 ≤ b → b ≤ L.length → Φ (.bl (decide (b = (L.length : Int)) || decide (a ≤ tmD (L.getD b.toNat .non)))) M → if b = (L.length : Int) then Φ (.bl true) M else at_ L b fun d => asT d fun ds => at_ ds 0 fun d => asI d fun i => Φ (.bl (decide (a ≤ i))) M := fun h0 h1 hh => by
      refine ite2 (fun e => ?_) (fun e => ?_)
      · rw [decide_eq_true e] at hh; exact hh
      · obtain ⟨t2, g, e1, e2⟩ := cm_at hL h0 (by omega)
        rw [at_of e1]
        walk_at "vc"
        rw [decide_eq_false e, e2] at hh
        exact hh
    refine ite2 (fun e => ?_) (fun e => ?_)
    · rw [decide_eq_true e] at h'
      refine ite2 (fun _ => ?_) (fun z => absurd rfl z)
      refine ite2 (fun e2 => ?_) (fun e2 => ?_)
      · rw [decide_eq_false (show ¬ a ≤ t by omega)] at h'; exact h'
      · rw [decide_eq_true (show a ≤ t by omega)] at h'
        have h'' : Φ (.bl (hadC L a b)) M := h'
        refine ite2 (fun e3 => ?_) (fun e3 => ite2 (fun e4 => ?_) (fun e4 => ?_))
        · rw [had_no (fun z => by omega)] at h''; exact h''
        · rw [had_no (fun z => by omega)] at h''; exact h''
        · rw [had_yes ⟨by omega, by omega⟩] at h''
          refine ite2 (fun e5 => ?_) (fun e5 => ?_)
          · obtain ⟨t2, g, e1, e6⟩ := cm_at hL (m := b - 1) (by omega) (by omega)
            rw [at_of e1]
            walk_at "vc"
            rw [e6, decide_eq_true e5] at h''
            refine ite2 (fun e7 => ?_) (fun e7 => ?_)
            · rw [decide_eq_true e7] at h''; exact h''
            · rw [decide_eq_false e7] at h''; exact last (by omega) (by omega) h''
          · rw [decide_eq_false e5] at h''; exact last (by omega) (by omega) h''
    · rw [decide_eq_false e] at h'
      exact ite2 (fun _ => h') (fun _ => ite2 (fun _ => h') (fun z => absurd (by decide) z))
  | [i], h =>
    walk_at "vc"
    have h' : Φ (.bl (decide (s = "lease") && (decide (0 ≤ i ∧ i < S.length) && (match S[i.toNat]? with | some z => actZ z t | none => false)))) M := h
    have main : if ¬ s = Str.ofString "lease" then Φ (.bl false) M else if ¬ ((0 : Nat) + 1 + 1 : Int) = 2 then Φ (.bl false) M else if i < 0 then Φ (.bl false) M else if ((S.map encZ).length : Int) ≤ i then Φ (.bl false) M else
        at_ (S.map encZ) i fun d => asT d fun ds => at_ ds 7 fun d => asB d fun a => if a = false then at_ (S.map encZ) i fun d => asT d fun ds => at_ ds 4 fun d => asI d fun j => Φ (.bl (decide (t < j))) M else Φ (.bl false) M := by
      refine ite2 (fun e => ?_) (fun e => ite2 (fun z => absurd (by decide) z) fun _ => ?_)
      · rw [decide_eq_false (show ¬ s = "lease" from e)] at h'; exact h'
      · rw [decide_eq_true (show s = "lease" from Classical.not_not.mp e)] at h'
        refine ite2 (fun e0 => ?_) (fun e0 => ite2 (fun e1 => ?_) fun e1 => ?_)
        · rw [decide_eq_false (fun z => by omega)] at h'; exact h'
        · rw [List.length_map] at e1; rw [decide_eq_false (fun z => by omega)] at h'; exact h'
        · rw [List.length_map] at e1
          obtain ⟨z, e2, e3⟩ := lz_at (S := S) (i := i) (by omega) (by omega)
          rw [decide_eq_true ⟨by omega, by omega⟩, e2] at h'
          simp only [at_of e3]
          unfold encZ
          walk_at "vc"
          have h'' : Φ (.bl (!z.b && decide (t < z.u))) M := h'
          refine ite2 (fun e4 => ?_) (fun e4 => ?_)
          · rw [e4] at h''; exact h''
          · cases e5 : z.b with
            | true => rw [e5] at h''; exact h''
            | false => exact absurd e5 e4
    exact ite2 (fun _ => ite2 (fun z => absurd z (by decide)) (fun _ => main)) (fun _ => main)
  | a :: b :: c :: r, h =>
    walk_at "vc"
    have l1 : ¬ (((List.map D.int r).length + 1 + 1 + 1 + 1 : Nat) : Int) = 3 := fun z => by omega
    have l2 : ¬ (((List.map D.int r).length + 1 + 1 + 1 + 1 : Nat) : Int) = 2 := fun z => by omega
    exact ite2 (fun _ => ite2 (fun z => absurd z l1) (fun _ => ite2 (fun _ => h) (fun _ => ite2 (fun _ => h) (fun z => absurd l2 z)))) (fun _ => ite2 (fun _ => h) (fun _ => ite2 (fun _ => h) (fun z => absurd l2 z)))
theorem cl_law_is_true (F : Df K mg "_law_is_true" s_law_is_true) (z_len : mg "len" = none) : Cl P w K mg base T 1 "_law_is_true" sp_law_is_true :=
  cl0 F sc_law_is_true b_law_is_true (len_law_is_true) (fun _ _ _ _ _ _ us hl => match us, hl with | [_, _, _, _], _ => rfl) (fun f cdv A outer s H E hr =>
  (dsCons (dsIf ((dwAnd (dqT (o := oEq) op_eq (dIx (o := oIxT) ix_tup (dVar 3) dInt) dStr) (dw1A (dqT (o := oEq) op_eq (dB (bb := bLen) call_len_seq z_len (dCons (dVar 3) dNil) PySem.boot_len) dInt)))).pt (dsCons (dPar rfl sc_law_is_true.nd rfl rfl (by decide) (dCons (dIx (o := oIxT) ix_tup (dVar 3) dInt) (dCons (dIx (o := oIxT) ix_tup (dVar 3) dInt) dNil)))
  (dsCons (dsIf ((dwOr (dqT (o := oGt) op_gt (dVar 4) (dVar 2)) (dwOr (dqT (o := oLt) op_lt (dVar 5) dInt) (dw1O (dqT (o := oGt) op_gt (dVar 5) (dB (bb := bLen) call_len_seq z_len (dCons (dVar 0) dNil) PySem.boot_len)))))).pt (dsOne (dRet dBl)) dsNil)
  (dsCons (dsIf ((dwAnd (dqT (o := oGt) op_gt (dVar 5) dInt) (dw1A (dqT (o := oGt) op_gt (dIx (o := oIxT) ix_tup (dIx (o := oIxL) ix_list (dVar 0) (dOp (o := oSub) op_sub (dVar 5) dInt)) dInt) (dVar 4))))).pt (dsOne (dRet dBl)) dsNil)
  (dsOne (dRet (dOr (dCmp (o := oEq) op_eq (dVar 5) (dB (bb := bLen) call_len_seq z_len (dCons (dVar 0) dNil) PySem.boot_len)) (dOne (dCmp (o := oGe) op_ge (dIx (o := oIxT) ix_tup (dIx (o := oIxL) ix_list (dVar 0) (dVar 5)) dInt) (dVar 4))))))))) dsNil)
  (dsCons (dsIf ((dwOr (dqT (o := oNe) op_ne (dIx (o := oIxT) ix_tup (dVar 3) dInt) dStr) (dwOr (dqT (o := oNe) op_ne (dB (bb := bLen) call_len_seq z_len (dCons (dVar 3) dNil) PySem.boot_len) dInt) (dwOr (dqT (o := oLt) op_lt (dIx (o := oIxT) ix_tup (dVar 3) dInt) dInt) (dw1O (dqT (o := oGe) op_ge (dIx (o := oIxT) ix_tup (dVar 3) dInt) (dB (bb := bLen) call_len_seq z_len (dCons (dVar 1) dNil) PySem.boot_len))))))).pt (dsOne (dRet dBl)) dsNil)
  (dsOne (dRet (dAnd (dCmp (o := oIsB) op_isBl (dIx (o := oIxT) ix_tup (dIx (o := oIxL) ix_list (dVar 1) (dIx (o := oIxT) ix_tup (dVar 3) dInt)) dInt) dBl) (dOne (dCmp (o := oLt) op_lt (dVar 2) (dIx (o := oIxT) ix_tup (dIx (o := oIxL) ix_list (dVar 1) (dIx (o := oIxT) ix_tup (dVar 3) dInt)) dInt))))))))) vc_law_is_true
def sp_law_leases : Pm := fun ds M Φ _ => ∃ (st : Addr) (L : List D) (t : Int), ds = [.ref st, .lst L, .int t] ∧ GS M st ∧ L.length ≤ 1000 ∧ ∀ (S : List Lz) M', S.length ≤ 10 → GS M' st → Sam st M M' → Φ (.lst (S.map encZ)) M'
/-! _law_leases -/
abbrev s_law_leases : Stmt := top 16
abbrev nm_law_leases : List Str := ["state", "ledger", "time", "leases", "k", "until", "moment"]
theorem sc_law_leases : FnScope ["state", "ledger", "time", "leases", "k", "until", "moment"] ["state", "ledger", "time"] (defScope s_law_leases) := ⟨rfl, rfl, rfl, by decide +kernel, rfl, by decide +kernel, by decide +kernel⟩
def b_law_leases : XS K T :=
  (sSeq (sAs (xLstM aNil) (gN 3))
  (sSeq (sFor (iR1 (xCall sp_law_draw (aCons (xVar 0) (aCons (xInt 5) aNil)))) (gN 4)
    (sSeq (sAs (xOp oSub (xOp oAdd (xVar 2) (xCall sp_law_draw (aCons (xVar 0) (aCons (xInt 9) aNil)))) (xInt 4)) (gN 5))
  (sSeq (sAs (xCall sp_law_draw (aCons (xVar 0) (aCons (xOp oAdd (xB bLen (aCons (xVar 1) aNil)) (xInt 1)) aNil))) (gN 6))
  (sEx (xApp (xVar 3) (xTup (aCons (xCall sp_law_draw (aCons (xVar 0) (aCons (xInt 2) aNil))) (aCons (xInt 0) (aCons (xVar 4) (aCons (xCall sp_law_cover (aCons (xVar 0) aNil)) (aCons (xVar 5) (aCons (xVar 6) (aCons (xInt 0) (aCons (xOp oEq (xCall sp_law_draw (aCons (xVar 0) (aCons (xInt 4) aNil))) (xInt 0)) aNil))))))))))))))
  (sFrz 3 (sRet (xVar 3)))))
theorem len_law_leases : ∀ ds M Φ Ξ, sp_law_leases ds M Φ Ξ → ds.length = 3 := by
  rintro _ _ _ _ ⟨st, L, t, rfl, _⟩
  rfl
theorem vc_law_leases : ∀ ds M Φ Ξ, sp_law_leases ds M Φ Ξ → Wp (b_law_leases : XS K T) 7 ds M Φ := by
  rintro _ M Φ Ξ ⟨st, L, t, rfl, hg, hl, h⟩
  unfold Wp b_law_leases
  walk_at "vc"
  intro p hp
  obtain ⟨np, hg'⟩ := Sam.gs (m := .lst []) hg hp
  refine ⟨st, 5, rfl, hg', by decide, by decide, fun r M1 hr0 hr1 g1 s1 => ?_⟩
  walk_at "vc"
  have e1 : M1 p = some (.lst []) := s1 p _ um_same np
  refine ⟨by omega, by omega, fun i ρ' M2 => ∃ o1 o2 o3 S, ρ' = [some (.ref st), some (.lst L), some (.int t), some (.ref p), o1, o2, o3] ∧ GS M2 st ∧ Sam st M M2 ∧ M2 p = some (.lst (S.map encZ)) ∧ S.length = i,
    ⟨none, none, none, [], rfl, g1, s1.new hp, e1, rfl⟩, fun _ _ _ _ => trivial, ?_, ?_⟩
  · rintro i d ρ' M2 hd ⟨o1, o2, o3, S, rfl, g2, s2, e2, hS⟩
    obtain ⟨hi, rfl⟩ := rngD_get hd
    walk_at "vc"
    refine ⟨st, 9, rfl, g2, by decide, by decide, fun r2 M3 _ _ g3 s3 => ?_⟩
    walk_at "vc"
    refine ⟨st, _, rfl, g3, by omega, by omega, fun r3 M4 _ _ g4 s4 => ?_⟩
    walk_at "vc"
    have e4 : M4 p = some (.lst (S.map encZ)) := s4 p _ (s3 p _ e2 np) np
    rw [mL_of e4]
    refine ⟨st, 2, rfl, g4, by decide, by decide, fun r4 M5 _ _ g5 s5 => ?_⟩
    walk_at "vc"
    refine ⟨st, rfl, g5, fun x y M6 _ _ g6 s6 => ?_⟩
    walk_at "vc"
    refine ⟨st, 4, rfl, g6, by decide, by decide, fun r5 M7 _ _ g7 s7 => ?_⟩
    walk_at "vc"
    have e7 : M7 p = some (.lst (S.map encZ)) := s7 p _ (s6 p _ (s5 p _ e4 np) np) np
    rw [mL_of e7]
    have g7' : ∀ m, GS (um M7 p m) st := fun m => by
      obtain ⟨q, eq, v⟩ := g7
      exact ⟨q, by rw [um_ne (Ne.symm np)]; exact eq, v⟩
    have s27 := ((((s2.trans s3).trans s4).trans s5).trans s6).trans s7
    exact ⟨by rw [List.length_map]; omega, _, _, _, S ++ [⟨.int r4, .int 0, .int (0 + (i : Nat)), .tup [.str x, .str y], t + r2 - 4, .int r3, .int 0, decide (r5 = 0)⟩], rfl, g7' _, fun a q e n => by rw [um_ne (fun z => by rw [z, hp] at e; cases e)]; exact s27 a q e n, by rw [um_same, List.map_append]; rfl, by simp [hS]⟩
  · rintro ρ' M2 ⟨o1, o2, o3, S, rfl, g2, s2, e2, hS⟩
    walk_at "vc"
    rw [mL_of e2]
    walk_at "vc"
    exact h S _ (by omega) (g2.drop np) (s2.drop hp)
theorem cl_law_leases (F : Df K mg "_law_leases" s_law_leases) (z_len : mg "len" = none) (z_range : mg "range" = none) (c_law_cover : Cl P w K mg base T 5 "_law_cover" sp_law_cover) (c_law_draw : Cl P w K mg base T 3 "_law_draw" sp_law_draw) : Cl P w K mg base T 6 "_law_leases" sp_law_leases :=
  cl0 F sc_law_leases b_law_leases (len_law_leases) (fun _ _ _ _ _ _ us hl => match us, hl with | [_, _, _], _ => rfl) (fun f cdv A outer s H E hr =>
  (dsCons (dAs (dLstM dNil) (dN 3 sc_law_leases.nd))
  (dsCons (dFor PassesOwn.never rfl (diR1 z_range (dCall c_law_draw hr (by decide) takes0 (dCons (dVar 0) (dCons dInt dNil)))) (dN 4 sc_law_leases.nd)
    (dsCons (dAs (dOp (o := oSub) op_sub (dOp (o := oAdd) op_add (dVar 2) (dCall c_law_draw hr (by decide) takes0 (dCons (dVar 0) (dCons dInt dNil)))) dInt) (dN 5 sc_law_leases.nd))
  (dsCons (dAs (dCall c_law_draw hr (by decide) takes0 (dCons (dVar 0) (dCons (dOp (o := oAdd) op_add (dB (bb := bLen) call_len_seq z_len (dCons (dVar 1) dNil) PySem.boot_len) dInt) dNil))) (dN 6 sc_law_leases.nd))
  (dsOne (dEx (dApp (dVar 3) (dTup (dCons (dCall c_law_draw hr (by decide) takes0 (dCons (dVar 0) (dCons dInt dNil))) (dCons dInt (dCons (dVar 4) (dCons (dCall c_law_cover hr (by decide) takes0 (dCons (dVar 0) dNil)) (dCons (dVar 5) (dCons (dVar 6) (dCons dInt (dCons (dCmp (o := oEq) op_eq (dCall c_law_draw hr (by decide) takes0 (dCons (dVar 0) (dCons dInt dNil))) dInt) dNil)))))))))))))))
  (dFz (dsOne (dRet (dVar 3))))))) vc_law_leases
/-- a statement -/
def StD (d : D) : Prop := ∃ (s : Str) (is : List Int), d = .tup (.str s :: is.map D.int)
def sp_law_statement : Pm := fun ds M Φ _ => ∃ (st : Addr) (L : List D) (S : List Lz) (t : Int), ds = [.ref st, .lst L, .lst (S.map encZ), .int t] ∧ GS M st ∧ (∀ d ∈ L, CmD d) ∧ L.length ≤ 1000 ∧ S.length ≤ 1000 ∧ 0 ≤ t ∧ t ≤ 10000 ∧ ∀ d M', StD d → GS M' st → Sam st M M' → Φ d M'
/-! _law_statement -/
abbrev s_law_statement : Stmt := top 17
abbrev nm_law_statement : List Str := ["state", "ledger", "leases", "time", "moment", "said"]
theorem sc_law_statement : FnScope ["state", "ledger", "leases", "time", "moment", "said"] ["state", "ledger", "leases", "time"] (defScope s_law_statement) := ⟨rfl, rfl, rfl, by decide +kernel, rfl, by decide +kernel, by decide +kernel⟩
def b_law_statement : XS K T :=
  (sSeq (sIf (qT (xOp oEq (xCall sp_law_draw (aCons (xVar 0) (aCons (xInt 2) aNil))) (xInt 0))) (sRet (xTup (aCons (xStr "lease") (aCons (xOp oSub (xCall sp_law_draw (aCons (xVar 0) (aCons (xOp oAdd (xB bLen (aCons (xVar 2) aNil)) (xInt 2)) aNil))) (xB bInt (aCons (xOp oEq (xCall sp_law_draw (aCons (xVar 0) (aCons (xInt 9) aNil))) (xInt 0)) aNil))) aNil)))) sNx)
  (sSeq (sAs (xOp oSub (xCall sp_law_draw (aCons (xVar 0) (aCons (xOp oAdd (xB bLen (aCons (xVar 1) aNil)) (xInt 2)) aNil))) (xB bInt (aCons (xOp oEq (xCall sp_law_draw (aCons (xVar 0) (aCons (xInt 9) aNil))) (xInt 0)) aNil))) (gN 4))
  (sSeq (sAs (xOp oSub (xOp oAdd (xVar 3) (xInt 1)) (xCall sp_law_draw (aCons (xVar 0) (aCons (xOp oAdd (xVar 3) (xInt 3)) aNil)))) (gN 5))
  (sSeq (sIf (qAnd (qT (xCh oLt oLe (xInt 0) (xVar 4) (xB bLen (aCons (xVar 1) aNil)))) (qT (xOp oGt (xCall sp_law_draw (aCons (xVar 0) (aCons (xInt 3) aNil))) (xInt 0)))) (sAs (xOp oSub (xOp oAdd (xOp oIxT (xOp oIxL (xVar 1) (xOp oSub (xVar 4) (xInt 1))) (xInt 0)) (xCall sp_law_draw (aCons (xVar 0) (aCons (xInt 3) aNil)))) (xInt 1)) (gN 5)) sNx)
  (sRet (xTup (aCons (xStr "at") (aCons (xVar 5) (aCons (xVar 4) aNil)))))))))
theorem len_law_statement : ∀ ds M Φ Ξ, sp_law_statement ds M Φ Ξ → ds.length = 4 := by
  rintro _ _ _ _ ⟨st, L, S, t, rfl, _⟩
  rfl
theorem vc_law_statement : ∀ ds M Φ Ξ, sp_law_statement ds M Φ Ξ → Wp (b_law_statement : XS K T) 6 ds M Φ := by
  rintro _ M Φ Ξ ⟨st, L, S, t, rfl, hg, hL, hl, hS, t0, t1, h⟩
  unfold Wp b_law_statement
  walk_at "vc"
  refine ⟨st, 2, rfl, hg, by decide, by decide, fun r M1 _ _ g1 s1 => ?_⟩
  walk_at "vc"
  refine ite2 (fun _ => ?_) (fun _ => ?_)
  · refine ⟨st, _, rfl, g1, by omega, by rw [List.length_map]; omega, fun r2 M2 _ _ g2 s2 => ⟨st, 9, rfl, g2, by decide, by decide, fun r3 M3 _ _ g3 s3 => ?_⟩⟩
    walk_at "vc"
    exact h _ M3 ⟨"lease", [_], rfl⟩ g3 ((s1.trans s2).trans s3)
  · refine ⟨st, _, rfl, g1, by omega, by omega, fun r2 M2 b1 b2 g2 s2 => ⟨st, 9, rfl, g2, by decide, by decide, fun r3 M3 _ _ g3 s3 => ?_⟩⟩
    walk_at "vc"
    refine ⟨st, _, rfl, g3, by omega, by omega, fun r4 M4 _ _ g4 s4 => ?_⟩
    walk_at "vc"
    have s14 := ((s1.trans s2).trans s3).trans s4
    generalize (r2 - if r3 = 0 then 1 else 0) = m
    have no : ∀ M5, GS M5 st → Sam st M M5 → Φ (D.tup [D.str (Str.ofString "at"), D.int (t + 1 - r4), D.int m]) M5 := fun M5 g5 s5 => h _ M5 ⟨"at", [_, _], rfl⟩ g5 s5
    refine ite2 (fun h0 => ite2 (fun h1 => ⟨st, 3, rfl, g4, by decide, by decide, fun r5 M5 _ _ g5 s5 => ?_⟩) (fun _ => no M4 g4 s14)) (fun _ => no M4 g4 s14)
    walk_at "vc"
    refine ite2 (fun _ => ?_) (fun _ => no M5 g5 (s14.trans s5))
    obtain ⟨t2, g, e1, _⟩ := cm_at hL (m := m - 1) (by omega) (by omega)
    rw [at_of e1]
    walk_at "vc"
    refine ⟨st, 3, rfl, g5, by decide, by decide, fun r6 M6 _ _ g6 s6 => ?_⟩
    walk_at "vc"
    exact h _ M6 ⟨"at", [_, _], rfl⟩ g6 ((s14.trans s5).trans s6)
theorem cl_law_statement (F : Df K mg "_law_statement" s_law_statement) (z_int : mg "int" = none) (z_len : mg "len" = none) (c_law_draw : Cl P w K mg base T 3 "_law_draw" sp_law_draw) : Cl P w K mg base T 4 "_law_statement" sp_law_statement :=
  cl0 F sc_law_statement b_law_statement (len_law_statement) (fun _ _ _ _ _ _ us hl => match us, hl with | [_, _, _, _], _ => rfl) (fun f cdv A outer s H E hr =>
  (dsCons (dsIf (dqT (o := oEq) op_eq (dCall c_law_draw hr (by decide) takes0 (dCons (dVar 0) (dCons dInt dNil))) dInt) (dsOne (dRet (dTup (dCons dStr (dCons (dOp (o := oSub) op_sub (dCall c_law_draw hr (by decide) takes0 (dCons (dVar 0) (dCons (dOp (o := oAdd) op_add (dB (bb := bLen) call_len_seq z_len (dCons (dVar 2) dNil) PySem.boot_len) dInt) dNil))) (dTy (bb := bInt) call_int1 z_int (dCons (dCmp (o := oEq) op_eq (dCall c_law_draw hr (by decide) takes0 (dCons (dVar 0) (dCons dInt dNil))) dInt) dNil) (by decide +kernel))) dNil))))) dsNil)
  (dsCons (dAs (dOp (o := oSub) op_sub (dCall c_law_draw hr (by decide) takes0 (dCons (dVar 0) (dCons (dOp (o := oAdd) op_add (dB (bb := bLen) call_len_seq z_len (dCons (dVar 1) dNil) PySem.boot_len) dInt) dNil))) (dTy (bb := bInt) call_int1 z_int (dCons (dCmp (o := oEq) op_eq (dCall c_law_draw hr (by decide) takes0 (dCons (dVar 0) (dCons dInt dNil))) dInt) dNil) (by decide +kernel))) (dN 4 sc_law_statement.nd))
  (dsCons (dAs (dOp (o := oSub) op_sub (dOp (o := oAdd) op_add (dVar 3) dInt) (dCall c_law_draw hr (by decide) takes0 (dCons (dVar 0) (dCons (dOp (o := oAdd) op_add (dVar 3) dInt) dNil)))) (dN 5 sc_law_statement.nd))
  (dsCons (dsIf ((dwAnd (dqCh (o := oLt) (o' := oLe) op_lt op_le dInt (dVar 4) (dB (bb := bLen) call_len_seq z_len (dCons (dVar 1) dNil) PySem.boot_len)) (dw1A (dqT (o := oGt) op_gt (dCall c_law_draw hr (by decide) takes0 (dCons (dVar 0) (dCons dInt dNil))) dInt)))).pt (dsOne (dAs (dOp (o := oSub) op_sub (dOp (o := oAdd) op_add (dIx (o := oIxT) ix_tup (dIx (o := oIxL) ix_list (dVar 1) (dOp (o := oSub) op_sub (dVar 4) dInt)) dInt) (dCall c_law_draw hr (by decide) takes0 (dCons (dVar 0) (dCons dInt dNil)))) dInt) (dN 5 sc_law_statement.nd))) dsNil)
  (dsOne (dRet (dTup (dCons dStr (dCons (dVar 5) (dCons (dVar 4) dNil))))))))))) vc_law_statement
abbrev sp_law : Pm := spLaw
/-! law -/
abbrev s_law : Stmt := top 18
abbrev nm_law : List Str := ["script", "state", "ledger", "time", "leases", "k", "statements", "moment", "said", "statement"]
theorem sc_law : FnScope ["script", "state", "ledger", "time", "leases", "k", "statements", "moment", "said", "statement"] ["script"] (defScope s_law) := ⟨rfl, rfl, rfl, by decide +kernel, rfl, by decide +kernel, by decide +kernel⟩
def b_law : XS K T :=
  (sSeq (sAs (xCall sp_law_state (aCons (xVar 0) aNil)) (gN 1))
  (sSeq (sAs (xCall sp_law_ledger (aCons (xVar 1) (aCons (xCall sp_law_draw (aCons (xVar 1) (aCons (xInt 11) aNil))) aNil))) (gN 2))
  (sCut (sAs (xOp oAdd (xIf (qT (xOp oGt (xB bLen (aCons (xVar 2) aNil)) (xInt 0))) (xOp oIxT (xOp oIxL (xVar 2) (xNeg (xInt 1))) (xInt 0)) (xInt 0)) (xCall sp_law_draw (aCons (xVar 1) (aCons (xInt 5) aNil)))) (gN 3))
  (sSeq (sAs (xCall sp_law_leases (aCons (xVar 1) (aCons (xVar 2) (aCons (xVar 3) aNil)))) (gN 4))
  (sSeq (sAs (xLcM (iR1 (xInt 10)) (.one 5) qYes (xCall sp_law_statement (aCons (xVar 1) (aCons (xVar 2) (aCons (xVar 4) (aCons (xVar 3) aNil)))))) (gN 6))
  (sSeq (sFor (iR1 (xOp oAdd (xB bLen (aCons (xVar 2) aNil)) (xInt 1))) (gN 7)
    (sFor (iR1 (xOp oAdd (xVar 3) (xInt 2))) (gN 8)
    (sIf (qT (xOp oLt (xVar 8) (xInt 12))) (sEx (xApp (xVar 6) (xTup (aCons (xStr "at") (aCons (xVar 8) (aCons (xVar 7) aNil)))))) sNx)))
  (sSeq (sAs (xOp oCatM (xVar 6) (xLst (aCons (xTup (aCons (xStr "at") (aCons (xInt 0) aNil))) (aCons (xTup (aCons (xStr "lease") (aCons (xInt 0) (aCons (xInt 0) aNil)))) (aCons (xTup (aCons (xStr "lease") aNil)) (aCons (xTup (aCons (xStr "leases") (aCons (xInt 0) aNil))) (aCons (xTup (aCons (xStr "at") (aCons (xInt 0) (aCons (xInt 0) (aCons (xInt 0) aNil))))) (aCons (xTup (aCons (xStr "") (aCons (xInt 0) (aCons (xInt 0) aNil)))) aNil)))))))) (gN 6))
  (sFrz 6 (sSeq (sFor (iL (xVar 6)) (gN 9)
    (sIf (qNot (qB (xCall sp_law_tells (aCons (xCall sp_is_true (aCons (xVar 2) (aCons (xVar 4) (aCons (xVar 3) (aCons (xVar 9) aNil))))) (aCons (xCall sp_law_is_true (aCons (xVar 2) (aCons (xVar 4) (aCons (xVar 3) (aCons (xVar 9) aNil))))) aNil))))) (sRet (xBl false)) sNx))
  (sRet (xBl true)))))))))))
theorem len_law : ∀ ds M Φ Ξ, sp_law ds M Φ Ξ → ds.length = 1 := by
  rintro _ _ _ _ ⟨ns, rfl, _⟩
  rfl
theorem vc_law : ∀ ds M Φ Ξ, sp_law ds M Φ Ξ → Wp (b_law : XS K T) 10 ds M Φ := by
  rintro _ M Φ Ξ ⟨ns, rfl, _, h⟩
  unfold Wp b_law
  walk_at "vc"
  refine ⟨ns, rfl, fun st M1 g1 _ _ => ?_⟩
  walk_at "vc"
  refine ⟨st, 11, rfl, g1, by decide, by decide, fun r M2 b0 b1 g2 s2 => ⟨st, r, rfl, g2, by omega, by omega, fun L M3 hL hl g3 s3 => ?_⟩⟩
  walk_at "vc"
  refine ⟨fun ρ' M' => ∃ t : Int, 0 ≤ t ∧ t ≤ 2000 ∧ ρ' = [some (.lsw (ns.map D.int)), some (.ref st), some (.lst L), some (.int t), none, none, none, none, none, none] ∧ GS M' st, ?_, ?_⟩
  · refine ite2 (fun h0 => ?_) (fun _ => ?_)
    · have hn : atI L (-1) = atI L ((L.length : Int) - 1) := by
        unfold atI ixN
        rw [if_neg (by omega), if_pos (by omega), if_pos (by omega), if_pos (by omega)]
        congr 2
      obtain ⟨c, e1, e2⟩ := atI_in (l := L) (i := (L.length : Int) - 1) (by omega) (by omega)
      obtain ⟨t, g, rfl, t0, t1, _⟩ := hL c (List.mem_of_getElem? e2)
      rw [at_of (hn.trans e1)]
      walk_at "vc"
      refine ⟨st, 5, rfl, g3, by decide, by decide, fun r2 M4 c0 c1 g4 s4 => ?_⟩
      walk_at "vc"
      exact ⟨_, by omega, by omega, rfl, g4⟩
    · refine ⟨st, 5, rfl, g3, by decide, by decide, fun r2 M4 c0 c1 g4 s4 => ?_⟩
      walk_at "vc"
      exact ⟨_, by omega, by omega, rfl, g4⟩
  · rintro ρ' M4 ⟨t, t0, t1, rfl, g4⟩
    walk_at "vc"
    refine ⟨st, L, t, rfl, g4, by omega, fun S M5 hS g5 s5 => ?_⟩
    walk_at "vc"
    refine ⟨by decide, by decide, by decide, fun i acc M' => GS M' st ∧ (∀ d ∈ acc, StD d) ∧ acc.length ≤ i, ⟨g5, by simp, Nat.le_refl _⟩, fun _ _ _ _ => trivial, ?_, ?_⟩
    · rintro i d acc M' _ ⟨g, ha, hl2⟩
      refine ⟨st, L, S, t, rfl, g, hL, by omega, by omega, t0, by omega, fun d2 M6 hd g6 _ => ⟨g6, fun x hx => ?_, by simp; omega⟩⟩
      rcases List.mem_append.mp hx with z | z
      · exact ha x z
      · rw [List.mem_singleton.mp z]; exact hd
    · rintro acc M' ⟨g, ha, hl2⟩ p hp
      have hl3 : acc.length ≤ 10 := hl2
      refine ⟨by omega, by omega, ?_⟩
      have sd : ∀ (l : List D) (e : D), (∀ d ∈ l, StD d) → StD e → ∀ d ∈ l ++ [e], StD d := fun l e hl he x hx => by
        rcases List.mem_append.mp hx with z | z
        · exact hl x z
        · rw [List.mem_singleton.mp z]; exact he
      refine ⟨fun i ρ' M2 => ∃ o5 o7 o8 o9 ds, ρ' = [some (.lsw (ns.map D.int)), some (.ref st), some (.lst L), some (.int t), some (.lst (S.map encZ)), o5, some (.ref p), o7, o8, o9] ∧ M2 p = some (.lst ds) ∧ (∀ d ∈ ds, StD d) ∧ ds.length ≤ 10 + 2002 * i,
        ⟨none, none, none, none, acc, rfl, um_same, ha, by omega⟩, fun _ _ _ _ => trivial, ?_, ?_⟩
      · rintro i d ρ' M2 hd ⟨o5, o7, o8, o9, ds, rfl, e2, hs2, hl4⟩
        obtain ⟨hi, rfl⟩ := rngD_get hd
        walk_at "vc"
        refine ⟨by omega, by omega, fun j ρ' M2 => ∃ o5 o8 o9 ds, ρ' = [some (.lsw (ns.map D.int)), some (.ref st), some (.lst L), some (.int t), some (.lst (S.map encZ)), o5, some (.ref p), some (.int (0 + (i : Nat))), o8, o9] ∧ M2 p = some (.lst ds) ∧ (∀ d ∈ ds, StD d) ∧ ds.length ≤ 10 + 2002 * i + j,
          ⟨_, _, _, ds, rfl, e2, hs2, by omega⟩, fun _ _ _ _ => trivial, ?_, ?_⟩
        · rintro j d ρ' M3 hd ⟨o5, o8, o9, ds, rfl, e3, hs3, hl5⟩
          obtain ⟨hj, rfl⟩ := rngD_get hd
          walk_at "vc"
          refine ite2 (fun _ => ?_) (fun _ => ⟨_, _, _, ds, rfl, e3, hs3, by omega⟩)
          simp only [mL_of e3]
          refine ⟨by omega, _, _, _, _, rfl, um_same, sd ds _ hs3 ⟨"at", [_, _], rfl⟩, by rw [List.length_append]; simp; omega⟩
        · rintro ρ' M3 ⟨o5, o8, o9, ds, rfl, e3, hs3, hl5⟩
          exact ⟨_, _, _, _, ds, rfl, e3, hs3, by omega⟩
      · rintro ρ' M2 ⟨o5, o7, o8, o9, ds, rfl, e2, hs2, hl4⟩
        unfold asLt
        walk_at "vc"
        rw [e2]
        walk_at "vc"
        refine ⟨by omega, fun q hq => ?_⟩
        refine ⟨fun i ρ' M3 => ∃ o5 o7 o8 o9, ρ' = [some (.lsw (ns.map D.int)), some (.ref st), some (.lst L), some (.int t), some (.lst (S.map encZ)), o5, some (.lst (ds ++ [D.tup [D.str (Str.ofString "at"), D.int 0], D.tup [D.str (Str.ofString "lease"), D.int 0, D.int 0], D.tup [D.str (Str.ofString "lease")], D.tup [D.str (Str.ofString "leases"), D.int 0], D.tup [D.str (Str.ofString "at"), D.int 0, D.int 0, D.int 0], D.tup [D.str (Str.ofString ""), D.int 0, D.int 0]])), o7, o8, o9],
          ⟨_, _, _, _, rfl⟩, fun _ _ _ _ => trivial, ?_, ?_⟩
        · rintro i d ρ' M3 hd ⟨o5, o7, o8, o9, rfl⟩
          have hd2 : StD d := by
            rcases List.mem_append.mp (List.mem_of_getElem? hd) with z | z
            · exact hs2 d z
            · simp only [List.mem_cons, List.not_mem_nil, or_false] at z
              rcases z with rfl | rfl | rfl | rfl | rfl | rfl
              · exact ⟨_, [0], rfl⟩
              · exact ⟨_, [0, 0], rfl⟩
              · exact ⟨_, [], rfl⟩
              · exact ⟨_, [0], rfl⟩
              · exact ⟨_, [0, 0, 0], rfl⟩
              · exact ⟨_, [0, 0], rfl⟩
          obtain ⟨s, is, rfl⟩ := hd2
          walk_at "vc"
          refine ⟨L, S, t, s, is, rfl, hL, ⟨L, S, t, s, is, rfl, hL, ⟨_, _, rfl, ?_⟩⟩⟩
          walk_at "vc"
          exact ⟨_, _, _, _, rfl⟩
        · rintro ρ' M3 _
          exact h M3
theorem fn_law {f : Addr} {fd : FuncData} (F : Fun K "law" "law" s_law f fd) (z_len : mg "len" = none) (z_range : mg "range" = none) (c_law_draw : Cl P w K mg base T 3 "_law_draw" sp_law_draw) (c_law_is_true : Cl P w K mg base T 1 "_law_is_true" sp_law_is_true) (c_law_leases : Cl P w K mg base T 6 "_law_leases" sp_law_leases) (c_law_ledger : Cl P w K mg base T 6 "_law_ledger" sp_law_ledger) (c_law_state : Cl P w K mg base T 1 "_law_state" sp_law_state) (c_law_statement : Cl P w K mg base T 4 "_law_statement" sp_law_statement) (c_law_tells : Cl P w K mg base T 1 "_law_tells" sp_law_tells) (c_is_true : Cl P w K mg base T 2 "is_true" sp_is_true) : FnOk P w K mg base (L2.CX P w) 7 f fd ["script"] (spOf K T spLaw) :=
  fn0 F sc_law b_law (len_law) (fun f cdv A outer s H E hr =>
  (dsCons (dAs (dCall c_law_state hr (by decide) takes0 (dCons (dVar 0) dNil)) (dN 1 sc_law.nd))
  (dsCons (dAs (dCall c_law_ledger hr (by decide) takes0 (dCons (dVar 1) (dCons (dCall c_law_draw hr (by decide) takes0 (dCons (dVar 1) (dCons dInt dNil))) dNil))) (dN 2 sc_law.nd))
  (dsCut (dAs (dOp (o := oAdd) op_add (dIf (dqT (o := oGt) op_gt (dB (bb := bLen) call_len_seq z_len (dCons (dVar 2) dNil) PySem.boot_len) dInt) (dIx (o := oIxT) ix_tup (dIx (o := oIxL) ix_list (dVar 2) (dNeg dInt)) dInt) dInt) (dCall c_law_draw hr (by decide) takes0 (dCons (dVar 1) (dCons dInt dNil)))) (dN 3 sc_law.nd))
  (dsCons (dAs (dCall c_law_leases hr (by decide) takes0 (dCons (dVar 1) (dCons (dVar 2) (dCons (dVar 3) dNil)))) (dN 4 sc_law.nd))
  (dsCons (dSetLc true rfl sc_law.nd (i := 6) rfl (blkOk_by (N := nm_law) (sc := defScope s_law) (own := [("k", 5)]) (by decide +kernel)) (diR1 z_range dInt) rfl (fun _ _ _ _ _ => (cgOne 5 sc_law.nd)) (fun _ _ _ _ _ => dYes) (fun _ _ _ _ _ => (dCall c_law_statement hr (by decide) takes0 (dCons (dVar 1) (dCons (dVar 2) (dCons (dVar 4) (dCons (dVar 3) dNil)))))))
  (dsCons (dFor PassesOwn.never rfl (diR1 z_range (dOp (o := oAdd) op_add (dB (bb := bLen) call_len_seq z_len (dCons (dVar 2) dNil) PySem.boot_len) dInt)) (dN 7 sc_law.nd)
    (dsOne (dFor PassesOwn.never rfl (diR1 z_range (dOp (o := oAdd) op_add (dVar 3) dInt)) (dN 8 sc_law.nd)
    (dsOne (dsIf (dqT (o := oLt) op_lt (dVar 8) dInt) (dsOne (dEx (dApp (dVar 6) (dTup (dCons dStr (dCons (dVar 8) (dCons (dVar 7) dNil))))))) dsNil)))))
  (dsCons (dAs (dOp (o := oCatM) op_cat (dVar 6) (dLst (dCons (dTup (dCons dStr (dCons dInt dNil))) (dCons (dTup (dCons dStr (dCons dInt (dCons dInt dNil)))) (dCons (dTup (dCons dStr dNil)) (dCons (dTup (dCons dStr (dCons dInt dNil))) (dCons (dTup (dCons dStr (dCons dInt (dCons dInt (dCons dInt dNil))))) (dCons (dTup (dCons dStr (dCons dInt (dCons dInt dNil)))) dNil)))))))) (dN 6 sc_law.nd))
  (dFz (dsCons (dFor PassesOwn.never rfl (diL (dVar 6)) (dN 9 sc_law.nd)
    (dsOne (dsIf (dqNot (dqB (dCall c_law_tells hr (by decide) takes0 (dCons (dCall c_is_true hr (by decide) takes0 (dCons (dVar 2) (dCons (dVar 4) (dCons (dVar 3) (dCons (dVar 9) dNil))))) (dCons (dCall c_law_is_true hr (by decide) takes0 (dCons (dVar 2) (dCons (dVar 4) (dCons (dVar 3) (dCons (dVar 9) dNil))))) dNil))))) (dsOne (dRet dBl)) dsNil)))
  (dsOne (dRet dBl)))))))))))) vc_law
theorem all_mk {l : PySem.W.OpenLaw} {w : World} {K : PySem.W.Frag} {h : Heap} {mg : Str → Option Value} {fa : Addr} (X : K.In h) (G : h.Ns mainGlobals mg) (hfa : mg "law" = some (.ref fa))
    {f0 : Addr} {od0 an0 : Option Addr} {sl0 : Array (Option Value)} {oc0 kV0 dc0 pm0 cd0 ct0 : Value}
    {f1 : Addr} {od1 an1 : Option Addr} {sl1 : Array (Option Value)} {oc1 kV1 dc1 pm1 cd1 ct1 : Value}
    {f2 : Addr} {od2 an2 : Option Addr} {sl2 : Array (Option Value)} {oc2 kV2 dc2 pm2 cd2 ct2 : Value}
    {f3 : Addr} {od3 an3 : Option Addr} {sl3 : Array (Option Value)} {oc3 kV3 dc3 pm3 cd3 ct3 : Value}
    {f4 : Addr} {od4 an4 : Option Addr} {sl4 : Array (Option Value)} {oc4 kV4 dc4 pm4 cd4 ct4 : Value}
    {f5 : Addr} {od5 an5 : Option Addr} {sl5 : Array (Option Value)} {oc5 kV5 dc5 pm5 cd5 ct5 : Value}
    {f6 : Addr} {od6 an6 : Option Addr} {sl6 : Array (Option Value)} {oc6 kV6 dc6 pm6 cd6 ct6 : Value}
    {f7 : Addr} {od7 an7 : Option Addr} {sl7 : Array (Option Value)} {oc7 kV7 dc7 pm7 cd7 ct7 : Value}
    {f8 : Addr} {od8 an8 : Option Addr} {sl8 : Array (Option Value)} {oc8 kV8 dc8 pm8 cd8 ct8 : Value}
    {f9 : Addr} {od9 an9 : Option Addr} {sl9 : Array (Option Value)} {oc9 kV9 dc9 pm9 cd9 ct9 : Value}
    {f10 : Addr} {od10 an10 : Option Addr} {sl10 : Array (Option Value)} {oc10 kV10 dc10 pm10 cd10 ct10 : Value}
    {f11 : Addr} {od11 an11 : Option Addr} {sl11 : Array (Option Value)} {oc11 kV11 dc11 pm11 cd11 ct11 : Value}
    {f12 : Addr} {od12 an12 : Option Addr} {sl12 : Array (Option Value)} {oc12 kV12 dc12 pm12 cd12 ct12 : Value}
    {f13 : Addr} {od13 an13 : Option Addr} {sl13 : Array (Option Value)} {oc13 kV13 dc13 pm13 cd13 ct13 : Value}
    {f14 : Addr} {od14 an14 : Option Addr} {sl14 : Array (Option Value)} {oc14 kV14 dc14 pm14 cd14 ct14 : Value}
    {f15 : Addr} {od15 an15 : Option Addr} {sl15 : Array (Option Value)} {oc15 kV15 dc15 pm15 cd15 ct15 : Value}
    (a0 : PySem.W.nsIn K mainGlobals "_law_mix" = some (some (.ref f0))) (l0 : K.lookup f0 = some ⟨oc0, od0, .func (PySem.W.fnOf "_law_mix" "_law_mix" (defArgs s_law_mix) (defBody s_law_mix) (defScope s_law_mix) .none kV0 dc0 pm0 an0 cd0 ct0), sl0⟩) (c0 : PySem.W.codeIn K cd0 "_law_mix" = true) (k0 : PySem.W.keepIn K (.ref f0) = true)
    (a1 : PySem.W.nsIn K mainGlobals "_law_number" = some (some (.ref f1))) (l1 : K.lookup f1 = some ⟨oc1, od1, .func (PySem.W.fnOf "_law_number" "_law_number" (defArgs s_law_number) (defBody s_law_number) (defScope s_law_number) .none kV1 dc1 pm1 an1 cd1 ct1), sl1⟩) (c1 : PySem.W.codeIn K cd1 "_law_number" = true) (k1 : PySem.W.keepIn K (.ref f1) = true)
    (a2 : PySem.W.nsIn K mainGlobals "_law_state" = some (some (.ref f2))) (l2 : K.lookup f2 = some ⟨oc2, od2, .func (PySem.W.fnOf "_law_state" "_law_state" (defArgs s_law_state) (defBody s_law_state) (defScope s_law_state) .none kV2 dc2 pm2 an2 cd2 ct2), sl2⟩) (c2 : PySem.W.codeIn K cd2 "_law_state" = true) (k2 : PySem.W.keepIn K (.ref f2) = true)
    (a3 : PySem.W.nsIn K mainGlobals "_law_draw" = some (some (.ref f3))) (l3 : K.lookup f3 = some ⟨oc3, od3, .func (PySem.W.fnOf "_law_draw" "_law_draw" (defArgs s_law_draw) (defBody s_law_draw) (defScope s_law_draw) .none kV3 dc3 pm3 an3 cd3 ct3), sl3⟩) (c3 : PySem.W.codeIn K cd3 "_law_draw" = true) (k3 : PySem.W.keepIn K (.ref f3) = true)
    (a4 : PySem.W.nsIn K mainGlobals "_law_tells" = some (some (.ref f4))) (l4 : K.lookup f4 = some ⟨oc4, od4, .func (PySem.W.fnOf "_law_tells" "_law_tells" (defArgs s_law_tells) (defBody s_law_tells) (defScope s_law_tells) .none kV4 dc4 pm4 an4 cd4 ct4), sl4⟩) (c4 : PySem.W.codeIn K cd4 "_law_tells" = true) (k4 : PySem.W.keepIn K (.ref f4) = true)
    (a5 : PySem.W.nsIn K mainGlobals "_law_key" = some (some (.ref f5))) (l5 : K.lookup f5 = some ⟨oc5, od5, .func (PySem.W.fnOf "_law_key" "_law_key" (defArgs s_law_key) (defBody s_law_key) (defScope s_law_key) .none kV5 dc5 pm5 an5 cd5 ct5), sl5⟩) (c5 : PySem.W.codeIn K cd5 "_law_key" = true) (k5 : PySem.W.keepIn K (.ref f5) = true)
    (a6 : PySem.W.nsIn K mainGlobals "_law_cover" = some (some (.ref f6))) (l6 : K.lookup f6 = some ⟨oc6, od6, .func (PySem.W.fnOf "_law_cover" "_law_cover" (defArgs s_law_cover) (defBody s_law_cover) (defScope s_law_cover) .none kV6 dc6 pm6 an6 cd6 ct6), sl6⟩) (c6 : PySem.W.codeIn K cd6 "_law_cover" = true) (k6 : PySem.W.keepIn K (.ref f6) = true)
    (a7 : PySem.W.nsIn K mainGlobals "_law_group" = some (some (.ref f7))) (l7 : K.lookup f7 = some ⟨oc7, od7, .func (PySem.W.fnOf "_law_group" "_law_group" (defArgs s_law_group) (defBody s_law_group) (defScope s_law_group) .none kV7 dc7 pm7 an7 cd7 ct7), sl7⟩) (c7 : PySem.W.codeIn K cd7 "_law_group" = true) (k7 : PySem.W.keepIn K (.ref f7) = true)
    (a8 : PySem.W.nsIn K mainGlobals "_law_ledger" = some (some (.ref f8))) (l8 : K.lookup f8 = some ⟨oc8, od8, .func (PySem.W.fnOf "_law_ledger" "_law_ledger" (defArgs s_law_ledger) (defBody s_law_ledger) (defScope s_law_ledger) .none kV8 dc8 pm8 an8 cd8 ct8), sl8⟩) (c8 : PySem.W.codeIn K cd8 "_law_ledger" = true) (k8 : PySem.W.keepIn K (.ref f8) = true)
    (a9 : PySem.W.nsIn K mainGlobals "is_active" = some (some (.ref f9))) (l9 : K.lookup f9 = some ⟨oc9, od9, .func (PySem.W.fnOf "is_active" "is_active" (defArgs s_is_active) (defBody s_is_active) (defScope s_is_active) .none kV9 dc9 pm9 an9 cd9 ct9), sl9⟩) (c9 : PySem.W.codeIn K cd9 "is_active" = true) (k9 : PySem.W.keepIn K (.ref f9) = true)
    (a10 : PySem.W.nsIn K mainGlobals "_had_commits" = some (some (.ref f10))) (l10 : K.lookup f10 = some ⟨oc10, od10, .func (PySem.W.fnOf "_had_commits" "_had_commits" (defArgs s_had_commits) (defBody s_had_commits) (defScope s_had_commits) .none kV10 dc10 pm10 an10 cd10 ct10), sl10⟩) (c10 : PySem.W.codeIn K cd10 "_had_commits" = true) (k10 : PySem.W.keepIn K (.ref f10) = true)
    (a11 : PySem.W.nsIn K mainGlobals "is_true" = some (some (.ref f11))) (l11 : K.lookup f11 = some ⟨oc11, od11, .func (PySem.W.fnOf "is_true" "is_true" (defArgs s_is_true) (defBody s_is_true) (defScope s_is_true) .none kV11 dc11 pm11 an11 cd11 ct11), sl11⟩) (c11 : PySem.W.codeIn K cd11 "is_true" = true) (k11 : PySem.W.keepIn K (.ref f11) = true)
    (a12 : PySem.W.nsIn K mainGlobals "_law_is_true" = some (some (.ref f12))) (l12 : K.lookup f12 = some ⟨oc12, od12, .func (PySem.W.fnOf "_law_is_true" "_law_is_true" (defArgs s_law_is_true) (defBody s_law_is_true) (defScope s_law_is_true) .none kV12 dc12 pm12 an12 cd12 ct12), sl12⟩) (c12 : PySem.W.codeIn K cd12 "_law_is_true" = true) (k12 : PySem.W.keepIn K (.ref f12) = true)
    (a13 : PySem.W.nsIn K mainGlobals "_law_leases" = some (some (.ref f13))) (l13 : K.lookup f13 = some ⟨oc13, od13, .func (PySem.W.fnOf "_law_leases" "_law_leases" (defArgs s_law_leases) (defBody s_law_leases) (defScope s_law_leases) .none kV13 dc13 pm13 an13 cd13 ct13), sl13⟩) (c13 : PySem.W.codeIn K cd13 "_law_leases" = true) (k13 : PySem.W.keepIn K (.ref f13) = true)
    (a14 : PySem.W.nsIn K mainGlobals "_law_statement" = some (some (.ref f14))) (l14 : K.lookup f14 = some ⟨oc14, od14, .func (PySem.W.fnOf "_law_statement" "_law_statement" (defArgs s_law_statement) (defBody s_law_statement) (defScope s_law_statement) .none kV14 dc14 pm14 an14 cd14 ct14), sl14⟩) (c14 : PySem.W.codeIn K cd14 "_law_statement" = true) (k14 : PySem.W.keepIn K (.ref f14) = true)
    (a15 : PySem.W.nsIn K mainGlobals "law" = some (some (.ref f15))) (l15 : K.lookup f15 = some ⟨oc15, od15, .func (PySem.W.fnOf "law" "law" (defArgs s_law) (defBody s_law) (defScope s_law) .none kV15 dc15 pm15 an15 cd15 ct15), sl15⟩) (c15 : PySem.W.codeIn K cd15 "law" = true) (k15 : PySem.W.keepIn K (.ref f15) = true)
    (y_int : PySem.W.nsIn K mainGlobals "int" = some none) (y_len : PySem.W.nsIn K mainGlobals "len" = some none) (y_list : PySem.W.nsIn K mainGlobals "list" = some none) (y_range : PySem.W.nsIn K mainGlobals "range" = some none) (y_sorted : PySem.W.nsIn K mainGlobals "sorted" = some none) (y_tuple : PySem.W.nsIn K mainGlobals "tuple" = some none)  :
    ∃ fd : FuncData, (∀ (s : Shared) (v : Value), BindsTo s fd ⟨[v], []⟩ [("script", v)]) ∧ ∀ base : Heap, K.In base → base.Ns mainGlobals mg → FnOk l.prog w K mg base (L2.CX l.prog w) 7 fa fd ["script"] (spOf K (fun _ => False) spLaw) := by
  have e := hfa.symm.trans (PySem.W.mg_of X G a15)
  cases e
  have z_int : mg "int" = none := PySem.W.mg_none_of X G y_int
  have z_len : mg "len" = none := PySem.W.mg_none_of X G y_len
  have z_list : mg "list" = none := PySem.W.mg_none_of X G y_list
  have z_range : mg "range" = none := PySem.W.mg_none_of X G y_range
  have z_sorted : mg "sorted" = none := PySem.W.mg_none_of X G y_sorted
  have z_tuple : mg "tuple" = none := PySem.W.mg_none_of X G y_tuple
  refine ⟨PySem.W.fnOf "law" "law" (defArgs s_law) (defBody s_law) (defScope s_law) .none kV15 dc15 pm15 an15 cd15 ct15, fun s v => .of_eq rfl, fun base _ _ => ?_⟩
  have c_law_mix := cl_law_mix (P := l.prog) (w := w) (base := base) (T := fun _ => False) (df_mk X G a0 l0 c0 k0) z_int
  have c_law_number := cl_law_number (P := l.prog) (w := w) (base := base) (T := fun _ => False) (df_mk X G a1 l1 c1 k1) c_law_mix
  have c_law_state := cl_law_state (P := l.prog) (w := w) (base := base) (T := fun _ => False) (df_mk X G a2 l2 c2 k2) z_len z_list
  have c_law_draw := cl_law_draw (P := l.prog) (w := w) (base := base) (T := fun _ => False) (df_mk X G a3 l3 c3 k3) z_int z_len c_law_number
  have c_law_tells := cl_law_tells (P := l.prog) (w := w) (base := base) (T := fun _ => False) (df_mk X G a4 l4 c4 k4)
  have c_law_key := cl_law_key (P := l.prog) (w := w) (base := base) (T := fun _ => False) (df_mk X G a5 l5 c5 k5) c_law_draw
  have c_law_cover := cl_law_cover (P := l.prog) (w := w) (base := base) (T := fun _ => False) (df_mk X G a6 l6 c6 k6) c_law_draw c_law_key
  have c_law_group := cl_law_group (P := l.prog) (w := w) (base := base) (T := fun _ => False) (df_mk X G a7 l7 c7 k7) z_range z_sorted z_tuple c_law_draw c_law_key
  have c_law_ledger := cl_law_ledger (P := l.prog) (w := w) (base := base) (T := fun _ => False) (df_mk X G a8 l8 c8 k8) z_range c_law_draw c_law_group
  have c_is_active := cl_is_active (P := l.prog) (w := w) (base := base) (T := fun _ => False) (df_mk X G a9 l9 c9 k9)
  have c_had_commits := cl_had_commits (P := l.prog) (w := w) (base := base) (T := fun _ => False) (df_mk X G a10 l10 c10 k10) z_len
  have c_is_true := cl_is_true (P := l.prog) (w := w) (base := base) (T := fun _ => False) (df_mk X G a11 l11 c11 k11) z_len c_had_commits c_is_active
  have c_law_is_true := cl_law_is_true (P := l.prog) (w := w) (base := base) (T := fun _ => False) (df_mk X G a12 l12 c12 k12) z_len
  have c_law_leases := cl_law_leases (P := l.prog) (w := w) (base := base) (T := fun _ => False) (df_mk X G a13 l13 c13 k13) z_len z_range c_law_cover c_law_draw
  have c_law_statement := cl_law_statement (P := l.prog) (w := w) (base := base) (T := fun _ => False) (df_mk X G a14 l14 c14 k14) z_int z_len c_law_draw
  exact fn_law (fun_mk l15 c15 k15) z_len z_range c_law_draw c_law_is_true c_law_leases c_law_ledger c_law_state c_law_statement c_law_tells c_is_true
end
end Lw
open PySem PySem.W PyProof.Rows
set_option maxRecDepth 100000 in
set_option maxHeartbeats 0 in
theorem PySem.Challenge.cw_leasehall_k32_true_statements_holds : PySem.Challenge.rw_leasehall_k32_true_statements.Holds := by
  w_on; o_law; k_head; (case hw => w_witness2)
  k_fill
  refine Ab.law_walk (l := PySem.Challenge.rw_leasehall_k32_true_statements) (k := 7) ⟨rfl, by decide, by decide⟩ rfl rfl (fun w h Y => PySem.W.kIn_of Y) ?F
  case F =>
    intro w mg fa h KX G hmg
    refine' Lw.all_mk KX G hmg ?a0 ?l0 ?c0 ?k0 ?a1 ?l1 ?c1 ?k1 ?a2 ?l2 ?c2 ?k2 ?a3 ?l3 ?c3 ?k3 ?a4 ?l4 ?c4 ?k4 ?a5 ?l5 ?c5 ?k5 ?a6 ?l6 ?c6 ?k6 ?a7 ?l7 ?c7 ?k7 ?a8 ?l8 ?c8 ?k8 ?a9 ?l9 ?c9 ?k9 ?a10 ?l10 ?c10 ?k10 ?a11 ?l11 ?c11 ?k11 ?a12 ?l12 ?c12 ?k12 ?a13 ?l13 ?c13 ?k13 ?a14 ?l14 ?c14 ?k14 ?a15 ?l15 ?c15 ?k15 ?y_int ?y_len ?y_list ?y_range ?y_sorted ?y_tuple
    (case a0 => k_is)
    (case l0 => k_is)
    (case c0 => k_is)
    (case k0 => k_is)
    (case a1 => k_is)
    (case l1 => k_is)
    (case c1 => k_is)
    (case k1 => k_is)
    (case a2 => k_is)
    (case l2 => k_is)
    (case c2 => k_is)
    (case k2 => k_is)
    (case a3 => k_is)
    (case l3 => k_is)
    (case c3 => k_is)
    (case k3 => k_is)
    (case a4 => k_is)
    (case l4 => k_is)
    (case c4 => k_is)
    (case k4 => k_is)
    (case a5 => k_is)
    (case l5 => k_is)
    (case c5 => k_is)
    (case k5 => k_is)
    (case a6 => k_is)
    (case l6 => k_is)
    (case c6 => k_is)
    (case k6 => k_is)
    (case a7 => k_is)
    (case l7 => k_is)
    (case c7 => k_is)
    (case k7 => k_is)
    (case a8 => k_is)
    (case l8 => k_is)
    (case c8 => k_is)
    (case k8 => k_is)
    (case a9 => k_is)
    (case l9 => k_is)
    (case c9 => k_is)
    (case k9 => k_is)
    (case a10 => k_is)
    (case l10 => k_is)
    (case c10 => k_is)
    (case k10 => k_is)
    (case a11 => k_is)
    (case l11 => k_is)
    (case c11 => k_is)
    (case k11 => k_is)
    (case a12 => k_is)
    (case l12 => k_is)
    (case c12 => k_is)
    (case k12 => k_is)
    (case a13 => k_is)
    (case l13 => k_is)
    (case c13 => k_is)
    (case k13 => k_is)
    (case a14 => k_is)
    (case l14 => k_is)
    (case c14 => k_is)
    (case k14 => k_is)
    (case a15 => k_is)
    (case l15 => k_is)
    (case c15 => k_is)
    (case k15 => k_is)
    (case y_int => k_is)
    (case y_len => k_is)
    (case y_list => k_is)
    (case y_range => k_is)
    (case y_sorted => k_is)
    (case y_tuple => k_is)
#print axioms PySem.Challenge.cw_leasehall_k32_true_statements_holds

