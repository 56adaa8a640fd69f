import PyProof.Rows.All
import Wide.All
import OpenK.AllK
import Wide.FinOn
import HandS.ForMost
import HandS.ExcOwn
import HandS.TryMany
import HandS.WordsExc
import HandS.Style
import HandS.AnyAll
import HandS.Lambda
import HandS.TupAny
import HandS.GenList
import HandS.EndTab
import HandS.Iter
import HandS.Steps
import HandS.ExcIs
import PyProof.ExcBaseAll.ValueError
import HandS.DictComp
import HandS.IsInst
import HandS.TupLen
import HandS.Conv
import PyProof.Rows.StrInSeq3
import HandS.DictTup
import KE.KDictDisplayH
import HandS.SortKw
import KE.DataMinKey
import HandS.RevTup
import HandS.Rev
import HandS.IterVal
import HandS.More
import KE.GoesEnumKw
import KE.DataCmp
import KE.DatumOrd
import KE.SortData
import HandS.SortInts
import HandS.Flow
import HandS.Deep
import KE.KNestM
import PyProof.ReprRoads
import PyProof.Rows.NestShow
import KE.DatumMoreOrd
import HandS.Strs
import HandS.SetFor
import PySem.Challenge.RW_leasehall_k61_whole_few_keys_move
set_option Elab.async false
set_option linter.all false
set_option maxRecDepth 100000
set_option maxHeartbeats 2000000
/-! A layer of data over the hand layer: values as trees, a heap that only grows (P), objects that change (M). -/
namespace Ab
open PySem L2

/-- a value as a tree; ref: an object that changes, a class -/
inductive D where
  | non | bl (b : Bool) | int (i : Int) | str (s : Str) | tup (ds : List D) | lst (ds : List D) | lsw (ds : List D) | dct (kvs : List (Key × D)) | ref (a : Addr) | ty (n : String)

mutual
inductive Rep (K : PySem.W.Frag) (P : Hp) : V → D → Prop
  | non : Rep K P .non .non
  | bl (b : Bool) : Rep K P (.bl b) (.bl b)
  | int (i : Int) : Rep K P (.int i) (.int i)
  | str (s : Str) : Rep K P (.str s) (.str s)
  | ty (n : String) : Rep K P (.ty n) (.ty n)
  | ref (a : Addr) : Rep K P (.ref a) (.ref a)
  | tup {a : Addr} {vs : List V} {ds : List D} : P a = some (.tup vs) → RepL K P vs ds → Rep K P (.ref a) (.tup ds)
  | lst {a : Addr} {vs : List V} {ds : List D} : P a = some (.lst vs) → RepL K P vs ds → Rep K P (.ref a) (.lst ds)
  | lsw {a : Addr} {vs : List V} {ds : List D} : SqL K P a vs → RepL K P vs ds → Rep K P (.ref a) (.lsw ds)
  | dct {a : Addr} {kvs : List (Key × V)} {kds : List (Key × D)} : P a = some (.dK kvs) → kvs.map Prod.fst = kds.map Prod.fst → RepL K P (kvs.map Prod.snd) (kds.map Prod.snd) → Rep K P (.ref a) (.dct kds)
inductive RepL (K : PySem.W.Frag) (P : Hp) : List V → List D → Prop
  | nil : RepL K P [] []
  | cons {v : V} {d : D} {vs : List V} {ds : List D} : Rep K P v d → RepL K P vs ds → RepL K P (v :: vs) (d :: ds)
end

/-- P' has all that P has -/
def Ex (P P' : Hp) : Prop := ∀ a o, P a = some o → P' a = some o
theorem Ex.refl (P : Hp) : Ex P P := fun _ _ h => h
theorem Ex.trans {P P1 P2 : Hp} (a : Ex P P1) (b : Ex P1 P2) : Ex P P2 := fun x o h => b x o (a x o h)
theorem Ex.put {P : Hp} {p : Addr} {o : HO} (h : P p = none) : Ex P (upd P p o) := fun a u e => by
  rw [upd_ne (ne_of_none e h)]
  exact e
theorem Ex.sl {K : PySem.W.Frag} {P P' : Hp} {a : Addr} {xs : List V} (e : Ex P P') (h : SqL K P a xs) : SqL K P' a xs := by
  rcases h with (h | ⟨o, h⟩) | h
  · exact .inl (.inl (e _ _ h))
  · exact .inl (.inr ⟨o, e _ _ h⟩)
  · exact .inr h
theorem Ex.st {K : PySem.W.Frag} {P P' : Hp} {a : Addr} {xs : List V} (e : Ex P P') (h : SqT K P a xs) : SqT K P' a xs := by
  rcases h with (h | ⟨o, h⟩) | h
  · exact .inl (.inl (e _ _ h))
  · exact .inl (.inr ⟨o, e _ _ h⟩)
  · exact .inr h
mutual
theorem Rep.mono {K : PySem.W.Frag} {P P' : Hp} (e : Ex P P') : ∀ {v : V} {d : D}, Rep K P v d → Rep K P' v d
  | _, _, .non => .non
  | _, _, .bl b => .bl b
  | _, _, .int i => .int i
  | _, _, .str s => .str s
  | _, _, .ty n => .ty n
  | _, _, .ref a => .ref a
  | _, _, .tup h r => .tup (e _ _ h) (RepL.mono e r)
  | _, _, .lst h r => .lst (e _ _ h) (RepL.mono e r)
  | _, _, .lsw h r => .lsw (e.sl h) (RepL.mono e r)
  | _, _, .dct h k r => .dct (e _ _ h) k (RepL.mono e r)
theorem RepL.mono {K : PySem.W.Frag} {P P' : Hp} (e : Ex P P') : ∀ {vs : List V} {ds : List D}, RepL K P vs ds → RepL K P' vs ds
  | _, _, .nil => .nil
  | _, _, .cons h r => .cons (Rep.mono e h) (RepL.mono e r)
end
section
variable {K : PySem.W.Frag} {P : Hp}
theorem RepL.len : ∀ {vs : List V} {ds : List D}, RepL K P vs ds → vs.length = ds.length
  | _, _, .nil => rfl
  | _, _, .cons _ r => congrArg (· + 1) r.len
theorem RepL.get : ∀ {vs : List V} {ds : List D} {i : Nat} {v : V}, RepL K P vs ds → vs[i]? = some v → ∃ d, ds[i]? = some d ∧ Rep K P v d
  | _, _, _, _, .nil, h => by cases h
  | _, _, 0, _, .cons r _, h => by cases h; exact ⟨_, rfl, r⟩
  | _, _, i + 1, _, .cons _ t, h => RepL.get (i := i) t h
theorem RepL.getd : ∀ {vs : List V} {ds : List D} {i : Nat} {d : D}, RepL K P vs ds → ds[i]? = some d → ∃ v, vs[i]? = some v ∧ Rep K P v d
  | _, _, _, _, .nil, h => by cases h
  | _, _, 0, _, .cons r _, h => by cases h; exact ⟨_, rfl, r⟩
  | _, _, i + 1, _, .cons _ t, h => RepL.getd (i := i) t h
theorem RepL.app : ∀ {vs ws : List V} {ds es : List D}, RepL K P vs ds → RepL K P ws es → RepL K P (vs ++ ws) (ds ++ es)
  | _, _, _, _, .nil, h => h
  | _, _, _, _, .cons r t, h => .cons r (t.app h)
theorem RepL.set : ∀ {vs : List V} {ds : List D} {v : V} {d : D} (i : Nat), RepL K P vs ds → Rep K P v d → RepL K P (vs.set i v) (ds.set i d)
  | _, _, _, _, _, .nil, _ => .nil
  | _, _, _, _, 0, .cons _ t, h => .cons h t
  | _, _, _, _, i + 1, .cons r t, h => .cons r (t.set i h)
theorem RepL.take : ∀ {vs : List V} {ds : List D} (n : Nat), RepL K P vs ds → RepL K P (vs.take n) (ds.take n)
  | _, _, 0, _ => .nil
  | _, _, _ + 1, .nil => .nil
  | _, _, n + 1, .cons r t => .cons r (t.take n)
theorem RepL.drop : ∀ {vs : List V} {ds : List D} (n : Nat), RepL K P vs ds → RepL K P (vs.drop n) (ds.drop n)
  | _, _, 0, r => r
  | _, _, _ + 1, .nil => .nil
  | _, _, n + 1, .cons _ t => t.drop n
end

/-- what changes: a list, a dict, an instance -/
inductive MO where
  | lst (ds : List D) | dct (kvs : List (Key × D)) | ins (C dx : Addr) (fs : List (Str × D)) | dlk (kvs : List (Key × D)) | dcT (kvs : List (List Key × D)) | dlT (kvs : List (List Key × D))
/-- a dict that a loop walks -/
def MO.lk : MO → Bool | .dlk _ => true | .dlT _ => true | _ => false
abbrev Mh := Addr → Option MO
def um (M : Mh) (a : Addr) (m : MO) : Mh := fun b => if b = a then some m else M b
theorem um_same {M : Mh} {a : Addr} {m : MO} : um M a m a = some m := by unfold um; rw [if_pos rfl]
theorem um_ne {M : Mh} {a b : Addr} {m : MO} (h : b ≠ a) : um M a m b = M b := by unfold um; rw [if_neg h]
theorem um_um {M : Mh} {a : Addr} {m n : MO} : um (um M a m) a n = um M a n := by
  funext b; unfold um; split <;> rfl
/-- M without a -/
def em (M : Mh) (a : Addr) : Mh := fun b => if b = a then none else M b
inductive RepM (K : PySem.W.Frag) (P : Hp) : HO → MO → Prop
  | lst {vs : List V} {ds : List D} : RepL K P vs ds → RepM K P (.lst vs) (.lst ds)
  | dct {kvs : List (Key × V)} {kds : List (Key × D)} : kvs.map Prod.fst = kds.map Prod.fst → RepL K P (kvs.map Prod.snd) (kds.map Prod.snd) → RepM K P (.dK kvs) (.dct kds)
  | ins {C dx : Addr} {fv : List (Str × V)} {fs : List (Str × D)} : fv.map Prod.fst = fs.map Prod.fst → RepL K P (fv.map Prod.snd) (fs.map Prod.snd) → RepM K P (.ins C dx fv) (.ins C dx fs)
  | dlk {ob : Obj} {kvs : List (Key × V)} {kds : List (Key × D)} : kvs.map Prod.fst = kds.map Prod.fst → RepL K P (kvs.map Prod.snd) (kds.map Prod.snd) → RepM K P (.frz ob (.dK kvs)) (.dlk kds)
  | dcT {kvs : List (List Key × V)} {kds : List (List Key × D)} : kvs.map Prod.fst = kds.map Prod.fst → RepL K P (kvs.map Prod.snd) (kds.map Prod.snd) → RepM K P (.dT kvs) (.dcT kds)
  | dlT {ob : Obj} {kvs : List (List Key × V)} {kds : List (List Key × D)} : kvs.map Prod.fst = kds.map Prod.fst → RepL K P (kvs.map Prod.snd) (kds.map Prod.snd) → RepM K P (.frz ob (.dT kvs)) (.dlT kds)
theorem RepM.mono {K : PySem.W.Frag} {P P' : Hp} (e : Ex P P') {o : HO} {m : MO} (h : RepM K P o m) : RepM K P' o m := by
  cases h with
  | lst r => exact .lst (RepL.mono e r)
  | dct k r => exact .dct k (RepL.mono e r)
  | ins k r => exact .ins k (RepL.mono e r)
  | dlk k r => exact .dlk k (RepL.mono e r)
  | dcT k r => exact .dcT k (RepL.mono e r)
  | dlT k r => exact .dlT k (RepL.mono e r)

/-- the code tables: g, of generator expressions; l, of lambdas of the name q -/
structure Tt where
  g : Addr → Prop
  l : Addr → Str → Prop
  dj : ∀ a q, l a q → ¬ g a
  un : ∀ a q q', l a q → l a q' → q = q'
instance : CoeFun Tt fun _ => Addr → Prop := ⟨fun T a => T.g a ∨ ∃ q, T.l a q⟩
def T0 : Tt := ⟨fun _ => False, fun _ _ => False, fun _ _ h => h.elim, fun _ _ _ h => h.elim⟩
def TbOk (T : Tt) (P H : Hp) (a : Addr) : Prop := ∃ ps, H a = some (.tbl ps) ∧ TriplesOk ps.toList ∧ ∀ q, T.l a q → ∀ pos cv, codeAmong pos ps.toList = some cv → ∃ c, cv = .ref c ∧ P c = some (LamX.CodeO c q)
theorem TbOk.g {T : Tt} {P H : Hp} {a : Addr} (h : TbOk T P H a) : GxR.TabG H a := let ⟨ps, e, t, _⟩ := h; ⟨ps, e, t⟩
theorem TbOk.ex {T : Tt} {P P' H : Hp} {a : Addr} (h : TbOk T P H a) (e : Ex P P') : TbOk T P' H a := let ⟨ps, e1, t, f⟩ := h; ⟨ps, e1, t, fun q tq pos cv hc => let ⟨c, a, b⟩ := f q tq pos cv hc; ⟨c, a, e _ _ b⟩⟩
/-- P and M stand in H; T: the code tables -/
structure Wr (K : PySem.W.Frag) (T : Tt) (P : Hp) (M : Mh) (H : Hp) : Prop where
  pure : ∀ a o, P a = some o → H a = some o ∨ ∃ kvs ob, o = .dK kvs ∧ H a = some (.frz ob o)
  chg : ∀ a m, M a = some m → ∃ o, H a = some o ∧ RepM K P o m
  dis : ∀ a m, M a = some m → P a = none
  tab : ∀ a, T a → TbOk T P H a ∧ P a = none ∧ M a = none
structure Step (K : PySem.W.Frag) (T : Tt) (P : Hp) (M : Mh) (H : Hp) (P' : Hp) (M' : Mh) (H' : Hp) : Prop where
  ex : Ex P P'
  wr : Wr K T P' M' H'
  fr : ∀ a o, H a = some o → P a = none → M a = none → ¬ T a → (∀ xs, o ≠ .tup xs) → (∀ φ, o ≠ .ext φ) → H' a = some o ∧ P' a = none ∧ M' a = none
  fz : ∀ a ob o, H a = some (.frz ob o) → H' a = some (.frz ob o)
  th : ∀ a o, H a = some o → ∃ o', H' a = some o'
theorem th_upd {H : Hp} {p a : Addr} {o u : HO} (h : H a = some o) : ∃ o', upd H p u a = some o' := by
  by_cases q : a = p
  · subst q; exact ⟨u, upd_same⟩
  · exact ⟨o, by rw [upd_ne q]; exact h⟩
section
variable {K : PySem.W.Frag} {T : Tt} {P P' P2 : Hp} {M M' M2 : Mh} {H H' H2 : Hp}
theorem Step.refl (w : Wr K T P M H) : Step K T P M H P M H := ⟨Ex.refl P, w, fun _ _ a b c _ _ _ => ⟨a, b, c⟩, fun _ _ _ h => h, fun _ o h => ⟨o, h⟩⟩
theorem Step.trans (a : Step K T P M H P' M' H') (b : Step K T P' M' H' P2 M2 H2) : Step K T P M H P2 M2 H2 :=
  ⟨a.ex.trans b.ex, b.wr, fun x o h1 h2 h3 h4 h5 h6 => let ⟨q1, q2, q3⟩ := a.fr x o h1 h2 h3 h4 h5 h6; b.fr x o q1 q2 q3 h4 h5 h6, fun x ob o h => b.fz x ob o (a.fz x ob o h), fun x o h => let ⟨_, q⟩ := a.th x o h; b.th x _ q⟩
theorem Step.back (s : Step K T P M H P' M' H') {p : Addr} (h : H' p = none) : H p = none := by
  cases z : H p with
  | none => rfl
  | some o =>
    obtain ⟨_, q⟩ := s.th p o z
    rw [h] at q; cases q
theorem Wr.sl (w : Wr K T P M H) {a : Addr} {xs : List V} (h : SqL K P a xs) : SqL K H a xs := by
  rcases h with (h | ⟨o, h⟩) | h
  · rcases w.pure _ _ h with q | ⟨kvs, ob, e, q⟩
    · exact .inl (.inl q)
    · cases e
  · rcases w.pure _ _ h with q | ⟨kvs, ob, e, q⟩
    · exact .inl (.inr ⟨o, q⟩)
    · cases e
  · exact .inr h
theorem Wr.st (w : Wr K T P M H) {a : Addr} {xs : List V} (h : SqT K P a xs) : SqT K H a xs := by
  rcases h with (h | ⟨o, h⟩) | h
  · rcases w.pure _ _ h with q | ⟨kvs, ob, e, q⟩
    · exact .inl (.inl q)
    · cases e
  · rcases w.pure _ _ h with q | ⟨kvs, ob, e, q⟩
    · exact .inl (.inr ⟨o, q⟩)
    · cases e
  · exact .inr h
theorem Wr.pfree (w : Wr K T P M H) {p : Addr} (h : H p = none) : P p = none := by
  cases q : P p with
  | none => rfl
  | some o =>
    rcases w.pure _ _ q with z | ⟨_, _, _, z⟩
    · rw [h] at z; cases z
    · rw [h] at z; cases z
theorem Wr.mfree (w : Wr K T P M H) {p : Addr} (h : H p = none) : M p = none := by
  cases q : M p with
  | none => rfl
  | some o =>
    obtain ⟨_, z, _⟩ := w.chg _ _ q
    rw [h] at z; cases z
theorem tabg_some {T : Tt} {P H : Hp} {a : Addr} (h : TbOk T P H a) : ∃ ps, H a = some (.tbl ps) := let ⟨ps, h, _⟩ := h; ⟨ps, h⟩
theorem Wr.tne (w : Wr K T P M H) {p : Addr} (h : H p = none) : ¬ T p := fun t => by
  obtain ⟨ps, q⟩ := tabg_some (w.tab p t).1
  rw [h] at q; cases q
theorem tabg_upd {T : Tt} {P H : Hp} {a p : Addr} {o : HO} (h : TbOk T P H a) (n : a ≠ p) : TbOk T P (upd H p o) a := by
  obtain ⟨ps, e, t⟩ := h
  exact ⟨ps, by rw [upd_ne n]; exact e, t⟩
/-- a new object that does not change -/
theorem Step.newP (w : Wr K T P M H) {p : Addr} {o : HO} (h : H p = none) : Step K T P M H (upd P p o) M (upd H p o) := by
  have pf := w.pfree h
  have mf := w.mfree h
  refine ⟨Ex.put pf, ⟨fun a u e => ?_, fun a m e => ?_, fun a m e => ?_, fun a t => ?_⟩, fun a u e1 e2 e3 _ _ _ => ?_, fun a ob u e => ?_, fun _ _ z => th_upd z⟩
  · by_cases q : a = p
    · subst q; rw [upd_same] at e; cases e; exact .inl upd_same
    · rw [upd_ne q] at e; rw [upd_ne q]; exact w.pure a u e
  · obtain ⟨u, e1, r⟩ := w.chg a m e
    have n : a ≠ p := fun z => by rw [z, mf] at e; cases e
    exact ⟨u, by rw [upd_ne n]; exact e1, r.mono (Ex.put pf)⟩
  · have n : a ≠ p := fun z => by rw [z, mf] at e; cases e
    rw [upd_ne n]; exact w.dis a m e
  · obtain ⟨t1, t2, t3⟩ := w.tab a t
    have n : a ≠ p := fun z => w.tne h (z ▸ t)
    exact ⟨(tabg_upd t1 n).ex (Ex.put pf), by rw [upd_ne n]; exact t2, t3⟩
  · have n : a ≠ p := fun z => by rw [z, h] at e1; cases e1
    exact ⟨by rw [upd_ne n]; exact e1, by rw [upd_ne n]; exact e2, e3⟩
  · have n : a ≠ p := fun z => by rw [z, h] at e; cases e
    rw [upd_ne n]; exact e
/-- a new object that may change -/
theorem Step.newM (w : Wr K T P M H) {p : Addr} {o : HO} {m : MO} (h : H p = none) (r : RepM K P o m) : Step K T P M H P (um M p m) (upd H p o) := by
  have pf := w.pfree h
  have mf := w.mfree h
  refine ⟨Ex.refl P, ⟨fun a u e => ?_, fun a m e => ?_, fun a m e => ?_, fun a t => ?_⟩, fun a u e1 e2 e3 _ _ _ => ?_, fun a ob u e => ?_, fun _ _ z => th_upd z⟩
  · have n : a ≠ p := fun z => by rw [z, pf] at e; cases e
    rw [upd_ne n]; exact w.pure a u e
  · by_cases q : a = p
    · subst q; rw [um_same] at e; cases e; exact ⟨o, upd_same, r⟩
    · rw [um_ne q] at e; rw [upd_ne q]; exact w.chg a m e
  · by_cases q : a = p
    · rw [q]; exact pf
    · rw [um_ne q] at e; exact w.dis a m e
  · obtain ⟨t1, t2, t3⟩ := w.tab a t
    have n : a ≠ p := fun z => w.tne h (z ▸ t)
    exact ⟨tabg_upd t1 n, t2, by rw [um_ne n]; exact t3⟩
  · have n : a ≠ p := fun z => by rw [z, h] at e1; cases e1
    exact ⟨by rw [upd_ne n]; exact e1, e2, by rw [um_ne n]; exact e3⟩
  · have n : a ≠ p := fun z => by rw [z, h] at e; cases e
    rw [upd_ne n]; exact e
/-- an object that changes -/
theorem Step.put (w : Wr K T P M H) {p : Addr} {o : HO} {m m' : MO} (h : M p = some m') (r : RepM K P o m) (nl : m'.lk = false := by rfl) : Step K T P M H P (um M p m) (upd H p o) := by
  have pf := w.dis _ _ h
  obtain ⟨u0, hu0, ru0⟩ := w.chg _ _ h
  have nt : ¬ T p := fun t => by rw [(w.tab p t).2.2] at h; cases h
  refine ⟨Ex.refl P, ⟨fun a u e => ?_, fun a m e => ?_, fun a m e => ?_, fun a t => ?_⟩, fun a u e1 e2 e3 _ _ _ => ?_, fun a ob u e => ?_, fun _ _ z => th_upd z⟩
  · have n : a ≠ p := fun z => by rw [z, pf] at e; cases e
    rw [upd_ne n]; exact w.pure a u e
  · by_cases q : a = p
    · subst q; rw [um_same] at e; cases e; exact ⟨o, upd_same, r⟩
    · rw [um_ne q] at e; rw [upd_ne q]; exact w.chg a m e
  · by_cases q : a = p
    · rw [q]; exact pf
    · rw [um_ne q] at e; exact w.dis a m e
  · obtain ⟨t1, t2, t3⟩ := w.tab a t
    have n : a ≠ p := fun z => nt (z ▸ t)
    exact ⟨tabg_upd t1 n, t2, by rw [um_ne n]; exact t3⟩
  · have n : a ≠ p := fun z => by rw [z, h] at e3; cases e3
    exact ⟨by rw [upd_ne n]; exact e1, e2, by rw [um_ne n]; exact e3⟩
  · have n : a ≠ p := fun z => by
      rw [z, hu0] at e; cases e; cases ru0 <;> cases nl
    rw [upd_ne n]; exact e
/-- an object that neither P nor M knows, new since H: it may be changed; it may go over to P, to M -/
theorem Step.side (st : Step K T P M H P' M' H') {q : Addr} {o : HO} (h : H q = none) (hp : P' q = none) (hm : M' q = none) (nt : ¬ T q) : Step K T P M H P' M' (upd H' q o) := by
  refine ⟨st.ex, ⟨fun a u e => ?_, fun a m e => ?_, st.wr.dis, fun a t => ?_⟩, fun a u e1 e2 e3 e4 e5 e6 => ?_, fun a ob u e => ?_, fun a o z => let ⟨_, q⟩ := st.th a o z; th_upd q⟩
  · have n : a ≠ q := fun z => by rw [z, hp] at e; cases e
    rw [upd_ne n]; exact st.wr.pure a u e
  · have n : a ≠ q := fun z => by rw [z, hm] at e; cases e
    rw [upd_ne n]; exact st.wr.chg a m e
  · obtain ⟨t1, t2, t3⟩ := st.wr.tab a t
    exact ⟨tabg_upd t1 (fun z => nt (z ▸ t)), t2, t3⟩
  · have n : a ≠ q := fun z => by rw [z, h] at e1; cases e1
    rw [upd_ne n]; exact st.fr a u e1 e2 e3 e4 e5 e6
  · have n : a ≠ q := fun z => by rw [z, h] at e; cases e
    rw [upd_ne n]; exact st.fz a ob u e
/-- a step but for objects that are not told of -/
structure StepW (K : PySem.W.Frag) (T : Tt) (P : Hp) (M : Mh) (H : Hp) (P' : Hp) (M' : Mh) (H' : Hp) : Prop where
  ex : Ex P P'
  wr : Wr K T P' M' H'
  fz : ∀ a ob o, H a = some (.frz ob o) → H' a = some (.frz ob o)
  th : ∀ a o, H a = some o → ∃ o', H' a = some o'
theorem Step.w (s : Step K T P M H P' M' H') : StepW K T P M H P' M' H' := ⟨s.ex, s.wr, s.fz, s.th⟩
theorem StepW.trans (a : StepW K T P M H P' M' H') (b : StepW K T P' M' H' P2 M2 H2) : StepW K T P M H P2 M2 H2 :=
  ⟨a.ex.trans b.ex, b.wr, fun x ob o h => b.fz x ob o (a.fz x ob o h), fun x o h => let ⟨_, q⟩ := a.th x o h; b.th x _ q⟩
theorem StepW.side (st : StepW K T P M H P' M' H') {q : Addr} {o : HO} (h : ∀ ob u, H q ≠ some (.frz ob u)) (hp : P' q = none) (hm : M' q = none) (nt : ¬ T q) : StepW K T P M H P' M' (upd H' q o) := by
  refine ⟨st.ex, ⟨fun a u e => ?_, fun a m e => ?_, st.wr.dis, fun a t => ?_⟩, fun a ob u e => ?_, fun a o z => let ⟨_, q⟩ := st.th a o z; th_upd q⟩
  · have n : a ≠ q := fun z => by rw [z, hp] at e; cases e
    rw [upd_ne n]; exact st.wr.pure a u e
  · have n : a ≠ q := fun z => by rw [z, hm] at e; cases e
    rw [upd_ne n]; exact st.wr.chg a m e
  · obtain ⟨t1, t2, t3⟩ := st.wr.tab a t
    exact ⟨tabg_upd t1 (fun z => nt (z ▸ t)), t2, t3⟩
  · have n : a ≠ q := fun z => h ob u (z ▸ e)
    rw [upd_ne n]; exact st.fz a ob u e
theorem Step.adoptP (st : Step K T P M H P' M' H') {q : Addr} {o : HO} (h : H q = none) (hp : P' q = none) (hm : M' q = none) (nt : ¬ T q) (ho : H' q = some o) : Step K T P M H (upd P' q o) M' H' := by
  refine ⟨st.ex.trans (Ex.put hp), ⟨fun a u e => ?_, fun a m e => ?_, fun a m e => ?_, fun a t => ?_⟩, fun a u e1 e2 e3 e4 e5 e6 => ?_, st.fz, st.th⟩
  · by_cases n : a = q
    · subst n; rw [upd_same] at e; cases e; exact .inl ho
    · rw [upd_ne n] at e; exact st.wr.pure a u e
  · obtain ⟨u, e1, r1⟩ := st.wr.chg a m e
    exact ⟨u, e1, r1.mono (Ex.put hp)⟩
  · have n : a ≠ q := fun z => by rw [z, hm] at e; cases e
    rw [upd_ne n]; exact st.wr.dis a m e
  · obtain ⟨t1, t2, t3⟩ := st.wr.tab a t
    have n : a ≠ q := fun z => nt (z ▸ t)
    exact ⟨t1.ex (Ex.put hp), by rw [upd_ne n]; exact t2, t3⟩
  · have n : a ≠ q := fun z => by rw [z, h] at e1; cases e1
    rw [upd_ne n]; exact st.fr a u e1 e2 e3 e4 e5 e6
theorem Step.adoptM (st : Step K T P M H P' M' H') {q : Addr} {o : HO} {m : MO} (h : H q = none) (hp : P' q = none) (hm : M' q = none) (nt : ¬ T q) (ho : H' q = some o) (r : RepM K P' o m) : Step K T P M H P' (um M' q m) H' := by
  refine ⟨st.ex, ⟨fun a u e => ?_, fun a m e => ?_, fun a m e => ?_, fun a t => ?_⟩, fun a u e1 e2 e3 e4 e5 e6 => ?_, st.fz, st.th⟩
  · exact st.wr.pure a u e
  · by_cases n : a = q
    · subst n; rw [um_same] at e; cases e; exact ⟨o, ho, r⟩
    · rw [um_ne n] at e; exact st.wr.chg a m e
  · by_cases n : a = q
    · rw [n]; exact hp
    · rw [um_ne n] at e; exact st.wr.dis a m e
  · obtain ⟨t1, t2, t3⟩ := st.wr.tab a t
    have n : a ≠ q := fun z => nt (z ▸ t)
    exact ⟨t1, t2, by rw [um_ne n]; exact t3⟩
  · have n : a ≠ q := fun z => by rw [z, h] at e1; cases e1
    rw [um_ne n]; exact st.fr a u e1 e2 e3 e4 e5 e6
/-- no more changes: a list, a dict goes over to what stays -/
theorem Step.freeze (w : Wr K T P M H) {p : Addr} {m : MO} (h : M p = some m) : ∃ o, H p = some o ∧ RepM K P o m ∧ Step K T P M H (upd P p o) (em M p) H := by
  obtain ⟨o, ho, r⟩ := w.chg p m h
  have pf := w.dis _ _ h
  have nt : ¬ T p := fun t => by rw [(w.tab p t).2.2] at h; cases h
  have ene : ∀ a, a ≠ p → em M p a = M a := fun a n => by unfold em; rw [if_neg n]
  have es : em M p p = none := by unfold em; rw [if_pos rfl]
  refine ⟨o, ho, r, Ex.put pf, ⟨fun a u e => ?_, fun a m e => ?_, fun a m e => ?_, fun a t => ?_⟩, fun a u e1 e2 e3 _ _ _ => ?_, fun a ob u e => e, fun _ o z => ⟨o, z⟩⟩
  · by_cases q : a = p
    · subst q; rw [upd_same] at e; cases e; exact .inl ho
    · rw [upd_ne q] at e; exact w.pure a u e
  · have n : a ≠ p := fun z => by rw [z, es] at e; cases e
    rw [ene a n] at e
    obtain ⟨u, e1, r1⟩ := w.chg a m e
    exact ⟨u, e1, r1.mono (Ex.put pf)⟩
  · have n : a ≠ p := fun z => by rw [z, es] at e; cases e
    rw [ene a n] at e
    rw [upd_ne n]; exact w.dis a m e
  · obtain ⟨t1, t2, t3⟩ := w.tab a t
    have n : a ≠ p := fun z => nt (z ▸ t)
    exact ⟨t1.ex (Ex.put pf), by rw [upd_ne n]; exact t2, by rw [ene a n]; exact t3⟩
  · have n : a ≠ p := fun z => by rw [z, h] at e3; cases e3
    exact ⟨e1, by rw [upd_ne n]; exact e2, by rw [ene a n]; exact e3⟩
/-- a dict is locked -/
theorem Step.lock (w : Wr K T P M H) {p : Addr} {o : HO} {m m' : MO} (h : M p = some m') (r : RepM K P o m) (nl : m'.lk = false) : Step K T P M H P (um M p m) (upd H p o) := Step.put w h r nl
/-- .. and unlocked -/
theorem Step.unlock (w : Wr K T P M H) {p : Addr} {m m2 : MO} {o : HO} (h : M p = some m) (nl : m.lk = false) {n : MO} (st : Step K T P M H P2 M2 H2) (h2 : M2 p = some n) (r : RepM K P2 o m2) : Step K T P M H P2 (um M2 p m2) (upd H2 p o) := by
  obtain ⟨u0, hu0, ru0⟩ := w.chg _ _ h
  have pf := st.wr.dis _ _ h2
  have nt : ¬ T p := fun t => by rw [(w.tab p t).2.2] at h; cases h
  refine ⟨st.ex, ⟨fun a u e => ?_, fun a m e => ?_, fun a m e => ?_, fun a t => ?_⟩, fun a u e1 e2 e3 e4 e5 e6 => ?_, fun a ob u e => ?_, fun a o z => let ⟨_, q⟩ := st.th a o z; th_upd q⟩
  · have n : a ≠ p := fun z => by rw [z, pf] at e; cases e
    rw [upd_ne n]; exact st.wr.pure a u e
  · by_cases q : a = p
    · subst q; rw [um_same] at e; cases e; exact ⟨o, upd_same, r⟩
    · rw [um_ne q] at e; rw [upd_ne q]; exact st.wr.chg a m e
  · by_cases q : a = p
    · rw [q]; exact pf
    · rw [um_ne q] at e; exact st.wr.dis a m e
  · obtain ⟨t1, t2, t3⟩ := st.wr.tab a t
    have n : a ≠ p := fun z => nt (z ▸ t)
    exact ⟨tabg_upd t1 n, t2, by rw [um_ne n]; exact t3⟩
  · have n : a ≠ p := fun z => by rw [z, h] at e3; cases e3
    obtain ⟨q1, q2, q3⟩ := st.fr a u e1 e2 e3 e4 e5 e6
    exact ⟨by rw [upd_ne n]; exact q1, q2, by rw [um_ne n]; exact q3⟩
  · have n : a ≠ p := fun z => by
      rw [z, hu0] at e; cases e; cases ru0 <;> cases nl
    rw [upd_ne n]; exact st.fz a ob u e
/-- a tuple that stands goes over to what stays -/
theorem Step.knowT (w : Wr K T P M H) {q : Addr} {xs : List V} (h : H q = some (.tup xs)) : Step K T P M H (upd P q (.tup xs)) M H := by
  have mf : M q = none := by
    cases e : M q with
    | none => rfl
    | some m =>
      obtain ⟨o, ho, r⟩ := w.chg _ _ e
      rw [h] at ho; cases ho; cases r
  have nt : ¬ T q := fun t => by
    obtain ⟨ps, z⟩ := tabg_some (w.tab q t).1
    rw [h] at z; cases z
  have ex : Ex P (upd P q (.tup xs)) := fun a o e => by
    by_cases n : a = q
    · subst n
      rcases w.pure _ _ e with z | ⟨_, _, _, z⟩
      · rw [h] at z; cases z; exact upd_same
      · rw [h] at z; cases z
    · rw [upd_ne n]; exact e
  refine ⟨ex, ⟨fun a u e => ?_, fun a m e => ?_, fun a m e => ?_, fun a t => ?_⟩, fun a u e1 e2 e3 _ e5 _ => ?_, fun a ob u e => e, fun _ o z => ⟨o, z⟩⟩
  · by_cases n : a = q
    · subst n; rw [upd_same] at e; cases e; exact .inl h
    · rw [upd_ne n] at e; exact w.pure a u e
  · obtain ⟨u, e1, r1⟩ := w.chg a m e
    exact ⟨u, e1, r1.mono ex⟩
  · have n : a ≠ q := fun z => by rw [z, mf] at e; cases e
    rw [upd_ne n]; exact w.dis a m e
  · obtain ⟨t1, t2, t3⟩ := w.tab a t
    have n : a ≠ q := fun z => nt (z ▸ t)
    exact ⟨t1.ex ex, by rw [upd_ne n]; exact t2, t3⟩
  · have n : a ≠ q := fun z => by rw [z, h] at e1; cases e1; exact e5 _ rfl
    exact ⟨e1, by rw [upd_ne n]; exact e2, e3⟩
end

/-! ### slots -/
abbrev Sl := List (Option D)
def RepS (K : PySem.W.Frag) (P : Hp) (σ : L2.St) (ρ : Sl) : Prop := σ.length = ρ.length ∧ ∀ (i : Nat) (d : D), ρ[i]? = some (some d) → ∃ v, σ[i]? = some (some v) ∧ Rep K P v d
section
variable {K : PySem.W.Frag} {P P' : Hp} {σ : L2.St} {ρ : Sl}
theorem RepS.mono (e : Ex P P') (h : RepS K P σ ρ) : RepS K P' σ ρ := ⟨h.1, fun i d q => let ⟨v, a, b⟩ := h.2 i d q; ⟨v, a, b.mono e⟩⟩
theorem RepS.set (h : RepS K P σ ρ) {v : V} {d : D} (r : Rep K P v d) (i : Nat) : RepS K P (σ.set i (some v)) (ρ.set i (some d)) := by
  refine ⟨by rw [List.length_set, List.length_set]; exact h.1, fun j e q => ?_⟩
  by_cases hij : i = j
  · subst hij
    by_cases hl : i < ρ.length
    · rw [List.getElem?_set_self hl] at q
      cases q
      exact ⟨v, List.getElem?_set_self (by rw [h.1]; exact hl), r⟩
    · rw [List.getElem?_eq_none (by rw [List.length_set]; omega)] at q; cases q
  · rw [List.getElem?_set_ne hij] at q
    rw [List.getElem?_set_ne hij]
    exact h.2 j e q
theorem RepS.setn (h : RepS K P σ ρ) (i : Nat) : RepS K P (σ.set i none) (ρ.set i none) := by
  refine ⟨by rw [List.length_set, List.length_set]; exact h.1, fun j e q => ?_⟩
  by_cases hij : i = j
  · subst hij
    by_cases hl : i < ρ.length
    · rw [List.getElem?_set_self hl] at q
      cases q
    · rw [List.getElem?_eq_none (by rw [List.length_set]; omega)] at q; cases q
  · rw [List.getElem?_set_ne hij] at q
    rw [List.getElem?_set_ne hij]
    exact h.2 j e q
end
end Ab

set_option Elab.async false
set_option linter.all false
set_option maxRecDepth 100000
set_option maxHeartbeats 2000000
namespace Ab
open PySem L2

abbrev XP := Value → Option Addr → Sl → Mh → Prop
def XH (K : PySem.W.Frag) (T : Tt) (W : WX) (P : Hp) (M : Mh) (H : Hp) (Ξ : XP) : Prop :=
  ∀ cls dd ρ' σ' P' M' H', Ξ cls dd ρ' M' → Step K T P M H P' M' H' → RepS K P' σ' ρ' → W cls dd σ' H'
structure Ed where
  nx : Sl → Mh → Prop
  rt : D → Mh → Prop
  bk : Sl → Mh → Prop
  ct : Sl → Mh → Prop
structure EdH (K : PySem.W.Frag) (T : Tt) (P : Hp) (M : Mh) (H : Hp) (ε : Ed) (Dn : Ends) : Prop where
  nx : ∀ ρ' σ' P' M' H', ε.nx ρ' M' → Step K T P M H P' M' H' → RepS K P' σ' ρ' → Dn.nx σ' H'
  rt : ∀ v d P' M' H', ε.rt d M' → Step K T P M H P' M' H' → Rep K P' v d → Dn.rt v H'
  bk : ∀ ρ' σ' P' M' H', ε.bk ρ' M' → Step K T P M H P' M' H' → RepS K P' σ' ρ' → Dn.bk σ' H'
  ct : ∀ ρ' σ' P' M' H', ε.ct ρ' M' → Step K T P M H P' M' H' → RepS K P' σ' ρ' → Dn.ct σ' H'
section
variable {K : PySem.W.Frag} {T : Tt} {W : WX} {P P' : Hp} {M M' : Mh} {H H' : Hp} {Ξ : XP} {ε : Ed} {Dn : Ends}
theorem XH.mono (h : XH K T W P M H Ξ) (s : Step K T P M H P' M' H') : XH K T W P' M' H' Ξ := fun cls dd ρ2 σ2 P2 M2 H2 q st r => h cls dd ρ2 σ2 P2 M2 H2 q (s.trans st) r
theorem EdH.mono (h : EdH K T P M H ε Dn) (s : Step K T P M H P' M' H') : EdH K T P' M' H' ε Dn :=
  ⟨fun ρ2 σ2 P2 M2 H2 q st r => h.nx ρ2 σ2 P2 M2 H2 q (s.trans st) r, fun v d P2 M2 H2 q st r => h.rt v d P2 M2 H2 q (s.trans st) r,
    fun ρ2 σ2 P2 M2 H2 q st r => h.bk ρ2 σ2 P2 M2 H2 q (s.trans st) r, fun ρ2 σ2 P2 M2 H2 q st r => h.ct ρ2 σ2 P2 M2 H2 q (s.trans st) r⟩
end

variable (K : PySem.W.Frag) (T : Tt)
structure XE where
  t : WX → TE
  w : Sl → Mh → (D → Mh → Prop) → XP → Prop
  ok : ∀ {W ρ M Φ Ξ}, w ρ M Φ Ξ → ∀ {P σ H}, Wr K T P M H → RepS K P σ ρ → ∀ {Q : VK},
    (∀ v d P' M' H', Φ d M' → Step K T P M H P' M' H' → Rep K P' v d → Q v H') → XH K T W P M H Ξ → t W σ H Q
structure XT where
  t : WX → TT
  w : Sl → Mh → (Bool → Mh → Prop) → XP → Prop
  ok : ∀ {W ρ M Φ Ξ}, w ρ M Φ Ξ → ∀ {P σ H}, Wr K T P M H → RepS K P σ ρ → ∀ {Q : Bool → Hp → Prop},
    (∀ b P' M' H', Φ b M' → Step K T P M H P' M' H' → Q b H') → XH K T W P M H Ξ → t W σ H Q
structure XA where
  t : WX → TA
  w : Sl → Mh → (List D → Mh → Prop) → XP → Prop
  ok : ∀ {W ρ M Φ Ξ}, w ρ M Φ Ξ → ∀ {P σ H}, Wr K T P M H → RepS K P σ ρ → ∀ {Q : List V → Hp → Prop},
    (∀ vs ds P' M' H', Φ ds M' → Step K T P M H P' M' H' → RepL K P' vs ds → Q vs H') → XH K T W P M H Ξ → t W σ H Q
structure XS where
  t : WX → TS
  w : Sl → Mh → Ed → XP → Prop
  ok : ∀ {W ρ M ε Ξ}, w ρ M ε Ξ → ∀ {P σ H}, Wr K T P M H → RepS K P σ ρ → ∀ {Dn : Ends},
    EdH K T P M H ε Dn → XH K T W P M H Ξ → t W Dn σ H
/-- a target -/
structure XG where
  t : WX → TG
  w : D → Sl → Mh → (Sl → Mh → Prop) → XP → Prop
  ok : ∀ {W d ρ M Φ Ξ}, w d ρ M Φ Ξ → ∀ {P v σ H}, Wr K T P M H → RepS K P σ ρ → Rep K P v d → ∀ {Q : L2.St → Hp → Prop},
    (∀ ρ' σ' P' M' H', Φ ρ' M' → Step K T P M H P' M' H' → RepS K P' σ' ρ' → Q σ' H') → XH K T W P M H Ξ → t W v σ H Q
structure XGs where
  t : WX → TGs
  w : List D → Sl → Mh → (Sl → Mh → Prop) → XP → Prop
  ok : ∀ {W ds ρ M Φ Ξ}, w ds ρ M Φ Ξ → ∀ {P vs σ H}, Wr K T P M H → RepS K P σ ρ → RepL K P vs ds → ∀ {Q : L2.St → Hp → Prop},
    (∀ ρ' σ' P' M' H', Φ ρ' M' → Step K T P M H P' M' H' → RepS K P' σ' ρ' → Q σ' H') → XH K T W P M H Ξ → t W vs σ H Q
/-- a two-place operation on values -/
structure XO where
  r : R2
  w : D → D → Mh → (D → Mh → Prop) → Prop
  ok : ∀ {x y M Φ}, w x y M Φ → ∀ {P H vx vy}, Wr K T P M H → Rep K P vx x → Rep K P vy y → ∀ {Q : VK},
    (∀ v d P' M' H', Φ d M' → Step K T P M H P' M' H' → Rep K P' v d → Q v H') → r vx vy H Q
/-- a builtin called with values -/
structure XB where
  r : List V → Hp → VK → Prop
  w : List D → Mh → (D → Mh → Prop) → Prop
  ok : ∀ {ds M Φ}, w ds M Φ → ∀ {P H vs}, Wr K T P M H → RepL K P vs ds → ∀ {Q : VK},
    (∀ v d P' M' H', Φ d M' → Step K T P M H P' M' H' → Rep K P' v d → Q v H') → r vs H Q

variable {K T}
/-! ### looks -/
def asI (d : D) (k : Int → Prop) : Prop := match d with | .int i => k i | _ => False
def asB (d : D) (k : Bool → Prop) : Prop := match d with | .bl b => k b | _ => False
def asS (d : D) (k : Str → Prop) : Prop := match d with | .str s => k s | _ => False
def asR (d : D) (k : Addr → Prop) : Prop := match d with | .ref a => k a | _ => False
def asT (d : D) (k : List D → Prop) : Prop := match d with | .tup ds => k ds | _ => False
def asL (d : D) (M : Mh) (k : List D → Prop) : Prop := match d with
  | .lst ds => k ds
  | .lsw ds => k ds
  | .ref p => match M p with
    | some (.lst ds) => k ds
    | _ => False
  | _ => False
def mL (M : Mh) (p : Addr) (k : List D → Prop) : Prop := match M p with | some (.lst ds) => k ds | _ => False
def look (ρ : Sl) (i : Nat) (k : D → Prop) : Prop := match ρ[i]? with | some (some d) => k d | _ => False
theorem asI.get {d : D} {k : Int → Prop} (h : asI d k) : ∃ i, d = .int i ∧ k i := by cases d <;> first | exact h.elim | exact ⟨_, rfl, h⟩
theorem asB.get {d : D} {k : Bool → Prop} (h : asB d k) : ∃ i, d = .bl i ∧ k i := by cases d <;> first | exact h.elim | exact ⟨_, rfl, h⟩
theorem asS.get {d : D} {k : Str → Prop} (h : asS d k) : ∃ i, d = .str i ∧ k i := by cases d <;> first | exact h.elim | exact ⟨_, rfl, h⟩
theorem asR.get {d : D} {k : Addr → Prop} (h : asR d k) : ∃ i, d = .ref i ∧ k i := by cases d <;> first | exact h.elim | exact ⟨_, rfl, h⟩
theorem asT.get {d : D} {k : List D → Prop} (h : asT d k) : ∃ ds, d = .tup ds ∧ k ds := by cases d <;> first | exact h.elim | exact ⟨_, rfl, h⟩
theorem mL.get {M : Mh} {p : Addr} {k : List D → Prop} (h : mL M p k) : ∃ ds, M p = some (.lst ds) ∧ k ds := by
  unfold mL at h
  split at h
  · exact ⟨_, by assumption, h⟩
  · exact h.elim
theorem asL.get {d : D} {M : Mh} {k : List D → Prop} (h : asL d M k) : ∃ ds, k ds ∧ ((d = .lst ds ∨ d = .lsw ds) ∨ ∃ p, d = .ref p ∧ M p = some (.lst ds)) := by
  cases d with
  | lst ds => exact ⟨ds, h, .inl (.inl rfl)⟩
  | lsw ds => exact ⟨ds, h, .inl (.inr rfl)⟩
  | ref p =>
    unfold asL at h
    simp only at h
    split at h
    · exact ⟨_, h, .inr ⟨p, rfl, by assumption⟩⟩
    · exact h.elim
  | _ => exact h.elim
theorem look.get {ρ : Sl} {i : Nat} {k : D → Prop} (h : look ρ i k) : ∃ d, ρ[i]? = some (some d) ∧ k d := by
  unfold look at h
  split at h
  · exact ⟨_, by assumption, h⟩
  · exact h.elim
section
variable {P : Hp} {M : Mh} {H : Hp} {v : V}
theorem Rep.toI {i : Int} (r : Rep K P v (.int i)) : v = .int i := by cases r; rfl
theorem Rep.toB {i : Bool} (r : Rep K P v (.bl i)) : v = .bl i := by cases r; rfl
theorem Rep.toS {i : Str} (r : Rep K P v (.str i)) : v = .str i := by cases r; rfl
theorem Rep.toN (r : Rep K P v .non) : v = .non := by cases r; rfl
theorem Rep.toR {a : Addr} (r : Rep K P v (.ref a)) : v = .ref a := by cases r; rfl
theorem Rep.toTt {ds : List D} (r : Rep K P v (.tup ds)) : ∃ a vs, v = .ref a ∧ P a = some (.tup vs) ∧ RepL K P vs ds := by cases r; exact ⟨_, _, rfl, by assumption, by assumption⟩
theorem Rep.toT {ds : List D} (r : Rep K P v (.tup ds)) : ∃ a vs, v = .ref a ∧ SqT K P a vs ∧ RepL K P vs ds := let ⟨a, vs, e, h, q⟩ := r.toTt; ⟨a, vs, e, SqT.of h, q⟩
theorem Wr.tt {P : Hp} {M : Mh} {H : Hp} (w : Wr K T P M H) {a : Addr} {xs : List V} (h : P a = some (.tup xs)) : H a = some (.tup xs) := by
  rcases w.pure _ _ h with q | ⟨_, _, z, _⟩
  · exact q
  · cases z
theorem Rep.toL {ds : List D} (r : Rep K P v (.lst ds)) : ∃ a vs, v = .ref a ∧ P a = some (.lst vs) ∧ RepL K P vs ds := by cases r; exact ⟨_, _, rfl, by assumption, by assumption⟩
theorem Rep.toLw {ds : List D} (r : Rep K P v (.lsw ds)) : ∃ a vs, v = .ref a ∧ SqL K P a vs ∧ RepL K P vs ds := by cases r; exact ⟨_, _, rfl, by assumption, by assumption⟩
theorem Rep.toD {kds : List (Key × D)} (r : Rep K P v (.dct kds)) : ∃ a kvs, v = .ref a ∧ P a = some (.dK kvs) ∧ kvs.map Prod.fst = kds.map Prod.fst ∧ RepL K P (kvs.map Prod.snd) (kds.map Prod.snd) := by
  cases r; exact ⟨_, _, rfl, by assumption, by assumption, by assumption⟩
/-- a list that is read, of either kind -/
theorem asL.rd {d : D} {k : List D → Prop} (h : asL d M k) (w : Wr K T P M H) (r : Rep K P v d) : ∃ ds a vs, k ds ∧ v = .ref a ∧ SqL K H a vs ∧ RepL K P vs ds := by
  obtain ⟨ds, hk, (e | e) | ⟨p, e, hm⟩⟩ := h.get
  · subst e
    obtain ⟨a, vs, rfl, hs, hr⟩ := r.toL
    exact ⟨ds, a, vs, hk, rfl, w.sl (SqL.of hs), hr⟩
  · subst e
    obtain ⟨a, vs, rfl, hs, hr⟩ := r.toLw
    exact ⟨ds, a, vs, hk, rfl, w.sl hs, hr⟩
  · subst e
    obtain ⟨o, ho, rm⟩ := w.chg _ _ hm
    cases rm with
    | lst hr => exact ⟨ds, p, _, hk, r.toR, SqL.of ho, hr⟩
end

/-! ### expressions -/
def xVar (i : Nat) : XE K T where
  t := fun _ => tVar i
  w := fun ρ M Φ _ => look ρ i fun d => Φ d M
  ok := fun h _ _ _ wr rs _ hq _ => by
    obtain ⟨d, e, h⟩ := h.get
    obtain ⟨v, e2, r⟩ := rs.2 _ _ e
    exact ⟨v, e2, hq v d _ _ _ h (Step.refl wr) r⟩
def xInt (i : Int) : XE K T := ⟨fun _ => tC (.int i), fun _ M Φ _ => Φ (.int i) M, fun h _ _ _ wr _ _ hq _ => hq _ _ _ _ _ h (Step.refl wr) (.int i)⟩
def xStr (i : Str) : XE K T := ⟨fun _ => tC (.str i), fun _ M Φ _ => Φ (.str i) M, fun h _ _ _ wr _ _ hq _ => hq _ _ _ _ _ h (Step.refl wr) (.str i)⟩
def xBl (i : Bool) : XE K T := ⟨fun _ => tC (.bl i), fun _ M Φ _ => Φ (.bl i) M, fun h _ _ _ wr _ _ hq _ => hq _ _ _ _ _ h (Step.refl wr) (.bl i)⟩
def xNon : XE K T := ⟨fun _ => tC .non, fun _ M Φ _ => Φ .non M, fun h _ _ _ wr _ _ hq _ => hq _ _ _ _ _ h (Step.refl wr) .non⟩
def xOp (o : XO K T) (a b : XE K T) : XE K T where
  t := fun W => tOp o.r (a.t W) (b.t W)
  w := fun ρ M Φ Ξ => a.w ρ M (fun x M1 => b.w ρ M1 (fun y M2 => o.w x y M2 Φ) Ξ) Ξ
  ok := fun h _ _ _ wr rs _ hq hx => a.ok h wr rs (fun v x P1 M1 H1 h1 s1 r1 => b.ok h1 s1.wr (rs.mono s1.ex) (fun u y P2 M2 H2 h2 s2 r2 =>
    o.ok h2 s2.wr (r1.mono s2.ex) r2 fun z d P3 M3 H3 h3 s3 r3 => hq z d P3 M3 H3 h3 ((s1.trans s2).trans s3) r3) (hx.mono s1)) hx
/-- a op b op' c -/
def xCh (o o' : XO K T) (a b c : XE K T) : XE K T where
  t := fun W => tChain o.r o'.r (a.t W) (b.t W) (c.t W)
  w := fun ρ M Φ Ξ => a.w ρ M (fun x M1 => b.w ρ M1 (fun y M2 => o.w x y M2 fun z M3 => asB z fun k => if k = true then c.w ρ M3 (fun u M4 => o'.w y u M4 Φ) Ξ else Φ (.bl false) M3) Ξ) Ξ
  ok := fun h _ _ _ wr rs _ hq hx => a.ok h wr rs (fun v x P1 M1 H1 h1 s1 r1 => b.ok h1 s1.wr (rs.mono s1.ex) (fun u y P2 M2 H2 h2 s2 r2 =>
    o.ok h2 s2.wr (r1.mono s2.ex) r2 fun z d P3 M3 H3 h3 s3 r3 => by
      obtain ⟨k, rfl, h3⟩ := h3.get
      refine ⟨k, r3.toB, ?_⟩
      have s13 := (s1.trans s2).trans s3
      cases k with
      | true => exact c.ok h3 s3.wr (rs.mono s13.ex) (fun q z P4 M4 H4 h4 s4 r4 => o'.ok h4 s4.wr ((r2.mono s3.ex).mono s4.ex) r4 fun z d P5 M5 H5 h5 s5 r5 => hq z d P5 M5 H5 h5 ((s13.trans s4).trans s5) r5) (hx.mono s13)
      | false => exact hq _ _ _ _ _ h3 s13 (.bl false)) (hx.mono s1)) hx
def xAnd (a b : XE K T) : XE K T where
  t := fun W => tAndV (a.t W) (b.t W)
  w := fun ρ M Φ Ξ => a.w ρ M (fun x M1 => asB x fun k => if k = true then b.w ρ M1 Φ Ξ else Φ (.bl false) M1) Ξ
  ok := fun h _ _ _ wr rs _ hq hx => a.ok h wr rs (fun v x P1 M1 H1 h1 s1 r1 => by
    obtain ⟨k, rfl, h1⟩ := h1.get
    refine ⟨k, r1.toB, ?_⟩
    cases k with
    | true => exact b.ok h1 s1.wr (rs.mono s1.ex) (fun u y P2 M2 H2 h2 s2 r2 => hq u y P2 M2 H2 h2 (s1.trans s2) r2) (hx.mono s1)
    | false => exact hq _ _ _ _ _ h1 s1 (.bl false)) hx
def xOr (a b : XE K T) : XE K T where
  t := fun W => tOrV (a.t W) (b.t W)
  w := fun ρ M Φ Ξ => a.w ρ M (fun x M1 => asB x fun k => if k = true then Φ (.bl true) M1 else b.w ρ M1 Φ Ξ) Ξ
  ok := fun h _ _ _ wr rs _ hq hx => a.ok h wr rs (fun v x P1 M1 H1 h1 s1 r1 => by
    obtain ⟨k, rfl, h1⟩ := h1.get
    refine ⟨k, r1.toB, ?_⟩
    cases k with
    | false => exact b.ok h1 s1.wr (rs.mono s1.ex) (fun u y P2 M2 H2 h2 s2 r2 => hq u y P2 M2 H2 h2 (s1.trans s2) r2) (hx.mono s1)
    | true => exact hq _ _ _ _ _ h1 s1 (.bl true)) hx
def xNot (a : XE K T) : XE K T where
  t := fun W => tNotV (a.t W)
  w := fun ρ M Φ Ξ => a.w ρ M (fun x M1 => asB x fun k => Φ (.bl (!k)) M1) Ξ
  ok := fun h _ _ _ wr rs _ hq hx => a.ok h wr rs (fun v x P1 M1 H1 h1 s1 r1 => by
    obtain ⟨k, rfl, h1⟩ := h1.get
    exact ⟨k, r1.toB, hq _ _ _ _ _ h1 s1 (.bl _)⟩) hx
def xIf (c : XT K T) (a b : XE K T) : XE K T where
  t := fun W => tIf (c.t W) (a.t W) (b.t W)
  w := fun ρ M Φ Ξ => c.w ρ M (fun k M1 => if k = true then a.w ρ M1 Φ Ξ else b.w ρ M1 Φ Ξ) Ξ
  ok := fun h _ _ _ wr rs _ hq hx => c.ok h wr rs (fun k P1 M1 H1 h1 s1 => by
    cases k with
    | true => exact a.ok h1 s1.wr (rs.mono s1.ex) (fun u y P2 M2 H2 h2 s2 r2 => hq u y P2 M2 H2 h2 (s1.trans s2) r2) (hx.mono s1)
    | false => exact b.ok h1 s1.wr (rs.mono s1.ex) (fun u y P2 M2 H2 h2 s2 r2 => hq u y P2 M2 H2 h2 (s1.trans s2) r2) (hx.mono s1)) hx
/-! ### arguments, displays -/
def aNil : XA K T := ⟨fun _ => tNil, fun _ M Φ _ => Φ [] M, fun h _ _ _ wr _ _ hq _ => hq _ _ _ _ _ h (Step.refl wr) .nil⟩
def aCons (a : XE K T) (as : XA K T) : XA K T where
  t := fun W => tCons (a.t W) (as.t W)
  w := fun ρ M Φ Ξ => a.w ρ M (fun x M1 => as.w ρ M1 (fun xs M2 => Φ (x :: xs) M2) Ξ) Ξ
  ok := fun h _ _ _ wr rs _ hq hx => a.ok h wr rs (fun v x P1 M1 H1 h1 s1 r1 => as.ok h1 s1.wr (rs.mono s1.ex) (fun vs xs P2 M2 H2 h2 s2 r2 =>
    hq (v :: vs) (x :: xs) P2 M2 H2 h2 (s1.trans s2) (.cons (r1.mono s2.ex) r2)) (hx.mono s1)) hx
theorem sz_of {n : Nat} (h : n ≤ 100000) : n ≤ sizeLine := Nat.le_trans h (by decide)
theorem sz_lt {n : Nat} (h : n < 100000) : n < sizeLine := Nat.lt_of_lt_of_le h (by decide)
def xTup (as : XA K T) : XE K T where
  t := fun W => tTup (as.t W)
  w := fun ρ M Φ Ξ => as.w ρ M (fun ds M1 => ds.length ≤ 100000 ∧ Φ (.tup ds) M1) Ξ
  ok := fun h _ _ _ wr rs _ hq hx => as.ok h wr rs (fun vs ds P1 M1 H1 h1 s1 r1 => ⟨by rw [r1.len]; exact sz_of h1.1, fun p hp =>
    let s2 := Step.newP s1.wr (o := .tup vs) hp
    hq _ _ _ _ _ h1.2 (s1.trans s2) (.tup upd_same (r1.mono s2.ex))⟩) hx
def xLst (as : XA K T) : XE K T where
  t := fun W => tLst (as.t W)
  w := fun ρ M Φ Ξ => as.w ρ M (fun ds M1 => ds.length ≤ 100000 ∧ Φ (.lst ds) M1) Ξ
  ok := fun h _ _ _ wr rs _ hq hx => as.ok h wr rs (fun vs ds P1 M1 H1 h1 s1 r1 => ⟨by rw [r1.len]; exact sz_of h1.1, fun p hp =>
    let s2 := Step.newP s1.wr (o := .lst vs) hp
    hq _ _ _ _ _ h1.2 (s1.trans s2) (.lst upd_same (r1.mono s2.ex))⟩) hx
/-- a list that will change -/
def xLstM (as : XA K T) : XE K T where
  t := fun W => tLst (as.t W)
  w := fun ρ M Φ Ξ => as.w ρ M (fun ds M1 => ds.length ≤ 100000 ∧ ∀ p, M1 p = none → Φ (.ref p) (um M1 p (.lst ds))) Ξ
  ok := fun h _ _ _ wr rs _ hq hx => as.ok h wr rs (fun vs ds P1 M1 H1 h1 s1 r1 => ⟨by rw [r1.len]; exact sz_of h1.1, fun p hp =>
    hq _ _ _ _ _ (h1.2 p (s1.wr.mfree hp)) (s1.trans (Step.newM s1.wr hp (.lst r1))) (.ref p)⟩) hx
/-- a builtin, called -/
def xB (b : XB K T) (as : XA K T) : XE K T where
  t := fun W => tCB b.r (as.t W)
  w := fun ρ M Φ Ξ => as.w ρ M (fun ds M1 => b.w ds M1 Φ) Ξ
  ok := fun h _ _ _ wr rs _ hq hx => as.ok h wr rs (fun vs ds P1 M1 H1 h1 s1 r1 => b.ok h1 s1.wr r1 fun v d P2 M2 H2 h2 s2 r2 => hq v d P2 M2 H2 h2 (s1.trans s2) r2) hx
/-! ### a def's promise -/
abbrev Pm := List D → Mh → (D → Mh → Prop) → (Value → Option Addr → Mh → Prop) → Prop
def spOf (K : PySem.W.Frag) (T : Tt) (sp : Pm) : Sp := fun vs H Q E => ∃ P M ds Φ Ξ, Wr K T P M H ∧ RepL K P vs ds ∧ sp ds M Φ Ξ ∧
  (∀ v d P' M' H', Φ d M' → Step K T P M H P' M' H' → Rep K P' v d → Q v H') ∧ ∀ cls dd P' M' H', Ξ cls dd M' → Step K T P M H P' M' H' → E cls dd H'
def xCall (sp : Pm) (as : XA K T) : XE K T where
  t := fun W => tCallS (spOf K T sp) (WE W) (as.t W)
  w := fun ρ M Φ Ξ => as.w ρ M (fun ds M1 => sp ds M1 Φ (fun cls dd M2 => Ξ cls dd ρ M2)) Ξ
  ok := fun h _ _ _ wr rs _ hq hx => as.ok h wr rs (fun vs ds P1 M1 H1 h1 s1 r1 => ⟨P1, M1, ds, _, _, s1.wr, r1, h1, fun v d P2 M2 H2 h2 s2 r2 => hq v d P2 M2 H2 h2 (s1.trans s2) r2,
    fun cls dd P2 M2 H2 h2 s2 => hx cls dd _ _ P2 M2 H2 h2 (s1.trans s2) (rs.mono (s1.trans s2).ex)⟩) hx
/-! ### tests -/
def qT (a : XE K T) : XT K T where
  t := fun W => tTest (a.t W)
  w := fun ρ M Φ Ξ => a.w ρ M (fun x M1 => asB x fun k => Φ k M1) Ξ
  ok := fun h _ _ _ wr rs _ hq hx => a.ok h wr rs (fun v x P1 M1 H1 h1 s1 r1 => by
    obtain ⟨k, rfl, h1⟩ := h1.get
    exact ⟨k, r1.toB, hq _ _ _ _ h1 s1⟩) hx
def qB (a : XE K T) : XT K T where
  t := fun W => tB (a.t W)
  w := fun ρ M Φ Ξ => a.w ρ M (fun x M1 => asB x fun k => Φ k M1) Ξ
  ok := fun h _ _ _ wr rs _ hq hx => a.ok h wr rs (fun v x P1 M1 H1 h1 s1 r1 => by
    obtain ⟨k, rfl, h1⟩ := h1.get
    exact ⟨k, r1.toB, hq _ _ _ _ h1 s1⟩) hx
def qAnd (a b : XT K T) : XT K T where
  t := fun W => tAnd (a.t W) (b.t W)
  w := fun ρ M Φ Ξ => a.w ρ M (fun k M1 => if k = true then b.w ρ M1 Φ Ξ else Φ false M1) Ξ
  ok := fun h _ _ _ wr rs _ hq hx => a.ok h wr rs (fun k P1 M1 H1 h1 s1 => by
    cases k with
    | true => exact b.ok h1 s1.wr (rs.mono s1.ex) (fun u P2 M2 H2 h2 s2 => hq u P2 M2 H2 h2 (s1.trans s2)) (hx.mono s1)
    | false => exact hq _ _ _ _ h1 s1) hx
def qOr (a b : XT K T) : XT K T where
  t := fun W => tOr (a.t W) (b.t W)
  w := fun ρ M Φ Ξ => a.w ρ M (fun k M1 => if k = true then Φ true M1 else b.w ρ M1 Φ Ξ) Ξ
  ok := fun h _ _ _ wr rs _ hq hx => a.ok h wr rs (fun k P1 M1 H1 h1 s1 => by
    cases k with
    | false => exact b.ok h1 s1.wr (rs.mono s1.ex) (fun u P2 M2 H2 h2 s2 => hq u P2 M2 H2 h2 (s1.trans s2)) (hx.mono s1)
    | true => exact hq _ _ _ _ h1 s1) hx
def qNot (a : XT K T) : XT K T where
  t := fun W => tNot (a.t W)
  w := fun ρ M Φ Ξ => a.w ρ M (fun k M1 => Φ (!k) M1) Ξ
  ok := fun h _ _ _ wr rs _ hq hx => a.ok h wr rs (fun k P1 M1 H1 h1 s1 => hq _ _ _ _ h1 s1) hx
/-! ### targets -/
def gN (i : Nat) : XG K T := ⟨fun _ => gName i, fun d ρ M Φ _ => Φ (ρ.set i (some d)) M, fun h _ _ _ _ wr rs r _ hq _ => hq _ _ _ _ _ h (Step.refl wr) (rs.set r i)⟩
def gsN : XGs K T := ⟨fun _ => gNil, fun ds ρ M Φ _ => ds = [] ∧ Φ ρ M, fun h _ _ _ _ wr rs r _ hq _ => by
  obtain ⟨rfl, h⟩ := h
  cases r
  exact ⟨rfl, hq _ _ _ _ _ h (Step.refl wr) rs⟩⟩
def gsC (g : XG K T) (gs : XGs K T) : XGs K T where
  t := fun W => gCons (g.t W) (gs.t W)
  w := fun ds ρ M Φ Ξ => match ds with | d :: r => g.w d ρ M (fun ρ' M' => gs.w r ρ' M' Φ Ξ) Ξ | [] => False
  ok := fun {W ds ρ M Φ Ξ} h _ _ _ _ wr rs r _ hq hx => by
    cases r with
    | nil => exact h.elim
    | cons r1 r2 => exact ⟨_, _, rfl, g.ok h wr rs r1 (fun ρ' σ' P1 M1 H1 h1 s1 rs1 => gs.ok h1 s1.wr rs1 (r2.mono s1.ex) (fun ρ2 σ2 P2 M2 H2 h2 s2 rs2 => hq ρ2 σ2 P2 M2 H2 h2 (s1.trans s2) rs2) (hx.mono s1)) hx⟩
def gT (n : Nat) (gs : XGs K T) : XG K T where
  t := fun W => gTup K n (gs.t W)
  w := fun d ρ M Φ Ξ => asT d fun ds => ds.length = n ∧ gs.w ds ρ M Φ Ξ
  ok := fun {W d ρ M Φ Ξ} h _ _ _ _ wr rs r _ hq hx => by
    obtain ⟨ds, rfl, hl, h⟩ := h.get
    obtain ⟨a, vs, rfl, hs, hr⟩ := r.toT
    exact ⟨a, vs, rfl, wr.st hs, by rw [hr.len]; exact hl, gs.ok h wr rs hr hq hx⟩
def setD (ds : List D) (k : Int) (d : D) (f : List D → Prop) : Prop := match ixN ds.length k with | some j => f (ds.set j d) | none => False
theorem setD.get {ds : List D} {k : Int} {d : D} {f : List D → Prop} (h : setD ds k d f) : ∃ j, ixN ds.length k = some j ∧ f (ds.set j d) := by
  unfold setD at h
  split at h
  · exact ⟨_, by assumption, h⟩
  · exact h.elim
/-- o[i] = .. of a list that changes -/
def gIx (o i : XE K T) : XG K T where
  t := fun W => gSub (o.t W) (i.t W) rSetL
  w := fun d ρ M Φ Ξ => o.w ρ M (fun x M1 => asR x fun p => i.w ρ M1 (fun y M2 => asI y fun k => mL M2 p fun ds => setD ds k d fun ds' => Φ ρ (um M2 p (.lst ds'))) Ξ) Ξ
  ok := fun {W d ρ M Φ Ξ} h P v σ H wr rs r Q hq hx => o.ok h wr rs (fun u x P1 M1 H1 h1 s1 r1 => by
    obtain ⟨p, rfl, h1⟩ := h1.get
    refine i.ok h1 s1.wr (rs.mono s1.ex) (fun z y P2 M2 H2 h2 s2 r2 => ?_) (hx.mono s1)
    obtain ⟨k, rfl, h3⟩ := h2.get
    obtain ⟨ds, hm, h4⟩ := mL.get h3
    obtain ⟨ob, ho, rm⟩ := s2.wr.chg _ _ hm
    cases rm with
    | @lst vs _ hr =>
      obtain ⟨j, e, h4⟩ := h4.get
      have s12 := s1.trans s2
      refine ⟨p, vs, k, j, r1.toR, r2.toI, ho, by rw [hr.len]; exact e, ?_⟩
      exact hq _ _ _ _ _ h4 (s12.trans (Step.put s2.wr hm (.lst (hr.set j (r.mono s12.ex))))) (rs.mono s12.ex)) hx

/-! ### statements -/
def sNx : XS K T := ⟨fun _ => tNext, fun ρ M ε _ => ε.nx ρ M, fun h _ _ _ wr rs _ hd _ => hd.nx _ _ _ _ _ h (Step.refl wr) rs⟩
def sBk : XS K T := ⟨fun _ => tBreak, fun ρ M ε _ => ε.bk ρ M, fun h _ _ _ wr rs _ hd _ => hd.bk _ _ _ _ _ h (Step.refl wr) rs⟩
def sCt : XS K T := ⟨fun _ => tCont, fun ρ M ε _ => ε.ct ρ M, fun h _ _ _ wr rs _ hd _ => hd.ct _ _ _ _ _ h (Step.refl wr) rs⟩
def sRn : XS K T := ⟨fun _ => tRetN, fun _ M ε _ => ε.rt .non M, fun h _ _ _ wr rs _ hd _ => hd.rt _ _ _ _ _ h (Step.refl wr) .non⟩
def sSeq (a b : XS K T) : XS K T where
  t := fun W => tSeq (a.t W) (b.t W)
  w := fun ρ M ε Ξ => a.w ρ M { ε with nx := fun ρ' M' => b.w ρ' M' ε Ξ } Ξ
  ok := fun h _ _ _ wr rs _ hd hx => a.ok h wr rs ⟨fun ρ1 σ1 P1 M1 H1 h1 s1 rs1 => b.ok h1 s1.wr rs1 (hd.mono s1) (hx.mono s1), hd.rt, hd.bk, hd.ct⟩ hx
def sRet (a : XE K T) : XS K T where
  t := fun W => tRet (a.t W)
  w := fun ρ M ε Ξ => a.w ρ M ε.rt Ξ
  ok := fun h _ _ _ wr rs _ hd hx => a.ok h wr rs (fun v d P1 M1 H1 h1 s1 r1 => hd.rt v d P1 M1 H1 h1 s1 r1) hx
def sEx (a : XE K T) : XS K T where
  t := fun W => tDrop (a.t W)
  w := fun ρ M ε Ξ => a.w ρ M (fun _ M1 => ε.nx ρ M1) Ξ
  ok := fun h _ _ _ wr rs _ hd hx => a.ok h wr rs (fun v d P1 M1 H1 h1 s1 r1 => hd.nx _ _ P1 M1 H1 h1 s1 (rs.mono s1.ex)) hx
def sIf (c : XT K T) (a b : XS K T) : XS K T where
  t := fun W => tIfS (c.t W) (a.t W) (b.t W)
  w := fun ρ M ε Ξ => c.w ρ M (fun k M1 => if k = true then a.w ρ M1 ε Ξ else b.w ρ M1 ε Ξ) Ξ
  ok := fun h _ _ _ wr rs _ hd hx => c.ok h wr rs (fun k P1 M1 H1 h1 s1 => by
    cases k with
    | true => exact a.ok h1 s1.wr (rs.mono s1.ex) (hd.mono s1) (hx.mono s1)
    | false => exact b.ok h1 s1.wr (rs.mono s1.ex) (hd.mono s1) (hx.mono s1)) hx
def sAs (a : XE K T) (g : XG K T) : XS K T where
  t := fun W => tAsg (a.t W) (g.t W)
  w := fun ρ M ε Ξ => a.w ρ M (fun d M1 => g.w d ρ M1 ε.nx Ξ) Ξ
  ok := fun h _ _ _ wr rs _ hd hx => a.ok h wr rs (fun v d P1 M1 H1 h1 s1 r1 => g.ok h1 s1.wr (rs.mono s1.ex) r1 (fun ρ2 σ2 P2 M2 H2 h2 s2 rs2 => hd.nx ρ2 σ2 P2 M2 H2 h2 (s1.trans s2) rs2) (hx.mono s1)) hx
/-- x, y = a, b -/
def sPar (i j : Nat) (as : XA K T) : XS K T where
  t := fun W => tPar i j (as.t W)
  w := fun ρ M ε Ξ => as.w ρ M (fun ds M1 => match ds with | [x, y] => ε.nx ((ρ.set i (some x)).set j (some y)) M1 | _ => False) Ξ
  ok := fun h _ _ _ wr rs _ hd hx => as.ok h wr rs (fun vs ds P1 M1 H1 h1 s1 r1 => by
    cases r1 with
    | nil => exact h1.elim
    | cons r2 r3 =>
      cases r3 with
      | nil => exact h1.elim
      | cons r4 r5 =>
        cases r5 with
        | nil => exact ⟨_, _, rfl, hd.nx _ _ P1 M1 H1 h1 s1 (((rs.mono s1.ex).set r2 _).set r4 _)⟩
        | cons _ _ => exact h1.elim) hx
end Ab

set_option Elab.async false
set_option linter.all false
set_option maxRecDepth 100000
set_option maxHeartbeats 2000000
namespace Ab
open PySem L2
variable {K : PySem.W.Frag} {T : Tt}
/-! ### operations -/
/-- ints to a value that is no object -/
def oII (r : R2) (g : Int → Int → V) (gd : Int → Int → D) (C : Int → Int → Prop) (hr : ∀ i j H (Q : VK), C i j → Q (g i j) H → r (.int i) (.int j) H Q) (hg : ∀ P i j, Rep K P (g i j) (gd i j)) : XO K T where
  r := r
  w := fun x y M Φ => asI x fun i => asI y fun j => C i j ∧ Φ (gd i j) M
  ok := fun h P H vx vy wr rx ry Q hq => by
    obtain ⟨i, rfl, h1⟩ := h.get
    obtain ⟨j, rfl, h2, h3⟩ := asI.get h1
    rw [rx.toI, ry.toI]
    exact hr i j H Q h2 (hq _ _ _ _ _ h3 (Step.refl wr) (hg P i j))
def oAdd : XO K T := oII (rI0 fun i j => .int (i + j)) (fun i j => .int (i + j)) (fun i j => .int (i + j)) (fun _ _ => True) (fun i j _ _ _ q => ⟨i, j, rfl, rfl, q⟩) (fun _ _ _ => .int _)
def oSub : XO K T := oII (rI0 fun i j => .int (i - j)) (fun i j => .int (i - j)) (fun i j => .int (i - j)) (fun _ _ => True) (fun i j _ _ _ q => ⟨i, j, rfl, rfl, q⟩) (fun _ _ _ => .int _)
def oMul : XO K T := oII (rI CMul fun i j => .int (i * j)) (fun i j => .int (i * j)) (fun i j => .int (i * j)) CMul (fun i j _ _ c q => ⟨i, j, rfl, rfl, c, q⟩) (fun _ _ _ => .int _)
def oMod : XO K T := oII (rI (fun _ j => 0 < j) fun i j => .int (i % j)) (fun i j => .int (i % j)) (fun i j => .int (i % j)) (fun _ j => 0 < j) (fun i j _ _ c q => ⟨i, j, rfl, rfl, c, q⟩) (fun _ _ _ => .int _)
def oDiv : XO K T := oII (rI CDiv fun i j => .int (i / j)) (fun i j => .int (i / j)) (fun i j => .int (i / j)) CDiv (fun i j _ _ c q => ⟨i, j, rfl, rfl, c, q⟩) (fun _ _ _ => .int _)
def oPow : XO K T := oII (rI CPow fun i j => .int (i ^ j.toNat)) (fun i j => .int (i ^ j.toNat)) (fun i j => .int (i ^ j.toNat)) CPow (fun i j _ _ c q => ⟨i, j, rfl, rfl, c, q⟩) (fun _ _ _ => .int _)
def oLt : XO K T := oII (rI0 fun i j => .bl (decide (i < j))) (fun i j => .bl (decide (i < j))) (fun i j => .bl (decide (i < j))) (fun _ _ => True) (fun i j _ _ _ q => ⟨i, j, rfl, rfl, q⟩) (fun _ _ _ => .bl _)
def oLe : XO K T := oII (rI0 fun i j => .bl (decide (i ≤ j))) (fun i j => .bl (decide (i ≤ j))) (fun i j => .bl (decide (i ≤ j))) (fun _ _ => True) (fun i j _ _ _ q => ⟨i, j, rfl, rfl, q⟩) (fun _ _ _ => .bl _)
def oGt : XO K T := oII (rI0 fun i j => .bl (decide (j < i))) (fun i j => .bl (decide (j < i))) (fun i j => .bl (decide (j < i))) (fun _ _ => True) (fun i j _ _ _ q => ⟨i, j, rfl, rfl, q⟩) (fun _ _ _ => .bl _)
def oGe : XO K T := oII (rI0 fun i j => .bl (decide (j ≤ i))) (fun i j => .bl (decide (j ≤ i))) (fun i j => .bl (decide (j ≤ i))) (fun _ _ => True) (fun i j _ _ _ q => ⟨i, j, rfl, rfl, q⟩) (fun _ _ _ => .bl _)
/-- texts -/
def oSS (r : R2) (g : Str → Str → V) (gd : Str → Str → D) (C : Str → Str → Prop) (hr : ∀ i j H (Q : VK), C i j → Q (g i j) H → r (.str i) (.str j) H Q) (hg : ∀ P i j, Rep K P (g i j) (gd i j)) : XO K T where
  r := r
  w := fun x y M Φ => asS x fun i => asS y fun j => C i j ∧ Φ (gd i j) M
  ok := fun h P H vx vy wr rx ry Q hq => by
    obtain ⟨i, rfl, h1⟩ := h.get
    obtain ⟨j, rfl, h2, h3⟩ := asS.get h1
    rw [rx.toS, ry.toS]
    exact hr i j H Q h2 (hq _ _ _ _ _ h3 (Step.refl wr) (hg P i j))
def oAddS : XO K T := oSS (fun x y H Q => ∃ i j, x = .str i ∧ y = .str j ∧ i.length + j.length ≤ sizeLine ∧ Q (.str (i ++ j)) H) (fun i j => .str (i ++ j)) (fun i j => .str (i ++ j)) (fun i j => i.length + j.length ≤ 100000) (fun i j _ _ c q => ⟨i, j, rfl, rfl, sz_of c, q⟩) (fun _ _ _ => .str _)
def oLtS : XO K T := oSS (fun x y H Q => ∃ i j, x = .str i ∧ y = .str j ∧ Q (.bl (decide (i.cps.toList < j.cps.toList))) H) (fun i j => .bl (decide (i.cps.toList < j.cps.toList))) (fun i j => .bl (decide (i.cps.toList < j.cps.toList))) (fun _ _ => True) (fun i j _ _ _ q => ⟨i, j, rfl, rfl, q⟩) (fun _ _ _ => .bl _)
def oGtS : XO K T := oSS (fun x y H Q => ∃ i j, x = .str i ∧ y = .str j ∧ Q (.bl (decide (j.cps.toList < i.cps.toList))) H) (fun i j => .bl (decide (j.cps.toList < i.cps.toList))) (fun i j => .bl (decide (j.cps.toList < i.cps.toList))) (fun _ _ => True) (fun i j _ _ _ q => ⟨i, j, rfl, rfl, q⟩) (fun _ _ _ => .bl _)
def oLeS : XO K T := oSS (fun x y H Q => ∃ i j, x = .str i ∧ y = .str j ∧ Q (.bl (!decide (j.cps.toList < i.cps.toList))) H) (fun i j => .bl (!decide (j.cps.toList < i.cps.toList))) (fun i j => .bl (!decide (j.cps.toList < i.cps.toList))) (fun _ _ => True) (fun i j _ _ _ q => ⟨i, j, rfl, rfl, q⟩) (fun _ _ _ => .bl _)
def oGeS : XO K T := oSS (fun x y H Q => ∃ i j, x = .str i ∧ y = .str j ∧ Q (.bl (!decide (i.cps.toList < j.cps.toList))) H) (fun i j => .bl (!decide (i.cps.toList < j.cps.toList))) (fun i j => .bl (!decide (i.cps.toList < j.cps.toList))) (fun _ _ => True) (fun i j _ _ _ q => ⟨i, j, rfl, rfl, q⟩) (fun _ _ _ => .bl _)
/-- scalars compared -/
def scD : D → Option V
  | .non => some .non | .bl b => some (.bl b) | .int i => some (.int i) | .str s => some (.str s)
  | _ => none
theorem scD_rep {P : Hp} {v u : V} {d : D} (r : Rep K P v d) (h : scD d = some u) : v = u := by
  cases d <;> first | (cases h; cases r; rfl) | cases h
def asSc (d : D) (k : V → Prop) : Prop := match d with
  | .non => k .non | .bl b => k (.bl b) | .int i => k (.int i) | .str s => k (.str s)
  | _ => False
theorem asSc.get {P : Hp} {v : V} {d : D} {k : V → Prop} (h : asSc d k) (r : Rep K P v d) : k v := by
  cases d <;> first | (cases r; exact h) | exact h.elim
def oEq : XO K T where
  r := rEq
  w := fun x y M Φ => asSc x fun u => asSc y fun v => scal u v = true ∧ Φ (.bl (decide (u = v))) M
  ok := fun h P H vx vy wr rx ry Q hq => by
    obtain ⟨h1, h2⟩ := asSc.get (asSc.get h rx) ry
    exact ⟨h1, hq _ _ _ _ _ h2 (Step.refl wr) (.bl _)⟩
def oNe : XO K T where
  r := rNe
  w := fun x y M Φ => asSc x fun u => asSc y fun v => scal u v = true ∧ Φ (.bl (!decide (u = v))) M
  ok := fun h P H vx vy wr rx ry Q hq => by
    obtain ⟨h1, h2⟩ := asSc.get (asSc.get h rx) ry
    exact ⟨h1, hq _ _ _ _ _ h2 (Step.refl wr) (.bl _)⟩
def oIsB : XO K T where
  r := rIsB
  w := fun x y M Φ => asB x fun a => asB y fun b => Φ (.bl (decide (a = b))) M
  ok := fun h P H vx vy wr rx ry Q hq => by
    obtain ⟨i, rfl, h1⟩ := h.get
    obtain ⟨j, rfl, h2⟩ := asB.get h1
    exact ⟨i, j, rx.toB, ry.toB, hq _ _ _ _ _ h2 (Step.refl wr) (.bl _)⟩
def isN : D → Bool | .non => true | _ => false
theorem isN_rep {P : Hp} {v : V} {d : D} (r : Rep K P v d) : decide (v = .non) = isN d := by
  cases r <;> simp [isN]
def xIsN (a : XE K T) : XE K T where
  t := fun W => tIsN (a.t W)
  w := fun ρ M Φ Ξ => a.w ρ M (fun x M1 => Φ (.bl (isN x)) M1) Ξ
  ok := fun h _ _ _ wr rs _ hq hx => a.ok h wr rs (fun v x P1 M1 H1 h1 s1 r1 => by
    rw [isN_rep r1]
    exact hq _ _ _ _ _ h1 s1 (.bl _)) hx
def xNotN (a : XE K T) : XE K T where
  t := fun W => tNotN (a.t W)
  w := fun ρ M Φ Ξ => a.w ρ M (fun x M1 => Φ (.bl (!isN x)) M1) Ξ
  ok := fun h _ _ _ wr rs _ hq hx => a.ok h wr rs (fun v x P1 M1 H1 h1 s1 r1 => by
    rw [isN_rep r1]
    exact hq _ _ _ _ _ h1 s1 (.bl _)) hx
/-- an item -/
def at_ (ds : List D) (i : Int) (k : D → Prop) : Prop := match atI ds i with | some d => k d | none => False
theorem atI_rep {P : Hp} {vs : List V} {ds : List D} {i : Int} {k : D → Prop} (h : at_ ds i k) (r : RepL K P vs ds) : ∃ v d, atI vs i = some v ∧ Rep K P v d ∧ k d := by
  unfold at_ at h
  cases e : atI ds i with
  | none => rw [e] at h; exact h.elim
  | some d =>
    rw [e] at h
    unfold atI at e ⊢
    rw [r.len]
    cases e2 : ixN ds.length i with
    | none => rw [e2] at e; cases e
    | some j =>
      rw [e2] at e
      obtain ⟨v, e3, r3⟩ := r.getd e
      exact ⟨v, d, e3, r3, h⟩
def oIxL : XO K T where
  r := rIxL K
  w := fun x y M Φ => asL x M fun ds => asI y fun i => at_ ds i fun d => Φ d M
  ok := fun h P H vx vy wr rx ry Q hq => by
    obtain ⟨ds, a, vs, h1, rfl, hs, hr⟩ := h.rd wr rx
    obtain ⟨i, rfl, h2⟩ := asI.get h1
    obtain ⟨v, d, e, r, h3⟩ := atI_rep h2 hr
    exact ⟨a, vs, i, v, rfl, ry.toI, hs, e, hq _ _ _ _ _ h3 (Step.refl wr) r⟩
def oIxT : XO K T where
  r := rIxT K
  w := fun x y M Φ => asT x fun ds => asI y fun i => at_ ds i fun d => Φ d M
  ok := fun h P H vx vy wr rx ry Q hq => by
    obtain ⟨ds, rfl, h1⟩ := h.get
    obtain ⟨a, vs, rfl, hs, hr⟩ := rx.toT
    obtain ⟨i, rfl, h2⟩ := asI.get h1
    obtain ⟨v, d, e, r, h3⟩ := atI_rep h2 hr
    exact ⟨a, vs, i, v, rfl, ry.toI, wr.st hs, e, hq _ _ _ _ _ h3 (Step.refl wr) r⟩
def atS (s : Str) (i : Int) (k : Nat → Prop) : Prop := match atI s.cps.toList i with | some c => k c | none => False
theorem atS.get {s : Str} {i : Int} {k : Nat → Prop} (h : atS s i k) : ∃ c, atI s.cps.toList i = some c ∧ k c := by
  unfold atS at h
  split at h
  · exact ⟨_, by assumption, h⟩
  · exact h.elim
def oIxS : XO K T where
  r := rIxS
  w := fun x y M Φ => asS x fun s => asI y fun i => s.length ≤ 100000 ∧ atS s i fun c => Φ (.str ⟨#[c]⟩) M
  ok := fun h P H vx vy wr rx ry Q hq => by
    obtain ⟨s, rfl, h1⟩ := h.get
    obtain ⟨i, rfl, h2, h3⟩ := asI.get h1
    obtain ⟨c, e, h3⟩ := h3.get
    exact ⟨s, i, c, rx.toS, ry.toI, sz_of h2, e, hq _ _ _ _ _ h3 (Step.refl wr) (.str _)⟩
/-- in, not in, among scalars -/
def scL : List D → Option (List V)
  | [] => some []
  | d :: r => match scD d, scL r with | some v, some vs => some (v :: vs) | _, _ => none
theorem scL_rep {P : Hp} : ∀ {vs us : List V} {ds : List D}, RepL K P vs ds → scL ds = some us → vs = us
  | _, _, _, .nil, h => by cases h; rfl
  | _, us, d :: ds, .cons r t, h => by
    unfold scL at h
    cases e1 : scD d with
    | none => rw [e1] at h; cases h
    | some v =>
      cases e2 : scL ds with
      | none => rw [e1, e2] at h; cases h
      | some ws =>
        rw [e1, e2] at h; cases h
        rw [scD_rep r e1, scL_rep t e2]
theorem scD_flat {d : D} {v : V} (h : scD d = some v) : flatV v = true := by cases d <;> first | (cases h; rfl) | cases h
theorem scL_flat : ∀ {ds : List D} {vs : List V}, scL ds = some vs → vs.all flatV = true
  | [], _, h => by cases h; rfl
  | d :: ds, vs, h => by
    unfold scL at h
    cases e1 : scD d with
    | none => rw [e1] at h; cases h
    | some v =>
      cases e2 : scL ds with
      | none => rw [e1, e2] at h; cases h
      | some ws =>
        rw [e1, e2] at h; cases h
        rw [List.all_cons, scD_flat e1, scL_flat e2]; rfl
/-- the sequence read, a list or a tuple -/
def asQ (d : D) (M : Mh) (k : List D → Prop) : Prop := match d with
  | .lst ds => k ds | .lsw ds => k ds | .tup ds => k ds
  | .ref p => match M p with | some (.lst ds) => k ds | _ => False
  | _ => False
theorem asQ.rd {P : Hp} {M : Mh} {H : Hp} {v : V} {d : D} {k : List D → Prop} (h : asQ d M k) (w : Wr K T P M H) (r : Rep K P v d) : ∃ ds a vs, k ds ∧ v = .ref a ∧ (SqL K H a vs ∨ SqT K H a vs) ∧ RepL K P vs ds := by
  cases d with
  | tup ds =>
    obtain ⟨a, vs, rfl, hs, hr⟩ := r.toT
    exact ⟨ds, a, vs, h, rfl, .inr (w.st hs), hr⟩
  | lst ds => obtain ⟨ds, a, vs, q, e, hs, hr⟩ := asL.rd (k := k) (d := .lst ds) h w r; exact ⟨ds, a, vs, q, e, .inl hs, hr⟩
  | lsw ds => obtain ⟨ds, a, vs, q, e, hs, hr⟩ := asL.rd (k := k) (d := .lsw ds) h w r; exact ⟨ds, a, vs, q, e, .inl hs, hr⟩
  | ref p => obtain ⟨ds, a, vs, q, e, hs, hr⟩ := asL.rd (k := k) (d := .ref p) h w r; exact ⟨ds, a, vs, q, e, .inl hs, hr⟩
  | _ => exact h.elim
def asSs (x : D) (ds : List D) (k : V → List V → Prop) : Prop := match scD x, scL ds with | some v, some vs => k v vs | _, _ => False
def oIn (neg : Bool) : XO K T where
  r := rIn K neg
  w := fun x y M Φ => asQ y M fun ds => asSs x ds fun v vs => Φ (.bl (if neg then !inV v vs else inV v vs)) M
  ok := fun {x y M Φ} h P H vx vy wr rx ry Q hq => by
    obtain ⟨ds, a, vs, h1, rfl, hs, hr⟩ := h.rd wr ry
    unfold asSs at h1
    cases e1 : scD x with
    | none => rw [e1] at h1; exact h1.elim
    | some v =>
      cases e2 : scL ds with
      | none => rw [e1, e2] at h1; exact h1.elim
      | some ws =>
        rw [e1, e2] at h1
        rw [scD_rep rx e1]
        have e3 := scL_rep hr e2
        subst e3
        exact ⟨a, vs, rfl, hs, scD_flat e1, scL_flat e2, hq _ _ _ _ _ h1 (Step.refl wr) (.bl _)⟩
/-- tuples, lists glued -/
def oCatT : XO K T where
  r := rCatA K
  w := fun x y M Φ => asT x fun a => asT y fun b => a.length + b.length ≤ 100000 ∧ Φ (.tup (a ++ b)) M
  ok := fun h P H vx vy wr rx ry Q hq => by
    obtain ⟨ds, rfl, h1⟩ := h.get
    obtain ⟨es, rfl, h2, h3⟩ := asT.get h1
    obtain ⟨a, vs, rfl, hs, hr⟩ := rx.toTt
    obtain ⟨b, us, rfl, ht, hu⟩ := ry.toTt
    refine ⟨a, b, vs, us, rfl, rfl, wr.st (SqT.of hs), wr.st (SqT.of ht), by rw [hr.len, hu.len]; exact sz_of h2, fun e => ?_, fun _ e => ?_, fun _ _ p hp => ?_⟩
    · subst e
      cases hr
      exact hq _ _ _ _ _ h3 (Step.refl wr) (.tup ht hu)
    · subst e
      cases hu
      rw [List.append_nil] at h3
      exact hq _ _ _ _ _ h3 (Step.refl wr) (.tup hs hr)
    · have s := Step.newP wr (o := .tup (vs ++ us)) hp
      exact hq _ _ _ _ _ h3 s (.tup upd_same (RepL.mono s.ex (hr.app hu)))
def asLt (d : D) (M : Mh) (k : List D → Prop) : Prop := match d with
  | .lst ds => k ds
  | .ref p => match M p with | some (.lst ds) => k ds | _ => False
  | _ => False
theorem asLt.rd {P : Hp} {M : Mh} {H : Hp} {v : V} {d : D} {k : List D → Prop} (h : asLt d M k) (w : Wr K T P M H) (r : Rep K P v d) : ∃ ds a vs, k ds ∧ v = .ref a ∧ H a = some (.lst vs) ∧ RepL K P vs ds := by
  cases d with
  | lst ds =>
    obtain ⟨a, vs, rfl, hs, hr⟩ := r.toL
    rcases w.pure _ _ hs with q | ⟨_, _, e, _⟩
    · exact ⟨ds, a, vs, h, rfl, q, hr⟩
    · cases e
  | ref p =>
    unfold asLt at h
    simp only at h
    split at h
    · rename_i ds hm
      obtain ⟨o, ho, rm⟩ := w.chg _ _ hm
      cases rm with
      | lst hr => exact ⟨_, p, _, h, r.toR, ho, hr⟩
    · exact h.elim
  | _ => exact h.elim
def oCatL : XO K T where
  r := rCat
  w := fun x y M Φ => asLt x M fun a => asLt y M fun b => a.length + b.length ≤ 100000 ∧ Φ (.lst (a ++ b)) M
  ok := fun h P H vx vy wr rx ry Q hq => by
    obtain ⟨ds, a, vs, h1, rfl, hs, hr⟩ := h.rd wr rx
    obtain ⟨es, b, us, h2, rfl, ht, hu⟩ := h1.rd wr ry
    refine ⟨a, b, vs, us, rfl, rfl, hs, ht, by rw [hr.len, hu.len]; exact sz_of h2.1, fun p hp => ?_⟩
    have s := Step.newP wr (o := .lst (vs ++ us)) hp
    exact hq _ _ _ _ _ h2.2 s (.lst upd_same (RepL.mono s.ex (hr.app hu)))
/-- .. into a list that will change -/
def oCatM : XO K T where
  r := rCat
  w := fun x y M Φ => asLt x M fun a => asLt y M fun b => a.length + b.length ≤ 100000 ∧ ∀ p, M p = none → Φ (.ref p) (um M p (.lst (a ++ b)))
  ok := fun h P H vx vy wr rx ry Q hq => by
    obtain ⟨ds, a, vs, h1, rfl, hs, hr⟩ := h.rd wr rx
    obtain ⟨es, b, us, h2, rfl, ht, hu⟩ := h1.rd wr ry
    refine ⟨a, b, vs, us, rfl, rfl, hs, ht, by rw [hr.len, hu.len]; exact sz_of h2.1, fun p hp => ?_⟩
    exact hq _ _ _ _ _ (h2.2 p (wr.mfree hp)) (Step.newM wr hp (.lst (hr.app hu))) (.ref p)
/-! ### builtins -/
theorem RepL.one {P : Hp} {vs : List V} {d : D} (r : RepL K P vs [d]) : ∃ v, vs = [v] ∧ Rep K P v d := by
  cases r with | cons a b => cases b; exact ⟨_, rfl, a⟩
def arg1 (ds : List D) (k : D → Prop) : Prop := match ds with | [d] => k d | _ => False
theorem arg1.get {ds : List D} {k : D → Prop} (h : arg1 ds k) : ∃ d, ds = [d] ∧ k d := by
  match ds, h with
  | [d], h => exact ⟨d, rfl, h⟩
def bLen : XB K T where
  r := fun xs H Q => ∃ p ys, xs = [.ref p] ∧ (SqL K H p ys ∨ SqT K H p ys) ∧ Q (.int ys.length) H
  w := fun ds M Φ => arg1 ds fun d => asQ d M fun es => Φ (.int es.length) M
  ok := fun h P H vs wr r Q hq => by
    obtain ⟨d, rfl, h1⟩ := h.get
    obtain ⟨v, rfl, r1⟩ := r.one
    obtain ⟨es, a, us, h2, rfl, hs, hr⟩ := h1.rd wr r1
    exact ⟨a, us, rfl, hs, by rw [hr.len]; exact hq _ _ _ _ _ h2 (Step.refl wr) (.int _)⟩
def bLenS : XB K T where
  r := fun xs H Q => ∃ z, xs = [.str z] ∧ z.length ≤ sizeLine ∧ Q (.int z.length) H
  w := fun ds M Φ => arg1 ds fun d => asS d fun z => z.length ≤ 100000 ∧ Φ (.int z.length) M
  ok := fun h P H vs wr r Q hq => by
    obtain ⟨d, rfl, h1⟩ := h.get
    obtain ⟨v, rfl, r1⟩ := r.one
    obtain ⟨z, rfl, h2, h3⟩ := h1.get
    exact ⟨z, by rw [r1.toS], sz_of h2, hq _ _ _ _ _ h3 (Step.refl wr) (.int _)⟩
def bList : XB K T where
  r := fun xs H Q => ∃ p ys, xs = [.ref p] ∧ (SqL K H p ys ∨ SqT K H p ys) ∧ ∀ l, H l = none → Q (.ref l) (upd H l (.lst ys))
  w := fun ds M Φ => arg1 ds fun d => asQ d M fun es => Φ (.lst es) M
  ok := fun h P H vs wr r Q hq => by
    obtain ⟨d, rfl, h1⟩ := h.get
    obtain ⟨v, rfl, r1⟩ := r.one
    obtain ⟨es, a, us, h2, rfl, hs, hr⟩ := h1.rd wr r1
    exact ⟨a, us, rfl, hs, fun l hl => let s := Step.newP wr (o := .lst us) hl; hq _ _ _ _ _ h2 s (.lst upd_same (RepL.mono s.ex hr))⟩
def bListM : XB K T where
  r := fun xs H Q => ∃ p ys, xs = [.ref p] ∧ (SqL K H p ys ∨ SqT K H p ys) ∧ ∀ l, H l = none → Q (.ref l) (upd H l (.lst ys))
  w := fun ds M Φ => arg1 ds fun d => asQ d M fun es => ∀ p, M p = none → Φ (.ref p) (um M p (.lst es))
  ok := fun h P H vs wr r Q hq => by
    obtain ⟨d, rfl, h1⟩ := h.get
    obtain ⟨v, rfl, r1⟩ := r.one
    obtain ⟨es, a, us, h2, rfl, hs, hr⟩ := h1.rd wr r1
    exact ⟨a, us, rfl, hs, fun l hl => hq _ _ _ _ _ (h2 l (wr.mfree hl)) (Step.newM wr hl (.lst hr)) (.ref l)⟩
/-- tuple(a list) -/
def bTupL : XB K T where
  r := fun xs H Q => ∃ p ys, xs = [.ref p] ∧ ((SqL K H p ys ∧ ∀ l, H l = none → Q (.ref l) (upd H l (.tup ys))) ∨ (SqT K H p ys ∧ Q (.ref p) H))
  w := fun ds M Φ => arg1 ds fun d => asL d M fun es => Φ (.tup es) M
  ok := fun h P H vs wr r Q hq => by
    obtain ⟨d, rfl, h1⟩ := h.get
    obtain ⟨v, rfl, r1⟩ := r.one
    obtain ⟨es, a, us, h2, rfl, hs, hr⟩ := h1.rd wr r1
    exact ⟨a, us, rfl, .inl ⟨hs, fun l hl => let s := Step.newP wr (o := .tup us) hl; hq _ _ _ _ _ h2 s (.tup upd_same (RepL.mono s.ex hr))⟩⟩
def toI (d : D) (k : Int → Prop) : Prop := match d with | .int i => k i | .bl b => k (if b then 1 else 0) | _ => False
def bInt : XB K T where
  r := fun xs H Q => (∃ i, xs = [.int i] ∧ Q (.int i) H) ∨ ∃ k, xs = [.bl k] ∧ Q (.int (if k then 1 else 0)) H
  w := fun ds M Φ => arg1 ds fun d => toI d fun i => Φ (.int i) M
  ok := fun h P H vs wr r Q hq => by
    obtain ⟨d, rfl, h1⟩ := h.get
    obtain ⟨v, rfl, r1⟩ := r.one
    cases d with
    | int i => exact .inl ⟨i, by rw [r1.toI], hq _ _ _ _ _ h1 (Step.refl wr) (.int _)⟩
    | bl k => exact .inr ⟨k, by rw [r1.toB], hq _ _ _ _ _ h1 (Step.refl wr) (.int _)⟩
    | _ => exact h1.elim
/-- all are texts -/
def txts : List D → Option (List Str)
  | [] => some []
  | .str s :: r => (txts r).map (s :: ·)
  | _ :: _ => none
theorem txts_rep {P : Hp} : ∀ {vs : List V} {ds : List D} {xs : List Str}, RepL K P vs ds → txts ds = some xs → vs = xs.map V.str
  | _, _, _, .nil, h => by cases h; rfl
  | _, .str s :: ds, xs, .cons r t, h => by
    unfold txts at h
    cases e : txts ds with
    | none => rw [e] at h; cases h
    | some ys => rw [e] at h; cases h; rw [r.toS, txts_rep t e]; rfl
theorem repL_txts {P : Hp} : ∀ (xs : List Str), RepL K P (xs.map V.str) (xs.map D.str)
  | [] => .nil
  | x :: xs => .cons (.str x) (repL_txts xs)
theorem txts_map : ∀ (xs : List Str), txts (xs.map D.str) = some xs
  | [] => rfl
  | x :: xs => by show (txts (xs.map D.str)).map (x :: ·) = _; rw [txts_map xs]; rfl
def asTx (ds : List D) (k : List Str → Prop) : Prop := match txts ds with | some xs => k xs | none => False
def bSortS : XB K T where
  r := rSortedS K
  w := fun ds M Φ => arg1 ds fun d => asL d M fun es => asTx es fun xs => xs.length < 64 ∧ ∀ ys : List Str, ys.Perm xs → PyProof.Rows.sortedS ys = true → Φ (.lst (ys.map D.str)) M
  ok := fun h P H vs wr r Q hq => by
    obtain ⟨d, rfl, h1⟩ := h.get
    obtain ⟨v, rfl, r1⟩ := r.one
    obtain ⟨es, a, us, h2, rfl, hs, hr⟩ := h1.rd wr r1
    unfold asTx at h2
    cases e : txts es with
    | none => rw [e] at h2; exact h2.elim
    | some xs =>
      rw [e] at h2
      have e2 := txts_rep hr e
      subst e2
      exact ⟨a, xs, rfl, hs, h2.1, fun ys p pm so hp => let s := Step.newP wr (o := .lst (ys.map V.str)) hp; hq _ _ _ _ _ (h2.2 ys pm so) s (.lst upd_same (repL_txts ys))⟩
/-- xs.append(e) -/
def xApp (o a : XE K T) : XE K T where
  t := fun W => tBM K "list" rAppend (o.t W) (tCons (a.t W) tNil)
  w := fun ρ M Φ Ξ => o.w ρ M (fun x M1 => asR x fun p => mL M1 p fun _ => a.w ρ M1 (fun y M2 => mL M2 p fun ds => ds.length < 100000 ∧ Φ .non (um M2 p (.lst (ds ++ [y])))) Ξ) Ξ
  ok := fun h _ _ _ wr rs _ hq hx => o.ok h wr rs (fun v x P1 M1 H1 h1 s1 r1 => by
    obtain ⟨p, rfl, h2⟩ := h1.get
    obtain ⟨ds0, hm0, h3⟩ := mL.get h2
    obtain ⟨o0, ho0, rm0⟩ := s1.wr.chg _ _ hm0
    rw [r1.toR]
    cases rm0 with
    | lst hr0 =>
      refine ⟨.inl ⟨rfl, _, SqL.of ho0⟩, a.ok h3 s1.wr (rs.mono s1.ex) (fun u y P2 M2 H2 h4 s2 r2 => ?_) (hx.mono s1)⟩
      obtain ⟨ds, hm, h5, h6⟩ := mL.get h4
      obtain ⟨ob, ho, rm⟩ := s2.wr.chg _ _ hm
      cases rm with
      | lst hr => exact ⟨p, _, u, rfl, rfl, ho, by rw [hr.len]; exact sz_lt h5, hq _ _ _ _ _ h6 ((s1.trans s2).trans (Step.put s2.wr hm (.lst (hr.app (.cons r2 .nil))))) .non⟩) hx
end Ab

set_option Elab.async false
set_option linter.all false
set_option maxRecDepth 100000
set_option maxHeartbeats 2000000
namespace Ab
open PySem L2
section
variable (K : PySem.W.Frag) (T : Tt)
/-- J walks the items ds as long as St holds of what changes -/
def Goes (J : It) (ds : List D) (St : Mh → Prop) (P : Hp) (M : Mh) (H : Hp) : Prop := ∀ P2 M2 H2, StepW K T P M H P2 M2 H2 → St M2 →
  (∀ i d, ds[i]? = some d → J.go i H2 ∧ ∀ x H3, J.yld i H2 x H3 → ∃ P3, Step K T P2 M2 H2 P3 M2 H3 ∧ Rep K P3 x d) ∧ J.stop ds.length H2
structure XI where
  t : WX → TI
  w : Sl → Mh → (List D → (Mh → Prop) → Mh → Prop) → XP → Prop
  ok : ∀ {W ρ M Φ Ξ}, w ρ M Φ Ξ → ∀ {P σ H}, Wr K T P M H → RepS K P σ ρ → ∀ {R : It → Hp → Prop},
    (∀ J ds St P' M' H', Φ ds St M' → Step K T P M H P' M' H' → Goes K T J ds St P' M' H' → R J H') → XH K T W P M H Ξ → t W σ H R
end
variable {K : PySem.W.Frag} {T : Tt}
def wlk (d : D) (M : Mh) (k : List D → (Mh → Prop) → Prop) : Prop := match d with
  | .lst ds => k ds (fun _ => True)
  | .lsw ds => k ds (fun _ => True)
  | .ref p => mL M p fun ds => k ds (fun M2 => M2 p = some (.lst ds))
  | _ => False
/-- over a list -/
def iL (a : XE K T) : XI K T where
  t := fun W => iList K (a.t W)
  w := fun ρ M Φ Ξ => a.w ρ M (fun d M1 => wlk d M1 fun ds St => Φ ds St M1) Ξ
  ok := fun h P σ H wr rs R hq hx => a.ok h wr rs (fun v d P1 M1 H1 h1 s1 r1 => by
    have pure_ : ∀ {b vs ds}, v = .ref b → SqL K P1 b vs → RepL K P1 vs ds → (∀ J, Goes K T J ds (fun _ => True) P1 M1 H1 → R J H1) → ∃ b, v = .ref b ∧ (∃ xs, SqL K H1 b xs) ∧ R (Itl K b) H1 := by
      intro b vs ds e hs hr hR
      refine ⟨b, e, ⟨vs, s1.wr.sl hs⟩, hR _ fun P2 M2 H2 s2 _ => ?_⟩
      have hs2 : SqL K H2 b vs := s2.wr.sl (s2.ex.sl hs)
      refine ⟨fun i d e => ?_, ⟨vs, hs2, by rw [hr.len]; exact Nat.le_refl _⟩⟩
      obtain ⟨u, e2, r2⟩ := hr.getd e
      exact ⟨⟨vs, u, hs2, e2⟩, fun x H3 y => by
        obtain ⟨e3, y⟩ := y
        subst e3
        have e4 := y vs hs2
        rw [e2] at e4
        cases e4
        exact ⟨P2, Step.refl s2.wr, r2.mono s2.ex⟩⟩
    cases d with
    | lst ds =>
      obtain ⟨b, vs, e, hs, hr⟩ := r1.toL
      exact pure_ e (SqL.of hs) hr fun J g => hq J ds _ P1 M1 H1 h1 s1 g
    | lsw ds =>
      obtain ⟨b, vs, e, hs, hr⟩ := r1.toLw
      exact pure_ e hs hr fun J g => hq J ds _ P1 M1 H1 h1 s1 g
    | ref p =>
      obtain ⟨ds, hm, h2⟩ := mL.get h1
      obtain ⟨o, ho, rm⟩ := s1.wr.chg _ _ hm
      cases rm with
      | lst hr =>
        refine ⟨p, r1.toR, ⟨_, SqL.of ho⟩, hq _ ds _ P1 M1 H1 h2 s1 fun P2 M2 H2 s2 hm2 => ?_⟩
        obtain ⟨o2, ho2, rm2⟩ := s2.wr.chg _ _ hm2
        cases rm2 with
        | lst hr2 =>
          refine ⟨fun i d e => ?_, ⟨_, SqL.of ho2, by rw [hr2.len]; exact Nat.le_refl _⟩⟩
          obtain ⟨u, e2, r2⟩ := hr2.getd e
          exact ⟨⟨_, u, SqL.of ho2, e2⟩, fun x H3 y => by
            obtain ⟨e3, y⟩ := y
            subst e3
            have e4 := y _ (SqL.of ho2)
            rw [e2] at e4
            cases e4
            exact ⟨P2, Step.refl s2.wr, r2⟩⟩
    | _ => exact h1.elim) hx
/-- over a tuple -/
def iT (a : XE K T) : XI K T where
  t := fun W => iTup K (a.t W)
  w := fun ρ M Φ Ξ => a.w ρ M (fun d M1 => asT d fun ds => Φ ds (fun _ => True) M1) Ξ
  ok := fun h P σ H wr rs R hq hx => a.ok h wr rs (fun v d P1 M1 H1 h1 s1 r1 => by
    obtain ⟨ds, rfl, h2⟩ := h1.get
    obtain ⟨b, vs, e, hs, hr⟩ := r1.toT
    refine ⟨b, e, ⟨vs, s1.wr.st hs⟩, hq _ ds _ P1 M1 H1 h2 s1 fun P2 M2 H2 s2 _ => ?_⟩
    have hs2 : SqT K H2 b vs := s2.wr.st (s2.ex.st hs)
    refine ⟨fun i d e => ?_, ⟨vs, hs2, by rw [hr.len]; exact Nat.le_refl _⟩⟩
    obtain ⟨u, e2, r2⟩ := hr.getd e
    exact ⟨⟨vs, u, hs2, e2⟩, fun x H3 y => by
      obtain ⟨e3, y⟩ := y
      subst e3
      have e4 := y vs hs2
      rw [e2] at e4
      cases e4
      exact ⟨P2, Step.refl s2.wr, r2.mono s2.ex⟩⟩) hx
def rngD (lo : Int) (n : Nat) : List D := (List.range n).map fun i => .int (lo + (i : Nat))
theorem rngD_len (lo : Int) (n : Nat) : (rngD lo n).length = n := by simp [rngD]
theorem rngD_get {lo : Int} {n i : Nat} {d : D} (h : (rngD lo n)[i]? = some d) : i < n ∧ d = .int (lo + (i : Nat)) := by
  have hl := (List.getElem?_eq_some_iff.mp h).1
  rw [rngD_len] at hl
  refine ⟨hl, ?_⟩
  unfold rngD at h
  rw [List.getElem?_map, List.getElem?_range hl] at h
  exact (Option.some.inj h).symm
theorem goes_range {lo : Int} {n : Nat} {P : Hp} {M : Mh} {H : Hp} : Goes K T (Itr lo n) (rngD lo n) (fun _ => True) P M H := by
  intro P2 M2 H2 s2 _
  refine ⟨fun i d e => ?_, by show n ≤ (rngD lo n).length; rw [rngD_len]; exact Nat.le_refl _⟩
  obtain ⟨hi, rfl⟩ := rngD_get e
  exact ⟨hi, fun x H3 y => by
    obtain ⟨e3, e4⟩ := y
    subst e3 e4
    exact ⟨P2, Step.refl s2.wr, .int _⟩⟩
def iR1 (a : XE K T) : XI K T where
  t := fun W => iRng1 (tCons (a.t W) tNil)
  w := fun ρ M Φ Ξ => a.w ρ M (fun d M1 => asI d fun j => j ≤ 100000 ∧ -100000 ≤ j ∧ Φ (rngD 0 j.toNat) (fun _ => True) M1) Ξ
  ok := fun h P σ H wr rs R hq hx => a.ok h wr rs (fun v d P1 M1 H1 h1 s1 r1 => by
    obtain ⟨j, rfl, h2, h3, h4⟩ := h1.get
    exact ⟨j, by rw [r1.toI], by omega, by omega, hq _ _ _ P1 M1 H1 h4 s1 goes_range⟩) hx
def iR2 (a b : XE K T) : XI K T where
  t := fun W => iRng2 (tCons (a.t W) (tCons (b.t W) tNil))
  w := fun ρ M Φ Ξ => a.w ρ M (fun x M1 => asI x fun i => b.w ρ M1 (fun y M2 => asI y fun j => (j ≤ 100000 ∧ -100000 ≤ j ∧ i ≤ 100000 ∧ -100000 ≤ i) ∧ Φ (rngD i (j - i).toNat) (fun _ => True) M2) Ξ) Ξ
  ok := fun h P σ H wr rs R hq hx => a.ok h wr rs (fun v d P1 M1 H1 h1 s1 r1 => by
    obtain ⟨i, rfl, h2⟩ := h1.get
    exact b.ok h2 s1.wr (rs.mono s1.ex) (fun u e P2 M2 H2 h3 s2 r2 => by
      obtain ⟨j, rfl, h4, h5⟩ := h3.get
      exact ⟨i, j, by rw [r1.toI, r2.toI], ⟨by omega, by omega, by omega, by omega⟩, hq _ _ _ P2 M2 H2 h5 (s1.trans s2) goes_range⟩) (hx.mono s1)) hx

/-- for -/
def sFor (it : XI K T) (g : XG K T) (b : XS K T) : XS K T where
  t := fun W => tFor (it.t W) (g.t W) (b.t W)
  w := fun ρ M ε Ξ => it.w ρ M (fun ds St M1 => ∃ I : Nat → Sl → Mh → Prop, I 0 ρ M1 ∧ (∀ i ρ' M', I i ρ' M' → St M') ∧
    (∀ i d ρ' M', ds[i]? = some d → I i ρ' M' → g.w d ρ' M' (fun ρ2 M2 => b.w ρ2 M2 ⟨I (i + 1), ε.rt, ε.nx, I (i + 1)⟩ Ξ) Ξ) ∧ (∀ ρ' M', I ds.length ρ' M' → ε.nx ρ' M')) Ξ
  ok := fun {W ρ M ε Ξ} h P σ H wr rs Dn hd hx => it.ok h wr rs (fun J ds St P1 M1 H1 h1 s1 hg => by
    obtain ⟨I, h0, hst, hs, he⟩ := h1
    refine ⟨fun i m σ' H' => m = ds.length - i ∧ i ≤ ds.length ∧ ∃ ρ' P' M', I i ρ' M' ∧ Step K T P1 M1 H1 P' M' H' ∧ RepS K P' σ' ρ', ⟨ds.length, by simp, Nat.zero_le _, ρ, P1, M1, h0, Step.refl s1.wr, rs.mono s1.ex⟩, ?_⟩
    rintro i m σ' H' ⟨rfl, hi, ρ', P', M', hI, st, rs'⟩
    obtain ⟨g1, g2⟩ := hg P' M' H' st.w (hst i ρ' M' hI)
    by_cases hlt : i < ds.length
    · have e : ds[i]? = some ds[i] := by simp [hlt]
      obtain ⟨k1, k2⟩ := g1 i _ e
      refine .inr ⟨k1, fun σ2 H2 => ∃ ρ2 P2 M2, I (i + 1) ρ2 M2 ∧ Step K T P1 M1 H1 P2 M2 H2 ∧ RepS K P2 σ2 ρ2, fun σ2 H2 q => ⟨ds.length - (i + 1), by omega, rfl, hlt, q⟩, fun x H3 y => ?_⟩
      obtain ⟨P3, s3, r3⟩ := k2 x H3 y
      have s13 := (s1.trans st).trans s3
      refine g.ok (hs i _ ρ' M' e hI) s3.wr (rs'.mono s3.ex) r3 (fun ρ4 σ4 P4 M4 H4 h4 s4 rs4 => ?_) (hx.mono s13)
      refine b.ok h4 s4.wr rs4 ⟨fun ρ5 σ5 P5 M5 H5 h5 s5 rs5 => ⟨ρ5, P5, M5, h5, ((st.trans s3).trans s4).trans s5, rs5⟩, fun v d P5 M5 H5 h5 s5 r5 => hd.rt v d P5 M5 H5 h5 ((s13.trans s4).trans s5) r5,
        fun ρ5 σ5 P5 M5 H5 h5 s5 rs5 => hd.nx ρ5 σ5 P5 M5 H5 h5 ((s13.trans s4).trans s5) rs5, fun ρ5 σ5 P5 M5 H5 h5 s5 rs5 => ⟨ρ5, P5, M5, h5, ((st.trans s3).trans s4).trans s5, rs5⟩⟩ (hx.mono (s13.trans s4))
    · have e : i = ds.length := by omega
      subst e
      exact .inl ⟨g2, hd.nx _ _ _ _ _ (he ρ' M' hI) (s1.trans st) rs'⟩) hx

/-! ### comprehensions -/
theorem wipe_eq {σ σ2 : L2.St} : ∀ {vs : List Nat}, σ2.length = σ.length → (∀ k, k ∉ vs → σ2[k]? = σ[k]?) → wipe σ2 vs = wipe σ vs := by
  intro vs hl h
  have key : ∀ (vs : List Nat) (τ : L2.St) (k : Nat), (wipe τ vs)[k]? = if k ∈ vs then (if k < τ.length then some none else none) else τ[k]? := by
    intro vs
    induction vs with
    | nil => intro τ k; simp [wipe]
    | cons v vs ih =>
      intro τ k
      unfold wipe
      by_cases e : v = k
      · subst e
        rw [if_pos (by simp)]
        by_cases hk : v < τ.length
        · rw [List.getElem?_set_self (by rw [wipe_length]; exact hk), if_pos hk]
        · rw [List.getElem?_eq_none (by rw [List.length_set, wipe_length]; omega), if_neg hk]
      · rw [List.getElem?_set_ne e, ih]
        by_cases m : k ∈ vs
        · rw [if_pos m, if_pos (List.mem_cons_of_mem _ m)]
        · rw [if_neg m, if_neg (by simp only [List.mem_cons, not_or]; exact ⟨fun z => e z.symm, m⟩)]
  apply List.ext_getElem?
  intro k
  rw [key, key]
  by_cases m : k ∈ vs
  · rw [if_pos m, if_pos m, hl]
  · rw [if_neg m, if_neg m, h k m]
def wipeD (ρ : Sl) : List Nat → Sl
  | [] => ρ
  | v :: vs => (wipeD ρ vs).set v none
theorem RepS.wipe {P : Hp} {σ : L2.St} {ρ : Sl} (h : RepS K P σ ρ) : ∀ vs, RepS K P (wipe σ vs) (wipeD ρ vs)
  | [] => h
  | v :: vs => (h.wipe vs).setn v
/-- a comprehension's target: one name, or names in a row -/
inductive CG where | one (i : Nat) | many (is : List Nat) | nest (i : Nat) (is : List Nat)
def CG.slots : CG → List Nat | .one i => [i] | .many is => is | .nest i is => i :: is
def CG.ts : List Nat → TGs
  | [] => gNil
  | i :: is => gCons (gName i) (CG.ts is)
def CG.t (K : PySem.W.Frag) : CG → TG
  | .one i => gName i
  | .many is => gTup K is.length (CG.ts is)
  | .nest i is => gTup K 2 (gCons (gName i) (gCons (gTup K is.length (CG.ts is)) gNil))
def putN : List Nat → List D → Sl → Sl
  | i :: is, d :: ds, ρ => putN is ds (ρ.set i (some d))
  | _, _, ρ => ρ
def asP2 (ds : List D) (k : D → D → Prop) : Prop := match ds with | [a, b] => k a b | _ => False
theorem asP2.get {ds : List D} {k : D → D → Prop} (h : asP2 ds k) : ∃ a b, ds = [a, b] ∧ k a b := by
  match ds, h with
  | [a, b], h => exact ⟨a, b, rfl, h⟩
theorem asP2_ {a b : D} {k : D → D → Prop} : asP2 [a, b] k = k a b := rfl
def CG.w (g : CG) (d : D) (ρ : Sl) (k : Sl → Prop) : Prop := match g with
  | .one i => k (ρ.set i (some d))
  | .many is => asT d fun ds => ds.length = is.length ∧ k (putN is ds ρ)
  | .nest i is => asT d fun ds => asP2 ds fun x y => asT y fun es => es.length = is.length ∧ k (putN is es (ρ.set i (some x)))
theorem CG.ts_ok {P : Hp} {H : Hp} {Q : L2.St → Hp → Prop} : ∀ (is : List Nat) {vs : List V} {ds : List D} {σ : L2.St} {ρ : Sl}, RepL K P vs ds → ds.length = is.length → RepS K P σ ρ →
    (∀ σ', RepS K P σ' (putN is ds ρ) → σ'.length = σ.length → (∀ k, k ∉ is → σ'[k]? = σ[k]?) → Q σ' H) → CG.ts is vs σ H Q
  | [], _, _, σ, ρ, .nil, _, rs, hq => ⟨rfl, hq σ rs rfl fun _ _ => rfl⟩
  | i :: is, _, _, σ, ρ, .cons r t, hl, rs, hq => ⟨_, _, rfl, CG.ts_ok is t (Nat.succ.inj hl) (rs.set r i) fun σ' rs' l' h' => hq σ' rs' (by rw [l', List.length_set]) fun k hk => by
      rw [h' k (fun z => hk (List.mem_cons_of_mem _ z)), List.getElem?_set_ne (fun z => hk (by rw [z]; exact List.mem_cons_self))]⟩
  | [], _, _, _, _, .cons _ _, hl, _, _ => by cases hl
  | _ :: _, _, _, _, _, .nil, hl, _, _ => by cases hl
theorem CG.ok {g : CG} {d : D} {ρ : Sl} {k : Sl → Prop} (h : g.w d ρ k) {P : Hp} {M : Mh} {H : Hp} {v : V} {σ : L2.St} (wr : Wr K T P M H) (rs : RepS K P σ ρ) (r : Rep K P v d) {Q : L2.St → Hp → Prop}
    (hq : ∀ σ' ρ', k ρ' → RepS K P σ' ρ' → σ'.length = σ.length → (∀ j, j ∉ g.slots → σ'[j]? = σ[j]?) → Q σ' H) : g.t K v σ H Q := by
  cases g with
  | one i => exact hq _ _ h (rs.set r i) (by rw [List.length_set]) fun j hj => List.getElem?_set_ne (fun z => hj (by rw [z]; exact List.mem_cons_self))
  | many is =>
    obtain ⟨ds, rfl, hl, h2⟩ := asT.get h
    obtain ⟨a, vs, rfl, hs, hr⟩ := r.toT
    exact ⟨a, vs, rfl, wr.st hs, by rw [hr.len]; exact hl, CG.ts_ok is hr hl rs fun σ' rs' l' h' => hq σ' _ h2 rs' l' h'⟩
  | nest i is =>
    obtain ⟨ds, rfl, h1⟩ := asT.get h
    obtain ⟨x, y, rfl, h2⟩ := h1.get
    obtain ⟨es, rfl, hl, h3⟩ := asT.get h2
    obtain ⟨a, vs, rfl, hs, hr⟩ := r.toT
    cases hr with
    | cons rx hr2 =>
      cases hr2 with
      | cons ry hr3 =>
        cases hr3
        obtain ⟨b, us, rfl, hs2, hu⟩ := ry.toT
        exact ⟨a, _, rfl, wr.st hs, rfl, _, _, rfl, _, _, rfl, b, us, rfl, wr.st hs2, by rw [hu.len]; exact hl, CG.ts_ok is hu hl (rs.set rx i) fun σ' rs' l' h' => ⟨rfl, hq σ' _ h3 rs' (by rw [l', List.length_set]) fun j hj => by
          rw [h' j (fun z => hj (List.mem_cons_of_mem _ z)), List.getElem?_set_ne (fun z => hj (by rw [z]; exact List.mem_cons_self))]⟩⟩
def WX0 : WX := fun _ _ _ _ => False
def qYes : XT K T := ⟨fun _ => tYes, fun _ M Φ _ => Φ true M, fun h _ _ _ wr _ _ hq _ => hq _ _ _ _ h (Step.refl wr)⟩
/-- what the elements' making promises: acc so far -/
def lcW (it : XI K T) (g : CG) (q : XT K T) (e : XE K T) (ρ : Sl) (M : Mh) (F : List D → Mh → Prop) (Ξ : XP) : Prop :=
  it.w ρ M (fun ds St M1 => ds.length ≤ 100000 ∧ ∃ I : Nat → List D → Mh → Prop, I 0 [] M1 ∧ (∀ i acc M', I i acc M' → St M') ∧
    (∀ i d acc M', ds[i]? = some d → I i acc M' → g.w d (wipeD ρ g.slots) fun ρ2 => q.w ρ2 M' (fun b M2 => if b = true then e.w ρ2 M2 (fun y M3 => I (i + 1) (acc ++ [y]) M3) (fun _ _ _ _ => False) else I (i + 1) acc M2) (fun _ _ _ _ => False)) ∧
    (∀ acc M', I ds.length acc M' → F acc M')) Ξ
theorem lc_ok {it : XI K T} {g : CG} {q : XT K T} {e : XE K T} {ρ : Sl} {M : Mh} {F : List D → Mh → Prop} {Ξ : XP} {W : WX} (h : lcW it g q e ρ M F Ξ) {P : Hp} {σ : L2.St} {H : Hp} (wr : Wr K T P M H) (rs : RepS K P σ ρ) {Q : VK}
    (hq : ∀ p acc vs P' M' H', F acc M' → Step K T P M H P' M' H' → H p = none → H' p = some (.lst vs) → RepL K P' vs acc → P' p = none → M' p = none → ¬ T p → Q (.ref p) H') (hx : XH K T W P M H Ξ) :
    tLc (it.t W) (g.t K) (q.t WX0) (e.t WX0) g.slots σ H Q := by
  refine it.ok h wr rs (fun J ds St P1 M1 H1 h1 s1 hg => ?_) hx
  obtain ⟨hlen, I, h0, hst, hs, he⟩ := h1
  intro p hp
  have pf1 := s1.wr.pfree hp
  have mf1 := s1.wr.mfree hp
  have nt := s1.wr.tne hp
  have hH : H p = none := s1.back hp
  have S0 : Step K T P1 M1 H1 P1 M1 (upd H1 p (.lst [])) := (Step.refl s1.wr).side hp pf1 mf1 nt
  refine ⟨fun i m H' => m = ds.length - i ∧ i ≤ ds.length ∧ ∃ acc vs P' M', I i acc M' ∧ acc.length ≤ i ∧ Step K T P1 M1 H1 P' M' H' ∧ H' p = some (.lst vs) ∧ RepL K P' vs acc ∧ P' p = none ∧ M' p = none,
    ⟨ds.length, by simp, Nat.zero_le _, [], [], P1, M1, h0, Nat.zero_le _, S0, upd_same, .nil, pf1, mf1⟩, ?_⟩
  rintro i m H' ⟨rfl, hi, acc, vs, P', M', hI, hal, st, hp', hr, pp, mp⟩
  obtain ⟨g1, g2⟩ := hg P' M' H' st.w (hst i acc M' hI)
  by_cases hlt : i < ds.length
  · have ee : ds[i]? = some ds[i] := by simp [hlt]
    obtain ⟨k1, k2⟩ := g1 i _ ee
    refine .inr ⟨k1, fun H2 => ∃ acc vs P' M', I (i + 1) acc M' ∧ acc.length ≤ i + 1 ∧ Step K T P1 M1 H1 P' M' H2 ∧ H2 p = some (.lst vs) ∧ RepL K P' vs acc ∧ P' p = none ∧ M' p = none, fun H2 q => ⟨ds.length - (i + 1), by omega, rfl, hlt, q⟩, fun x H3 y => ?_⟩
    obtain ⟨P3, s3, r3⟩ := k2 x H3 y
    obtain ⟨hp3, pp3, mp3⟩ := s3.fr p _ hp' pp mp nt (fun _ z => nomatch z) (fun _ z => nomatch z)
    have st3 := st.trans s3
    have rs3 : RepS K P3 (wipe σ g.slots) (wipeD ρ g.slots) := (rs.mono (s1.trans st3).ex).wipe _
    refine CG.ok (hs i _ acc M' ee hI) s3.wr rs3 r3 fun σ4 ρ4 h4 rs4 hl4 hk4 => ⟨?_, ?_⟩
    · have q1 : L2.wipe σ4 g.slots = L2.wipe (L2.wipe σ g.slots) g.slots := wipe_eq hl4 hk4
      have q2 : L2.wipe (L2.wipe σ g.slots) g.slots = L2.wipe σ g.slots := wipe_eq (wipe_length σ g.slots) fun k hk => wipe_out hk
      rw [q1, q2]
    · refine q.ok h4 s3.wr rs4 (fun b P5 M5 H5 h5 s5 => ?_) (fun _ _ _ _ _ _ _ z _ _ => z.elim)
      obtain ⟨hp5, pp5, mp5⟩ := s5.fr p _ hp3 pp3 mp3 nt (fun _ z => nomatch z) (fun _ z => nomatch z)
      cases b with
      | true =>
        refine e.ok h5 s5.wr (rs4.mono s5.ex) (fun v d P6 M6 H6 h6 s6 r6 => ?_) (fun _ _ _ _ _ _ _ z _ _ => z.elim)
        obtain ⟨hp6, pp6, mp6⟩ := s6.fr p _ hp5 pp5 mp5 nt (fun _ z => nomatch z) (fun _ z => nomatch z)
        have st6 := (st3.trans s5).trans s6
        refine ⟨vs, hp6, ?_, acc ++ [d], vs ++ [v], P6, M6, h6, ?_, st6.side hp pp6 mp6 nt, upd_same, (RepL.mono ((s3.trans s5).trans s6).ex hr).app (.cons r6 .nil), pp6, mp6⟩
        · rw [hr.len]; exact sz_lt (by omega)
        · rw [List.length_append]; show acc.length + 1 ≤ i + 1; omega
      | false => exact ⟨acc, vs, P5, M5, h5, by omega, st3.trans s5, hp5, RepL.mono (s3.trans s5).ex hr, pp5, mp5⟩
  · have ee : i = ds.length := by omega
    subst ee
    exact .inl ⟨g2, hq p acc vs P' M' H' (he acc M' hI) (s1.trans st) hH hp' hr pp mp nt⟩
/-- a new list, as data -/
def xLc (it : XI K T) (g : CG) (q : XT K T) (e : XE K T) : XE K T where
  t := fun W => tLc (it.t W) (g.t K) (q.t WX0) (e.t WX0) g.slots
  w := fun ρ M Φ Ξ => lcW it g q e ρ M (fun acc M' => Φ (.lst acc) M') Ξ
  ok := fun h P σ H wr rs Q hq hx => lc_ok h wr rs (fun p acc vs P' M' H' h1 st hp hp' hr pp mp nt =>
    let s := st.adoptP hp pp mp nt hp'
    hq _ _ _ _ _ h1 s (.lst upd_same (RepL.mono (Ex.put pp) hr))) hx
/-- .. that will change -/
def xLcM (it : XI K T) (g : CG) (q : XT K T) (e : XE K T) : XE K T where
  t := fun W => tLc (it.t W) (g.t K) (q.t WX0) (e.t WX0) g.slots
  w := fun ρ M Φ Ξ => lcW it g q e ρ M (fun acc M' => ∀ p, M' p = none → Φ (.ref p) (um M' p (.lst acc))) Ξ
  ok := fun h P σ H wr rs Q hq hx => lc_ok h wr rs (fun p acc vs P' M' H' h1 st hp hp' hr pp mp nt =>
    hq _ _ _ _ _ (h1 p mp) (st.adoptM hp pp mp nt hp' (.lst hr)) (.ref p)) hx

/-! ### a def -/
def st0 (n : Nat) (ds : List D) : Sl := ds.map some ++ List.replicate (n - ds.length) none
theorem RepL.start {P : Hp} {N : List Str} : ∀ {vs : List V} {ds : List D}, RepL K P vs ds → RepS K P (L2.start N vs) (st0 N.length ds) := by
  intro vs ds r
  refine ⟨by simp [L2.start, st0, r.len], fun i d e => ?_⟩
  unfold st0 at e
  unfold L2.start
  by_cases h : i < ds.length
  · rw [List.getElem?_append_left (by simpa using h), List.getElem?_map] at e
    cases e2 : ds[i]? with
    | none => rw [e2] at e; cases e
    | some d2 =>
      rw [e2] at e
      cases e
      obtain ⟨v, e3, r3⟩ := r.getd e2
      exact ⟨v, by rw [List.getElem?_append_left (by simpa [r.len] using h), List.getElem?_map, e3]; rfl, r3⟩
  · rw [List.getElem?_append_right (by simpa using Nat.le_of_not_lt h)] at e
    rw [List.getElem?_replicate] at e
    split at e
    · cases e
    · cases e
/-- no more: what a ghost step may do to the state -/
def sFrz (i : Nat) (b : XS K T) : XS K T where
  t := b.t
  w := fun ρ M ε Ξ => look ρ i fun d => asR d fun p => mL M p fun ds => b.w (ρ.set i (some (.lst ds))) (em M p) ε Ξ
  ok := fun {W ρ M ε Ξ} h P σ H wr rs Dn hd hx => by
    obtain ⟨d, e, h1⟩ := h.get
    obtain ⟨p, rfl, h2⟩ := h1.get
    obtain ⟨ds, hm, h3⟩ := mL.get h2
    obtain ⟨o, ho, rm, st⟩ := Step.freeze wr hm
    obtain ⟨v, e2, r⟩ := rs.2 i _ e
    cases rm with
    | @lst vs _ hr =>
      refine b.ok h3 st.wr ?_ (hd.mono st) (hx.mono st)
      refine ⟨by rw [List.length_set]; exact rs.1, fun j d q => ?_⟩
      by_cases hij : i = j
      · subst hij
        have hl : i < ρ.length := (List.getElem?_eq_some_iff.mp e).1
        rw [List.getElem?_set_self hl] at q
        cases q
        rw [r.toR] at e2
        exact ⟨_, e2, .lst upd_same (RepL.mono st.ex hr)⟩
      · rw [List.getElem?_set_ne hij] at q
        obtain ⟨v', e3, r3⟩ := rs.2 j d q
        exact ⟨v', e3, r3.mono st.ex⟩
end Ab

set_option Elab.async false
set_option linter.all false
set_option maxRecDepth 100000
set_option maxHeartbeats 2000000
namespace Ab
open PySem PySem.Spec PyProof.Rows L2
/-! ### a def by its name -/
structure Cl (P : Program) (w : World) (K : PySem.W.Frag) (mg : Str → Option Value) (base : Heap) (T : Tt) (k : Nat) (x : Str) (sp : Pm) : Prop where
  ex : ∃ (f : Addr) (fd : FuncData) (ps : List Str), FnOk P w K mg base (L2.CX P w) k f fd ps (spOf K T sp) ∧ mg x = some (.ref f) ∧ PySem.W.keepIn K (.ref f) = true ∧ Binds K fd ps []
theorem Cl.mono {P : Program} {w : World} {K : PySem.W.Frag} {mg : Str → Option Value} {base : Heap} {T : Tt} {j k : Nat} {x : Str} {sp : Pm} (c : Cl P w K mg base T j x sp) (h : j ≤ k) : Cl P w K mg base T k x sp :=
  let ⟨f, fd, ps, F, a, b, d⟩ := c.ex
  ⟨f, fd, ps, F.mono h, a, b, d⟩
/-- a def that stands behind the top -/
structure Df (K : PySem.W.Frag) (mg : Str → Option Value) (x : Str) (st : Stmt) : Prop where
  ex : ∃ (f : Addr) (fd : FuncData), Fun K x x st f fd ∧ mg x = some (.ref f) ∧ fd.defaults = .none
section
variable {P : Program} {w : World} {K : PySem.W.Frag} {mg : Str → Option Value} {base : Heap} {T : Tt}
/-- a def that raises nothing keeps its promise -/
theorem fn0 {x : Str} {st : Stmt} {f : Addr} {fd : FuncData} {N ps : List Str} {k : Nat} {sp : Pm} (F : Fun K x x st f fd) (S : FnScope N ps (defScope st)) (b : XS K T) (hlen : ∀ ds M Φ Ξ, sp ds M Φ Ξ → ds.length = ps.length)
    (hd : ∀ (f : Addr) (cdv : Value) (A : Around) (outer : List Env) (s : Shared) (H : Hp) (E : XK), Room k (A.deeper (envOfC x (defScope st) s.heap.objs.size f cdv)) →
      PSs (cxOf (L2.CX P w) P w K mg base N x (defScope st) f cdv A outer s H E).nox (defBody st) (b.t WX0))
    (hw : ∀ ds M Φ Ξ, sp ds M Φ Ξ → b.w (st0 N.length ds) M ⟨fun _ M' => Φ .non M', Φ, fun _ _ => False, fun _ _ => False⟩ (fun _ _ _ _ => False)) : FnOk P w K mg base (L2.CX P w) (k + 1) f fd ps (spOf K T sp) := by
  refine F.okX S (fun vs H Q E h => ?_) (fun cdv A outer s H vs Q E hr h => ?_)
  · obtain ⟨P0, M, ds, Φ, Ξ, wr, r, hs, _⟩ := h
    rw [r.len]; exact hlen _ _ _ _ hs
  · obtain ⟨P0, M, ds, Φ, Ξ, wr, r, hs, hq, _⟩ := h
    refine ⟨_, (hd f cdv A outer s H E hr).nox, ?_⟩
    exact b.ok (hw ds M Φ Ξ hs) wr r.start ⟨fun ρ' σ' P' M' H' h1 s1 r1 => hq _ _ _ _ _ h1 s1 .non, fun v d P' M' H' h1 s1 r1 => hq _ _ _ _ _ h1 s1 r1, fun _ _ _ _ _ z _ _ => z.elim, fun _ _ _ _ _ z _ _ => z.elim⟩ (fun _ _ _ _ _ _ _ z _ _ => z.elim)
theorem cl0 {x : Str} {st : Stmt} {N ps : List Str} {k : Nat} {sp : Pm} (F : Df K mg x st) (S : FnScope N ps (defScope st)) (b : XS K T) (hlen : ∀ ds M Φ Ξ, sp ds M Φ Ξ → ds.length = ps.length)
    (hb : ∀ (kV doc pm : Value) (an : Option Addr) (cdv ct : Value) (us : List Value), us.length = ps.length → bindArgs (PySem.W.fnOf x x (defArgs st) (defBody st) (defScope st) .none kV doc pm an cdv ct) ⟨us, []⟩ = pure (ps.zip us))
    (hd : ∀ (f : Addr) (cdv : Value) (A : Around) (outer : List Env) (s : Shared) (H : Hp) (E : XK), Room k (A.deeper (envOfC x (defScope st) s.heap.objs.size f cdv)) →
      PSs (cxOf (L2.CX P w) P w K mg base N x (defScope st) f cdv A outer s H E).nox (defBody st) (b.t WX0))
    (hw : ∀ ds M Φ Ξ, sp ds M Φ Ξ → b.w (st0 N.length ds) M ⟨fun _ M' => Φ .non M', Φ, fun _ _ => False, fun _ _ => False⟩ (fun _ _ _ _ => False)) : Cl P w K mg base T (k + 1) x sp := by
  obtain ⟨f, fd, F, hm, hdf⟩ := F.ex
  exact ⟨f, fd, ps, fn0 F S b hlen hd hw, hm, F.kp, F.binds hb⟩
theorem df_mk {h : Heap} (X : K.In h) (G : h.Ns mainGlobals mg) {x : Str} {st : Stmt} {f : Addr} {oc : Value} {od an : Option Addr} {osl : Array (Option Value)} {kV doc pm cdv ct : Value} (a : PySem.W.nsIn K mainGlobals x = some (some (.ref f)))
    (l : K.lookup f = some ⟨oc, od, .func (PySem.W.fnOf x x (defArgs st) (defBody st) (defScope st) .none kV doc pm an cdv ct), osl⟩) (c : PySem.W.codeIn K cdv x = true) (k : PySem.W.keepIn K (.ref f) = true) : Df K mg x st :=
  ⟨f, _, fun_mk l c k, PySem.W.mg_of X G a, rfl⟩
end
/-! ### what stands in the text -/
section
variable {X : Cx} {W : WX} {T : Tt} {pos : Pos}
abbrev B1 (X : Cx) := X.K
theorem dVar (i : Nat) {x : Str} (hN : X.N[i]? = some x := by rfl) (hv : Vis X.env.scope x := by first | exact Or.inl rfl | exact Or.inr (Or.inl rfl) | exact Or.inr (Or.inr rfl)) (hd : (x == ("__debug__" : Str)) = false := by decide)
    (hcd : (x == ("__classdict__" : Str)) = false := by decide) : PE X (.Name x pos) ((xVar (K := X.K) (T := T) i).t W) := pe_var hN hv hd hcd
theorem dInt {i j} : PE X (.Constant (.int i) j pos) ((xInt (K := X.K) (T := T) i).t W) := pe_int
theorem dStr {i j} : PE X (.Constant (.str i) j pos) ((xStr (K := X.K) (T := T) i).t W) := pe_str
theorem dBl {i j} : PE X (.Constant (.bool i) j pos) ((xBl (K := X.K) (T := T) i).t W) := pe_bl
theorem dNon {j} : PE X (.Constant .none j pos) ((xNon (K := X.K) (T := T)).t W) := pe_non
/-- a module's int -/
theorem dGlI {i : Int} {x : Str} (hm : ∃ u, X.mg x = some u ∧ RelV (.int i) u) (hg : Gl X x := by rfl) (hd : (x == ("__debug__" : Str)) = false := by decide) : PE X (.Name x pos) ((xInt (K := X.K) (T := T) i).t W) := let ⟨_, hm, r⟩ := hm; pe_glob hg hm r hd
variable {a b c : XE X.K T} {o o' : XO X.K T} {ea eb ec : Expr} {es : List Expr} {as : XA X.K T} {q q' : XT X.K T}
theorem dOp {op : Operator} (ho : OpR X (binaryOp op) o.r) (ha : PE X ea (a.t W)) (hb : PE X eb (b.t W)) : PE X (.BinOp ea op eb pos) ((xOp o a b).t W) := pe_op ho ha hb
theorem dIx (hr : IxR X o.r) (ha : PE X ea (a.t W)) (hb : PE X eb (b.t W)) (hs : PlainIx eb := by intro _ _; rfl) : PE X (.Subscript ea eb pos) ((xOp o a b).t W) := pe_ix hr ha hb hs
theorem dCmp {op : CmpOp} (ho : OpR X (compareOp op) o.r) (ha : PE X ea (a.t W)) (hb : PE X eb (b.t W)) (hm : behindInMarks op eb = false := by first | exact nobehind _ (by decide) (by decide) | with_unfolding_all rfl) : PE X (.Compare ea [op] [eb] pos) ((xOp o a b).t W) := pe_cmpR ho ha hb hm
theorem dCh {op op' : CmpOp} (ho : OpR X (compareOp op) o.r) (ho' : OpR X (compareOp op') o'.r) (ha : PE X ea (a.t W)) (hb : PE X eb (b.t W)) (hc : PE X ec (c.t W)) (hm : lastMarks [op, op'] [eb, ec] = false := by with_unfolding_all rfl) :
    PE X (.Compare ea [op, op'] [eb, ec] pos) ((xCh o o' a b c).t W) := pe_chain ho ho' ha hb hc hm
theorem dIsN {j pos'} (ha : PE X ea (a.t W)) : PE X (.Compare ea [.Is] [.Constant .none j pos'] pos) ((xIsN a).t W) := pe_cmp (pc_isN ha)
theorem dNotN {j pos'} (ha : PE X ea (a.t W)) : PE X (.Compare ea [.IsNot] [.Constant .none j pos'] pos) ((xNotN a).t W) := pe_cmp (pc_notN ha)
theorem dAnd {rest} (ha : PE X ea (a.t W)) (hb : PE X (.BoolOp .And (eb :: rest) pos) (b.t W)) : PE X (.BoolOp .And (ea :: eb :: rest) pos) ((xAnd a b).t W) := pe_and ha hb
theorem dOr {rest} (ha : PE X ea (a.t W)) (hb : PE X (.BoolOp .Or (eb :: rest) pos) (b.t W)) : PE X (.BoolOp .Or (ea :: eb :: rest) pos) ((xOr a b).t W) := pe_or ha hb
theorem dNot (ha : PE X ea (a.t W)) : PE X (.UnaryOp .Not ea pos) ((xNot a).t W) := pe_not ha
theorem dIf (hq : PT X ec (q.t W)) (ha : PE X ea (a.t W)) (hb : PE X eb (b.t W)) : PE X (.IfExp ec ea eb pos) ((xIf q a b).t W) := pe_ifExp hq ha hb
theorem dTup {x1} (h : PA X es (as.t W)) : PE X (.Tuple es x1 pos) ((xTup as).t W) := pe_tup h
theorem dLst (h : PA X es (as.t W)) : PE X (.List es pos) ((xLst as).t W) := pe_lst h
theorem dLstM (h : PA X es (as.t W)) : PE X (.List es pos) ((xLstM as).t W) := pe_lst h
theorem dNil : PA X [] ((aNil (K := X.K) (T := T)).t W) := pa_nil
theorem dCons (ha : PE X ea (a.t W)) (h : PA X es (as.t W)) (hs : starEach (ea :: es) X.env = (false, eval ea X.env) :: starEach es X.env := by rfl) : PA X (ea :: es) ((aCons a as).t W) := pa_cons ha h hs
/-- a builtin -/
theorem dB {bb : XB X.K T} {x : Str} {id : String} {p : Pos} (hr : CallR X (.builtin id) bb.r) (hm : X.mg x = none) (ha : PA X (ea :: es) (as.t W)) (hv : bootBuiltins x = some (.builtin id)) (hg : Gl X x := by rfl) (hn : x ≠ "__name__" := by decide) (hd : (x == ("__debug__" : Str)) = false := by decide)
    (he : starEach (ea :: es) X.env = (false, eval ea X.env) :: starEach es X.env := by rfl) (hpl : (backTo pos (starEach es X.env)).any (·.1) = false := by rfl) : PE X (.Call (.Name x p) (ea :: es) [] pos) ((xB bb as).t W) := pe_callB hr hg hm hv ha hn hd he hpl
theorem dTy {bb : XB X.K T} {x : Str} {id : String} {p : Pos} (hr : CallR X (.type id) bb.r) (hm : X.mg x = none) (ha : PA X (ea :: es) (as.t W)) (hv : bootBuiltins x = some (.type id)) (hg : Gl X x := by rfl) (hn : x ≠ "__name__" := by decide) (hd : (x == ("__debug__" : Str)) = false := by decide)
    (he : starEach (ea :: es) X.env = (false, eval ea X.env) :: starEach es X.env := by rfl) (hpl : (backTo pos (starEach es X.env)).any (·.1) = false := by rfl) : PE X (.Call (.Name x p) (ea :: es) [] pos) ((xB bb as).t W) := pe_callTy hr hg hm hv ha hn hd he hpl
theorem dCall {k j : Nat} {x : Str} {sp : Pm} {p : Pos} (c : Cl X.prog X.w X.K X.mg X.base T k x sp) (hr : Room j X.A) (hk : k ≤ j) (tk : Takes X W) (ha : PA X (ea :: es) (as.t W)) (hg : Gl X x := by rfl) (hdb : (x == ("__debug__" : Str)) = false := by decide)
    (he : starEach (ea :: es) X.env = (false, eval ea X.env) :: starEach es X.env := by rfl) (hpl : (backTo pos (starEach es X.env)).any (·.1) = false := by rfl) : PE X (.Call (.Name x p) (ea :: es) [] pos) ((xCall sp as).t W) := by
  obtain ⟨f, fd, ps, F, hm, kp, b⟩ := c.ex
  exact pe_callS F (hr.mono hk) hg hm kp b (fun σ => passAt tk σ) ha hdb he hpl
theorem dqT {op : CmpOp} (ho : OpR X (compareOp op) o.r) (ha : PE X ea (a.t W)) (hb : PE X eb (b.t W)) (hm : behindInMarks op eb = false := by first | exact nobehind _ (by decide) (by decide) | with_unfolding_all rfl) : PT X (.Compare ea [op] [eb] pos) ((qT (xOp o a b)).t W) := pt_cmpR ho ha hb hm
theorem dqCh {op op' : CmpOp} (ho : OpR X (compareOp op) o.r) (ho' : OpR X (compareOp op') o'.r) (ha : PE X ea (a.t W)) (hb : PE X eb (b.t W)) (hc : PE X ec (c.t W)) (hm : lastMarks [op, op'] [eb, ec] = false := by with_unfolding_all rfl) :
    PT X (.Compare ea [op, op'] [eb, ec] pos) ((qT (xCh o o' a b c)).t W) := pt_chain ho ho' ha hb hc hm
theorem dqIsN {j pos'} (ha : PE X ea (a.t W)) : PT X (.Compare ea [.Is] [.Constant .none j pos'] pos) ((qB (xIsN a)).t W) := pt_cmp (pc_isN ha)
theorem dqNotN {j pos'} (ha : PE X ea (a.t W)) : PT X (.Compare ea [.IsNot] [.Constant .none j pos'] pos) ((qB (xNotN a)).t W) := pt_cmp (pc_notN ha)
theorem dqB (ha : PE X ea (a.t W)) (he : ∀ whole, isTrue ea X.env whole = (do let v ← whole; standAt ea.pos; holding [v] (truthy v)) := by intro _; rfl) : PT X ea ((qB a).t W) := pt_val ha he
theorem dwAnd {rest} (ha : PT X ea (q.t W)) (hb : PW X (.BoolOp .And (eb :: rest) pos) (q'.t W)) : PW X (.BoolOp .And (ea :: eb :: rest) pos) ((qAnd q q').t W) := pw_and ha hb
theorem dwOr {rest} (ha : PT X ea (q.t W)) (hb : PW X (.BoolOp .Or (eb :: rest) pos) (q'.t W)) : PW X (.BoolOp .Or (ea :: eb :: rest) pos) ((qOr q q').t W) := pw_or ha hb
theorem dqNot (ha : PT X ea (q.t W)) : PT X (.UnaryOp .Not ea pos) ((qNot q).t W) := pt_not ha
/-! statements -/
variable {s1 s2 : XS X.K T} {st : Stmt} {rest : List Stmt} {g : XG X.K T} {gs : XGs X.K T}
theorem dsNil : PSs X [] ((sNx (K := X.K) (T := T)).t W) := pss_nil
theorem dsCons (h1 : PS X st (s1.t W)) (h2 : PSs X rest (s2.t W)) : PSs X (st :: rest) ((sSeq s1 s2).t W) := (pss_cons h1 h2 : PSs X (st :: rest) (tSeq (s1.t W) (s2.t W)))
theorem dsOne (h1 : PS X st (s1.t W)) : PSs X [st] (s1.t W) := pss_one h1
theorem dRet (ha : PE X ea (a.t W)) : PS X (.Return (some ea) pos) ((sRet a).t W) := ps_ret ha
theorem dRetN : PS X (.Return none pos) ((sRn (K := X.K) (T := T)).t W) := ps_retN
theorem dEx (ha : PE X ea (a.t W)) (hs : swapsWith ea none pos.line X.env = pure false := by rfl) : PS X (.Expr ea pos) ((sEx a).t W) := ps_expr ha hs
theorem dsIf {xs ys : List Stmt} (hq : PT X ec (q.t W)) (ha : PSs X xs (s1.t W)) (hb : PSs X ys (s2.t W)) : PS X (.If ec xs ys pos) ((sIf q s1 s2).t W) := ps_if hq ha hb
theorem dAs {tg : Expr} (ha : PE X ea (a.t W)) (hg : PG X tg (g.t W)) (hs : swapsWithSole [tg] ea pos.line X.env = pure false := by rfl) (hw : swappedStores [tg] ea X.env = pure none := by rfl) (h1 : (assignEach [tg] X.env).map (·.2) = [assign tg X.env] := by rfl) : PS X (.Assign [tg] ea pos) ((sAs a g).t W) := ps_asg ha hg hs hw h1
theorem dPar {i j : Nat} {x y : Str} {px py pt : Pos} {kt k2 pt2} (hc : X.calm = true) (hN : X.N.Nodup) (hi : X.N[i]? = some x) (hj : X.N[j]? = some y) (hij : i ≠ j) (ha : PA X [ea, eb] (as.t W)) (hx : X.env.scope.names.lookup x = some .local := by rfl) (hy : X.env.scope.names.lookup y = some .local := by rfl)
    (hw : swappedStores [.Tuple [.Name x px, .Name y py] kt pt] (.Tuple [ea, eb] k2 pt2) X.env = pure (some [x, y]) := by rfl) (hs : swapsWithSole [.Tuple [.Name x px, .Name y py] kt pt] (.Tuple [ea, eb] k2 pt2) pos.line X.env = pure false := by rfl) :
    PS X (.Assign [.Tuple [.Name x px, .Name y py] kt pt] (.Tuple [ea, eb] k2 pt2) pos) ((sPar i j as).t W) := ps_par hc hN hi hj hij hx hy ha hw hs
theorem dN (i : Nat) {x : Str} (hN : X.N.Nodup) (hi : X.N[i]? = some x := by rfl) (hx : Loc X.env.scope x := by first | exact .inl rfl | exact .inr rfl) (hf : X.fn x = true ∨ X.env.scope.names.lookup x = some .local := by first | exact .inl rfl | exact .inr rfl) : PG X (.Name x pos) ((gN (K := X.K) (T := T) i).t W) := pg_name hN hi hx hf
theorem dgN : PGs X [] ((gsN (K := X.K) (T := T)).t W) := pgs_nil
theorem dgC {es : List Expr} (h1 : PG X ea (g.t W)) (h2 : PGs X es (gs.t W)) (hm : (assignEach (ea :: es) X.env).map (·.2) = assign ea X.env :: (assignEach es X.env).map (·.2) := by rfl) : PGs X (ea :: es) ((gsC g gs).t W) := pgs_cons h1 h2 hm
theorem dgT {es : List Expr} {k n : Nat} (hc : X.calm = true) (h : PGs X es (gs.t W)) (hn : (assignEach es X.env).length = n := by rfl) (hst : (assignEach es X.env).findIdx? (·.1) = none := by rfl) : PG X (.Tuple es k pos) ((gT n gs).t W) := pg_tup hc h hn hst
theorem dgIx {o i : XE X.K T} {eo ei : Expr} (ho : PE X eo (o.t W)) (hi : PE X ei (i.t W)) (h : ∀ (v : Value), assign (eo.Subscript ei pos) X.env v = (do
    let ov ← holding [v] (eval eo X.env)
    let iv ← holding [v, ov] (eval ei X.env)
    standAt pos
    holding [v, ov, iv] (setItem ov iv v)
    release [v, ov, iv] []) := by intro _; rfl) : PG X (.Subscript eo ei pos) ((gIx o i).t W) := pg_sub ho hi set_list h
theorem dFor {tg iter : Expr} {body : List Stmt} {it : XI X.K T} (hp : PassesOwn (model X.prog X.w) X.A X.env X.xe) (hc : X.calm = true) (hi : PI X tg iter (it.t W)) (hg : PG X tg (g.t W)) (hb : PSs X body (s1.t W))
    (hs : ∀ x, foldedSetIterable iter X.env x = pure x := by intro _; rfl) : PS X (.For tg iter body [] pos) ((sFor it g s1).t W) := ps_for hp hc hi hg hb hs
theorem diL {tg : Expr} (h : PE X ea (a.t W)) : PI X tg ea ((iL a).t W) := pi_list h
theorem diT {tg : Expr} (h : PE X ea (a.t W)) : PI X tg ea ((iT a).t W) := pi_tup h
theorem diR1 {tg : Expr} {p : Pos} (hm : X.mg "range" = none) (h : PE X ea (a.t W)) (hg : Gl X "range" := by rfl) (h1 : starEach [ea] X.env = [(false, eval ea X.env)] := by rfl) : PI X tg (.Call (.Name "range" p) [ea] [] pos) ((iR1 a).t W) := pi_range1 hg hm (pa_cons h pa_nil h1) h1
theorem diR2 {tg : Expr} {p : Pos} (hm : X.mg "range" = none) (h : PE X ea (a.t W)) (h' : PE X eb (b.t W)) (hg : Gl X "range" := by rfl) (h1 : starEach [ea, eb] X.env = [(false, eval ea X.env), (false, eval eb X.env)] := by rfl) (h2 : starEach [eb] X.env = [(false, eval eb X.env)] := by rfl) :
    PI X tg (.Call (.Name "range" p) [ea, eb] [] pos) ((iR2 a b).t W) := pi_range2 hg hm (pa_cons h (pa_cons h' pa_nil h2) (by rw [h1, h2])) h1 h2
theorem dApp {xo : XE X.K T} {eo : Expr} {p : Pos} (ho : PE X eo (xo.t W)) (ha : PE X ea (a.t W)) (hbase : attributeBase eo "append" X.env (eval eo X.env) = eval eo X.env := by rfl)
    (hfew : ((backTo pos (starEach [ea] X.env)).all (fun x => !x.1) && (backToKw pos (keywordEach [] X.env)).all (fun x => x.1.isSome) && decide ([ea].length + ([] : List Keyword).length + (if ([] : List Keyword).isEmpty then 0 else 1) < 30)) = true := by rfl)
    (hline : (p.endLine == pos.line) = true := by rfl) (hs : starEach [ea] X.env = (false, eval ea X.env) :: starEach [] X.env := by rfl) (hpl : (backTo pos (starEach [] X.env)).any (·.1) = false := by rfl) :
    PE X (.Call (.Attribute eo "append" p) [ea] [] pos) ((xApp xo a).t W) := pe_bm PySem.F.plainAttrs_list PySem.F.slot_list_append PySem.F.type_list_append mt_append ho (pa_cons ha pa_nil hs) hbase hfew hline hs hpl
/-! comprehensions -/
variable {it : XI X.K T} {cg : CG} {e : XE X.K T}
theorem dYes : PTs X [] ((qYes (K := X.K) (T := T)).t W) := pts_nil
theorem dTest (h : PT X ec (q.t W)) : PTs X [ec] (q.t W) := pts_one h
theorem dLc {elt tg iter : Expr} {ifs : List Expr} {scope : Scope} {own : List (Str × Nat)} (hc : X.calm = true) (hN : X.N.Nodup) (ok : BlkOk X.N X.env.scope scope own) (hi : PI X tg iter (it.t W)) (ho : own.map (·.2) = cg.slots)
    (hg : ∀ (s : Shared) (H : Hp) (C : Addr) (cl : List (Str × Addr)) (fp : List Addr), PG (X.blk s H scope (compEnvC scope cl C X.env) fp) tg (cg.t X.K)) (ht : ∀ (s : Shared) (H : Hp) (C : Addr) (cl : List (Str × Addr)) (fp : List Addr), PTs (X.blk s H scope (compEnvC scope cl C X.env) fp) ifs (q.t WX0))
    (he : ∀ (s : Shared) (H : Hp) (C : Addr) (cl : List (Str × Addr)) (fp : List Addr), PE (X.blk s H scope (compEnvC scope cl C X.env) fp) elt (e.t WX0)) (hs : ∀ x, foldedSetIterable iter X.env x = pure x := by intro _; rfl) :
    PE X (.ListComp elt [⟨tg, iter, ifs, 0⟩] scope pos) ((xLc it cg q e).t W) := by
  have h := pe_lc (pos := pos) hc hN hi ok hg ht he hs
  rw [ho] at h
  exact h
theorem dLcM {elt tg iter : Expr} {ifs : List Expr} {scope : Scope} {own : List (Str × Nat)} (hc : X.calm = true) (hN : X.N.Nodup) (ok : BlkOk X.N X.env.scope scope own) (hi : PI X tg iter (it.t W)) (ho : own.map (·.2) = cg.slots)
    (hg : ∀ (s : Shared) (H : Hp) (C : Addr) (cl : List (Str × Addr)) (fp : List Addr), PG (X.blk s H scope (compEnvC scope cl C X.env) fp) tg (cg.t X.K)) (ht : ∀ (s : Shared) (H : Hp) (C : Addr) (cl : List (Str × Addr)) (fp : List Addr), PTs (X.blk s H scope (compEnvC scope cl C X.env) fp) ifs (q.t WX0))
    (he : ∀ (s : Shared) (H : Hp) (C : Addr) (cl : List (Str × Addr)) (fp : List Addr), PE (X.blk s H scope (compEnvC scope cl C X.env) fp) elt (e.t WX0)) (hs : ∀ x, foldedSetIterable iter X.env x = pure x := by intro _; rfl) :
    PE X (.ListComp elt [⟨tg, iter, ifs, 0⟩] scope pos) ((xLcM it cg q e).t W) := by
  have h := pe_lc (pos := pos) hc hN hi ok hg ht he hs
  rw [ho] at h
  exact h
/-- y = [..] -/
theorem dSetLc {elt tg iter : Expr} {ifs : List Expr} {scope : Scope} {own : List (Str × Nat)} {i : Nat} {y : Str} {py spos : Pos} (mk : Bool) (hc : X.calm = true) (hN : X.N.Nodup) (hy : X.N[i]? = some y) (ok : BlkOk X.N X.env.scope scope own) (hi : PI X tg iter (it.t W)) (ho : own.map (·.2) = cg.slots)
    (hg : ∀ (s : Shared) (H : Hp) (C : Addr) (cl : List (Str × Addr)) (fp : List Addr), PG (X.blk s H scope (compEnvC scope cl C X.env) fp) tg (cg.t X.K)) (ht : ∀ (s : Shared) (H : Hp) (C : Addr) (cl : List (Str × Addr)) (fp : List Addr), PTs (X.blk s H scope (compEnvC scope cl C X.env) fp) ifs (q.t WX0))
    (he : ∀ (s : Shared) (H : Hp) (C : Addr) (cl : List (Str × Addr)) (fp : List Addr), PE (X.blk s H scope (compEnvC scope cl C X.env) fp) elt (e.t WX0)) (hs : ∀ x, foldedSetIterable iter X.env x = pure x := by intro _; rfl)
    (hyl : X.env.scope.names.lookup y = some .local := by rfl) (hsw : swapsWith (.ListComp elt [⟨tg, iter, ifs, 0⟩] scope pos) (some (.Name y py)) spos.line X.env = pure true := by exact sw_true rfl rfl rfl (by decide +kernel)) :
    PS X (.Assign [.Name y py] (.ListComp elt [⟨tg, iter, ifs, 0⟩] scope pos) spos) ((sAs (bif mk then xLcM it cg q e else xLc it cg q e) (gN i)).t W) := by
  have h := ps_setLc (pos := pos) (spos := spos) (py := py) hc hN hy hyl hsw hi ok hg ht he hs
  rw [ho] at h
  cases mk with
  | true => exact h
  | false => exact h
theorem cgOne (i : Nat) {x : Str} (hN : X.N.Nodup) (hi : X.N[i]? = some x := by rfl) (hx : Loc X.env.scope x := by first | exact .inl rfl | exact .inr rfl) (hf : X.fn x = true ∨ X.env.scope.names.lookup x = some .local := by first | exact .inl rfl | exact .inr rfl) : PG X (.Name x pos) ((CG.one i).t X.K) := pg_name hN hi hx hf
theorem cgsN : PGs X [] (CG.ts []) := pgs_nil
theorem cgsC {es : List Expr} {is : List Nat} {x : Str} (i : Nat) (hN : X.N.Nodup) (h2 : PGs X es (CG.ts is)) (hi : X.N[i]? = some x := by rfl) (hx : Loc X.env.scope x := by first | exact .inl rfl | exact .inr rfl) (hf : X.fn x = true ∨ X.env.scope.names.lookup x = some .local := by first | exact .inl rfl | exact .inr rfl)
    (hm : (assignEach (.Name x pos :: es) X.env).map (·.2) = assign (.Name x pos) X.env :: (assignEach es X.env).map (·.2) := by rfl) : PGs X (.Name x pos :: es) (CG.ts (i :: is)) := pgs_cons (pg_name hN hi hx hf) h2 hm
theorem cgMany {es : List Expr} {k : Nat} {is : List Nat} (hc : X.calm = true) (h : PGs X es (CG.ts is)) (hn : (assignEach es X.env).length = is.length := by rfl) (hst : (assignEach es X.env).findIdx? (·.1) = none := by rfl) : PG X (.Tuple es k pos) ((CG.many is).t X.K) := pg_tup hc h hn hst
theorem cgNest {e2 : Expr} {k : Nat} {x : Str} {px : Pos} {is : List Nat} (i : Nat) (hc : X.calm = true) (hN : X.N.Nodup) (h : PG X e2 ((CG.many is).t X.K)) (hi : X.N[i]? = some x := by rfl) (hx : Loc X.env.scope x := by first | exact .inl rfl | exact .inr rfl) (hf : X.fn x = true ∨ X.env.scope.names.lookup x = some .local := by first | exact .inl rfl | exact .inr rfl)
    (hm : (assignEach [.Name x px, e2] X.env).map (·.2) = assign (.Name x px) X.env :: (assignEach [e2] X.env).map (·.2) := by rfl) (hm2 : (assignEach [e2] X.env).map (·.2) = assign e2 X.env :: (assignEach [] X.env).map (·.2) := by rfl)
    (hn : (assignEach [.Name x px, e2] X.env).length = 2 := by rfl) (hst : (assignEach [.Name x px, e2] X.env).findIdx? (·.1) = none := by rfl) : PG X (.Tuple [.Name x px, e2] k pos) ((CG.nest i is).t X.K) := pg_tup hc (pgs_cons (pg_name hN hi hx hf) (pgs_cons h pgs_nil hm2) hm) hn hst
end
/-! ### the law's own end -/
theorem repL_ints {K : PySem.W.Frag} {P : Hp} : ∀ ns : List Int, RepL K P (ns.map V.int) (ns.map D.int)
  | [] => .nil
  | n :: ns => .cons (.int n) (repL_ints ns)
/-- a law's promise over the script's ints: True -/
def spLaw : Pm := fun ds M Φ _ => ∃ ns : List Int, ds = [.lsw (ns.map D.int)] ∧ ns.length ≤ 63 ∧ ∀ M', Φ (.bl true) M'
theorem law_walk {l : PySem.W.OpenLaw} {q : Program} {loose : List Str} {XP : (Str → Option Value) → Heap → Prop} {YP : World → Heap → Prop} {d : DefRec} {K : Params → PySem.W.Frag} {k : Nat} (hk : Room k callerA) (hn : l.most = some 63) (hdf : d.params.defaults = [])
    (hY : ∀ (w : World) (h : Heap), YP w h → (K w.params).In h)
    (F : ∀ (w : World) (mg : Str → Option Value) (fa : Addr) (h : Heap), (K w.params).In h → h.Ns mainGlobals mg → mg d.name = some (.ref fa) →
      ∃ fd : FuncData, (∀ (s : Shared) (u : Value), BindsTo s fd ⟨[u], []⟩ [("script", u)]) ∧ ∀ base : Heap, (K w.params).In base → base.Ns mainGlobals mg → FnOk l.prog w (K w.params) mg base (L2.CX l.prog w) k fa fd ["script"] (spOf (K w.params) T0 spLaw)) :
    PySem.W.WalkO q loose XP YP l.row.toRowW d [] (fun f vs => PySem.call f vs) :=
  L2.walk_of (n := 63) (k := k) (x := "script") (CX := fun w => L2.CX l.prog w) (sp := fun w => spOf (K w.params) T0 spLaw) hn (by decide) hdf hk hY F
    (fun w H a ns hl _ hS => ⟨H, fun _ => none, [.lsw (ns.map D.int)], fun d _ => d = .bl true, fun _ _ _ => False, ⟨fun _ _ h => .inl h, fun _ _ h => by (cases h), fun _ _ h => by (cases h), fun _ h => (h.elim id fun ⟨_, z⟩ => z).elim⟩, .cons (.lsw hS (repL_ints ns)) .nil, ⟨ns, rfl, hl, fun _ => rfl⟩,
      fun v d P' M' H' e _ r => by subst e; exact r.toB, fun _ _ _ _ _ z _ => z⟩)
    fun _ _ _ _ _ ⟨_, _, _, _, _, _, _, _, _, _, _, _, z⟩ => z
end Ab

set_option Elab.async false
set_option linter.all false
set_option maxRecDepth 100000
set_option maxHeartbeats 2000000
namespace Ab
open PySem PySem.Spec PyProof.Rows L2
section
variable {K : PySem.W.Frag} {T : Tt}
def xNeg (a : XE K T) : XE K T where
  t := fun W => tUn (rU fun i => .int (-i)) (a.t W)
  w := fun ρ M Φ Ξ => a.w ρ M (fun x M1 => asI x fun i => Φ (.int (-i)) M1) Ξ
  ok := fun h P σ H wr rs Q hq hx => a.ok h wr rs (fun v x P1 M1 H1 h1 s1 r1 => by
    obtain ⟨i, rfl, h2⟩ := h1.get
    exact ⟨i, r1.toI, hq _ _ _ _ _ h2 s1 (.int _)⟩) hx
/-- a statement and the rest, with a word of one's own between them -/
def sCut (a b : XS K T) : XS K T where
  t := fun W => tSeq (a.t W) (b.t W)
  w := fun ρ M ε Ξ => ∃ J : Sl → Mh → Prop, a.w ρ M { ε with nx := J } Ξ ∧ ∀ ρ' M', J ρ' M' → b.w ρ' M' ε Ξ
  ok := fun {W ρ M ε Ξ} h P σ H wr rs Dn hd hx => by
    obtain ⟨J, h1, h2⟩ := h
    exact a.ok h1 wr rs ⟨fun ρ1 σ1 P1 M1 H1 h3 s1 rs1 => b.ok (h2 ρ1 M1 h3) s1.wr rs1 (hd.mono s1) (hx.mono s1), hd.rt, hd.bk, hd.ct⟩ hx
end
section
variable {X : Cx} {W : WX} {T : Tt} {pos : Pos} {a b : XE X.K T} {ea eb : Expr} {q : XT X.K T}
theorem dNeg (ha : PE X ea (a.t W)) : PE X (.UnaryOp .USub ea pos) ((xNeg a).t W) := (pe_un un_neg ha : PE X (.UnaryOp .USub ea pos) (tUn (rU fun i => .int (-i)) (a.t W)))
theorem dOne {op} (ha : PE X ea (a.t W)) : PE X (.BoolOp op [ea] pos) (a.t W) := pe_one ha
theorem dsCut {s1 s2 : XS X.K T} {st : Stmt} {rest : List Stmt} (h1 : PS X st (s1.t W)) (h2 : PSs X rest (s2.t W)) : PSs X (st :: rest) ((sCut s1 s2).t W) := (pss_cons h1 h2 : PSs X (st :: rest) (tSeq (s1.t W) (s2.t W)))
theorem dFz {sts : List Stmt} {i : Nat} {b : XS X.K T} (h : PSs X sts (b.t W)) : PSs X sts ((sFrz i b).t W) := h
theorem dw1A (ha : PT X ea (q.t W)) : PW X (.BoolOp .And [ea] pos) (q.t W) := pw_and1 ha
theorem dw1O (ha : PT X ea (q.t W)) : PW X (.BoolOp .Or [ea] pos) (q.t W) := pw_or1 ha
end
end Ab

set_option Elab.async false
set_option linter.all false
set_option maxRecDepth 100000
set_option maxHeartbeats 2000000
namespace Ab
open PySem L2
section
variable {ρ : Sl} {d x y : D} {k : D → Prop} {M : Mh} {p q : Addr} {ds : List D} {kl : List D → Prop} {n : Nat}
theorem asI_ {i : Int} {k : Int → Prop} : asI (.int i) k = k i := rfl
theorem asB_ {i : Bool} {k : Bool → Prop} : asB (.bl i) k = k i := rfl
theorem asS_ {i : Str} {k : Str → Prop} : asS (.str i) k = k i := rfl
theorem asR_ {i : Addr} {k : Addr → Prop} : asR (.ref i) k = k i := rfl
theorem asT_ : asT (.tup ds) kl = kl ds := rfl
theorem asL_1 : asL (.lst ds) M kl = kl ds := rfl
theorem asL_2 : asL (.lsw ds) M kl = kl ds := rfl
theorem asL_3 : asL (.ref p) M kl = mL M p kl := rfl
theorem asLt_1 : asLt (.lst ds) M kl = kl ds := rfl
theorem asLt_3 : asLt (.ref p) M kl = mL M p kl := rfl
theorem asQ_1 : asQ (.lst ds) M kl = kl ds := rfl
theorem asQ_2 : asQ (.lsw ds) M kl = kl ds := rfl
theorem asQ_3 : asQ (.ref p) M kl = mL M p kl := rfl
theorem asQ_4 : asQ (.tup ds) M kl = kl ds := rfl
theorem asSc_1 {k : V → Prop} : asSc .non k = k .non := rfl
theorem asSc_2 {b : Bool} {k : V → Prop} : asSc (.bl b) k = k (.bl b) := rfl
theorem asSc_3 {b : Int} {k : V → Prop} : asSc (.int b) k = k (.int b) := rfl
theorem asSc_4 {b : Str} {k : V → Prop} : asSc (.str b) k = k (.str b) := rfl
theorem arg1_ : arg1 [d] k = k d := rfl
theorem look_0 : look (some d :: ρ) 0 k = k d := rfl
theorem look_s {o : Option D} : look (o :: ρ) (n + 1) k = look ρ n k := rfl
theorem mL_of (h : M p = some (.lst ds)) : mL M p kl = kl ds := by unfold mL; rw [h]
theorem mL_um : mL (um M p (.lst ds)) p kl = kl ds := mL_of um_same
theorem at_of {i : Int} (h : atI ds i = some d) : at_ ds i k = k d := by unfold at_; rw [h]
theorem at_nat {n : Nat} (h : ds[n]? = some d) : at_ ds (n : Int) k = k d := at_of (atI_nat h)
theorem at_0 {a0 : D} : at_ (a0 :: ds) 0 k = k a0 := at_nat (n := 0) rfl
theorem at_1 {a0 a1 : D} : at_ (a0 :: a1 :: ds) 1 k = k a1 := at_nat (n := 1) rfl
theorem at_2 {a0 a1 a2 : D} : at_ (a0 :: a1 :: a2 :: ds) 2 k = k a2 := at_nat (n := 2) rfl
theorem at_3 {a0 a1 a2 a3 : D} : at_ (a0 :: a1 :: a2 :: a3 :: ds) 3 k = k a3 := at_nat (n := 3) rfl
theorem at_4 {a0 a1 a2 a3 a4 : D} : at_ (a0 :: a1 :: a2 :: a3 :: a4 :: ds) 4 k = k a4 := at_nat (n := 4) rfl
theorem at_5 {a0 a1 a2 a3 a4 a5 : D} : at_ (a0 :: a1 :: a2 :: a3 :: a4 :: a5 :: ds) 5 k = k a5 := at_nat (n := 5) rfl
theorem at_6 {a0 a1 a2 a3 a4 a5 a6 : D} : at_ (a0 :: a1 :: a2 :: a3 :: a4 :: a5 :: a6 :: ds) 6 k = k a6 := at_nat (n := 6) rfl
theorem at_7 {a0 a1 a2 a3 a4 a5 a6 a7 : D} : at_ (a0 :: a1 :: a2 :: a3 :: a4 :: a5 :: a6 :: a7 :: ds) 7 k = k a7 := at_nat (n := 7) rfl
theorem at_8 {a0 a1 a2 a3 a4 a5 a6 a7 a8 : D} : at_ (a0 :: a1 :: a2 :: a3 :: a4 :: a5 :: a6 :: a7 :: a8 :: ds) 8 k = k a8 := at_nat (n := 8) rfl
theorem setD_nat {n : Nat} {e : D} {f : List D → Prop} (h : n < ds.length) : setD ds (n : Int) e f = f (ds.set n e) := by
  unfold setD ixN
  rw [if_pos (by omega), if_pos (by omega)]
  rfl
theorem setD_0 {a0 e : D} {f : List D → Prop} : setD (a0 :: ds) 0 e f = f (e :: ds) := setD_nat (n := 0) (by simp)
theorem setD_1 {a0 a1 e : D} {f : List D → Prop} : setD (a0 :: a1 :: ds) 1 e f = f (a0 :: e :: ds) := setD_nat (n := 1) (by simp)
theorem setD_2 {a0 a1 a2 e : D} {f : List D → Prop} : setD (a0 :: a1 :: a2 :: ds) 2 e f = f (a0 :: a1 :: e :: ds) := setD_nat (n := 2) (by simp)
theorem setD_3 {a0 a1 a2 a3 e : D} {f : List D → Prop} : setD (a0 :: a1 :: a2 :: a3 :: ds) 3 e f = f (a0 :: a1 :: a2 :: e :: ds) := setD_nat (n := 3) (by simp)
theorem setD_4 {a0 a1 a2 a3 a4 e : D} {f : List D → Prop} : setD (a0 :: a1 :: a2 :: a3 :: a4 :: ds) 4 e f = f (a0 :: a1 :: a2 :: a3 :: e :: ds) := setD_nat (n := 4) (by simp)
theorem setD_5 {a0 a1 a2 a3 a4 a5 e : D} {f : List D → Prop} : setD (a0 :: a1 :: a2 :: a3 :: a4 :: a5 :: ds) 5 e f = f (a0 :: a1 :: a2 :: a3 :: a4 :: e :: ds) := setD_nat (n := 5) (by simp)
theorem setD_6 {a0 a1 a2 a3 a4 a5 a6 e : D} {f : List D → Prop} : setD (a0 :: a1 :: a2 :: a3 :: a4 :: a5 :: a6 :: ds) 6 e f = f (a0 :: a1 :: a2 :: a3 :: a4 :: a5 :: e :: ds) := setD_nat (n := 6) (by simp)
theorem setD_7 {a0 a1 a2 a3 a4 a5 a6 a7 e : D} {f : List D → Prop} : setD (a0 :: a1 :: a2 :: a3 :: a4 :: a5 :: a6 :: a7 :: ds) 7 e f = f (a0 :: a1 :: a2 :: a3 :: a4 :: a5 :: a6 :: e :: ds) := setD_nat (n := 7) (by simp)
theorem toI_1 {i : Int} {k : Int → Prop} : toI (.int i) k = k i := rfl
theorem toI_2 {b : Bool} {k : Int → Prop} : toI (.bl b) k = k (if b then 1 else 0) := rfl
theorem atS_of {s : Str} {i : Int} {c : Nat} {k : Nat → Prop} (h : atI s.cps.toList i = some c) : atS s i k = k c := by unfold atS; rw [h]
theorem asTx_ {xs : List Str} {k : List Str → Prop} : asTx (xs.map D.str) k = k xs := by unfold asTx; rw [txts_map]
theorem wlk_1 {k : List D → (Mh → Prop) → Prop} : wlk (.lst ds) M k = k ds (fun _ => True) := rfl
theorem wlk_2 {k : List D → (Mh → Prop) → Prop} : wlk (.lsw ds) M k = k ds (fun _ => True) := rfl
theorem wlk_3 {k : List D → (Mh → Prop) → Prop} : wlk (.ref p) M k = mL M p fun ds => k ds (fun M2 => M2 p = some (.lst ds)) := rfl
theorem asSs_of {v : V} {vs : List V} {k : V → List V → Prop} (h1 : scD x = some v) (h2 : scL ds = some vs) : asSs x ds k = k v vs := by unfold asSs; rw [h1, h2]
theorem sc_ii {i j : Int} : scal (.int i) (.int j) = true := rfl
theorem sc_ss {i j : Str} : scal (.str i) (.str j) = true := rfl
theorem sc_bb {i j : Bool} : scal (.bl i) (.bl j) = true := rfl
theorem sc_nn : scal .non .non = true := rfl
theorem sc_ni {i : Int} : scal .non (.int i) = true := rfl
theorem sc_in {i : Int} : scal (.int i) .non = true := rfl
theorem sc_ns {i : Str} : scal .non (.str i) = true := rfl
theorem sc_sn {i : Str} : scal (.str i) .non = true := rfl
theorem sc_is {i : Int} {s : Str} : scal (.int i) (.str s) = true := rfl
theorem sc_si {i : Int} {s : Str} : scal (.str s) (.int i) = true := rfl
theorem gsw_ {K : PySem.W.Frag} {T : Tt} {g : XG K T} {gs : XGs K T} {d : D} {r : List D} {Φ : Sl → Mh → Prop} {Ξ : XP} : (gsC g gs).w (d :: r) ρ M Φ Ξ = g.w d ρ M (fun ρ' M' => gs.w r ρ' M' Φ Ξ) Ξ := rfl
end
/-- an item in its bounds -/
theorem atI_in {α : Type} {l : List α} {i : Int} (h0 : 0 ≤ i) (h1 : i < l.length) : ∃ c, atI l i = some c ∧ l[i.toNat]? = some c := by
  have h : i.toNat < l.length := by omega
  refine ⟨l[i.toNat], ?_, by simp [h]⟩
  unfold atI ixN
  rw [if_pos h0, if_pos h1]
  simp [h]
end Ab

set_option Elab.async false
set_option linter.all false
set_option maxRecDepth 100000
set_option maxHeartbeats 2000000
namespace Ab
open PySem PySem.Spec PyProof.Rows L2 GenW
/-- a generator expression's frame, running: s, H: the entry; fp: the iterator's objects -/
abbrev gex (X : Cx) (s : Shared) (H : Hp) (B : Around) (cenv : Env) (fp : List Addr) : Cx :=
  { X with A := B, s_0 := s, H_0 := H, env := cenv, outer := X.stack, stack := cenv :: X.stack, ex := fp, fn := fun _ => false, pn := [], xe := fun _ _ => False }
/-- the code that the generator runs -/
abbrev gcode (elt tg iter : Expr) (ifs : List Expr) (scope : Scope) (pos : Pos) (it : Addr) (cenv : Env) : Code := .compLoop (.GeneratorExp elt [⟨tg, iter, ifs, 0⟩] scope pos) 0 (.ref it) .none cenv
section
variable {X : Cx} {pins : List (Addr × Obj)} {σ : L2.St} {H : Hp} {s : Shared}
/-- what a consumer that does nothing does -/
structure Slp (s s' : Shared) : Prop where
  os : s'.os = s.os
  bare : AllBare s'.gens
  heap : s'.heap = s.heap
theorem gex_start {scope : Scope} {own : List (Str × Nat)} {fp : List Addr} {B : Around} {code : Value} {bi : Addr} {h' : Heap} {go : Obj} {tk : Nat} {gs : Array GenState} {v0 : Value} (I : Inv X pins σ H s) (ok : BlkOk X.N X.env.scope scope own) (hN : X.N.Nodup) (hfp : ∀ b ∈ fp, FpOk X pins H b ∧ b < s.heap.objs.size)
    (hcell : ∀ y ∈ scope.names, y.2 ≠ .cell) (hbi : bi = builtinsNs) (hB : B.frames = some (genEnv scope (cloFrom X.env.cells scope.names []) s.heap.objs.size code bi X.env :: X.stack)) (hBh : X.calm = true → B.handled = none) (hgs : AllBare gs) (hd : ∀ v, go.data ≠ .cell v) (hpu : (h'.push go).get? h'.objs.size = some go)
    (hn' : h'.Ns s.heap.objs.size (fun y => if y = ".0" then some v0 else none)) (hs' : Heap.SameBut s.heap.objs.size (s.heap.push { cls := .type "frame", data := .dict #[] }) h') :
    Inv (gex X s H B (genEnv scope (cloFrom X.env.cells scope.names []) s.heap.objs.size code bi X.env) fp) [(h'.objs.size, go)] (wipe σ (own.map (·.2))) H { s with gens := gs, toks := tk, heap := h'.push go } := by
  have hfree : ∀ y ∈ scope.names, y.2 = .free → ∃ c, X.env.cells.lookup y.1 = some c := fun y hy e => by
    rcases ok.free y hy e with k | k
    · exact I.ok.has _ (.inl k)
    · exact I.ok.has _ (.inr k)
  have hsz : h'.objs.size = s.heap.objs.size + 1 := by rw [hs'.1, Heap.size_push]
  have kp : ∀ b o, s.heap.get? b = some o → (h'.push go).get? b = some o := fun b o e => Heap.get?_push_of_some _ (hs'.extBut b o (Nat.ne_of_lt (Heap.lt_size e)) (Heap.get?_push_of_some _ e))
  have cm : ∀ {y c}, (y, c) ∈ cloFrom X.env.cells scope.names [] → X.env.cells.lookup y = some c ∧ c < s.heap.objs.size := fun {y c} hm => by
    rcases cloFrom_mem hm with hm | ⟨h1, rfl⟩
    · cases hm
    · obtain ⟨c, hc⟩ := hfree _ h1 rfl
      rw [hc]
      obtain ⟨w, z⟩ := I.cell _ _ hc
      exact ⟨rfl, z.lt⟩
  have cl : ∀ {y c}, (cloFrom X.env.cells scope.names []).lookup y = some c → X.env.cells.lookup y = some c ∧ c < s.heap.objs.size := fun e => cm (PySem.mem_of_lookup e)
  have look : ∀ {y}, scope.names.lookup y = some .free → ∃ c, (cloFrom X.env.cells scope.names []).lookup y = some c := fun {y} hl =>
    mem_lookup (cloFrom_has (cells := X.env.cells) (acc := []) (PySem.mem_of_lookup hl))
  have okB : (gex X s H B (genEnv scope (cloFrom X.env.cells scope.names []) s.heap.objs.size code bi X.env) fp).Ok := by
    refine ⟨I.ok.mod, ok.kind, I.ok.glob, hbi, Nat.le_refl _, fun y z c e1 e2 => I.ok.inj y z c (cl e1).1 (cl e2).1, fun y hy => ?_, fun y c z _ => (nomatch z), hBh, hB, .inr ⟨rfl, rfl⟩, fun b hb => ⟨Nat.ne_of_lt (hfp b hb).2, fun y c e z => (hfp b hb).1.2.2.2.2.1 y c (cl e).1 z⟩, I.bs, Nat.le_trans I.ok.bsz I.sz, fun b o e hb => ?_, fun b hb z => ?_, I.stack, I.stkFree⟩
    · rcases hy with hy | hy
      · exact absurd rfl (hcell _ (PySem.mem_of_lookup hy))
      · exact look hy
    · rcases (hfp b hb).1.2.2.2.1 with z | z
      · exact I.ok.noex b o e z
      · exact absurd (Nat.lt_of_lt_of_le (Heap.lt_size e) (Nat.le_trans I.ok.bsz z)) (Nat.lt_irrefl _)
    · rcases List.mem_cons.mp (I.stkSub b z) with z | z
      · exact (hfp b hb).1.2.1 z
      · exact (hfp b hb).1.2.2.1 z
  refine ⟨okB, rfl, hgs, Un.kept kp, ⟨_, hn'.push _, fun i y av e1 e2 e3 => ?_⟩, fun y c e => ?_, I.hok.fresh (Nat.le_refl _), fun y c e => I.freeC y c (cl e).1, fun p hp => ?_, I.hok.kept kp, by rw [wipe_length]; exact I.len⟩
  · obtain ⟨e2, hne⟩ := wipe_some e2
    have no : ¬ (scope.names.lookup y = some .local ∨ scope.names.lookup y = some .cell) := fun hh => by
      have hh' : ∃ k, (y, k) ∈ scope.names ∧ (k = .local ∨ k = .cell) := by
        rcases hh with hh | hh
        · exact ⟨_, PySem.mem_of_lookup hh, .inl rfl⟩
        · exact ⟨_, PySem.mem_of_lookup hh, .inr rfl⟩
      obtain ⟨k, hm, hk⟩ := hh'
      rcases ok.own _ hm hk with e' | e'
      · obtain ⟨p, hp, hpy⟩ := List.mem_map.mp e'
        have e4 := ok.ix p hp
        have : p.1 = y := hpy
        rw [this] at e4
        exact hne (List.mem_map.mpr ⟨p, hp, nodup_ix hN e4 e1⟩)
      · exact e' (List.mem_of_getElem? e1)
    have e3 : scope.names.lookup y = some .local ∨ scope.names.lookup y = some .cell ∨ scope.names.lookup y = some .free := e3
    have hfr : scope.names.lookup y = some .free := by
      rcases e3 with e3 | e3 | e3
      · exact absurd (.inl e3) no
      · exact absurd (.inr e3) no
      · exact e3
    obtain ⟨m, hn, hl⟩ := I.loc
    have hvis : Vis X.env.scope y := (ok.free _ (PySem.mem_of_lookup hfr) rfl).elim (fun k => .inr (.inl k)) (fun k => .inr (.inr k))
    obtain ⟨w, r, q⟩ := hl i y av e1 e2 hvis
    refine ⟨w, r, .inr ⟨.inr hfr, ?_⟩⟩
    obtain ⟨c, h1⟩ := look hfr
    have h2 := (cl h1).1
    rcases q with ⟨k, _⟩ | ⟨_, c', e', z⟩
    · have k : X.env.scope.names.lookup y = some .local := k
      rcases ok.free _ (PySem.mem_of_lookup hfr) rfl with k' | k' <;> rw [show X.env.scope.names.lookup y = _ from k'] at k <;> cases k
    · rw [h2] at e'; cases e'
      exact ⟨c, h1, z.keeps kp⟩
  · obtain ⟨w, z⟩ := I.cell y c (cl e).1
    exact ⟨w, z.keeps kp⟩
  · have hp : p ∈ [(h'.objs.size, go)] := by simpa using hp
    rw [List.mem_singleton.mp hp]
    refine ⟨hpu, I.hok.fresh (by show s.heap.objs.size ≤ h'.objs.size; omega), ?_, fun z => ?_, hd⟩
    · show h'.objs.size ≠ s.heap.objs.size
      omega
    · obtain ⟨_, o, ho, _⟩ := I.stack.mem z
      have := Heap.lt_size ho
      have this : h'.objs.size < s.heap.objs.size := this
      omega
theorem inv_slp {s' : Shared} (I : Inv X pins σ H s) (z : Slp s s') : Inv X pins σ H s' :=
  I.call' (ch := []) z.os (by rw [z.heap]; exact Un.refl) (by rw [z.heap]; exact I.hok) z.bare fun b q => by simp at q
end
/-- what a turn of the generator promises: al: what the elements are while it goes on -/
def GexTurn (J : It) (g : TG) (tt : TT) (te : TE) (σ0 : L2.St) (vs : List Nat) (al : Bool) (Qd : Bool → Hp → Prop) (W : Nat → Nat → Hp → Prop) : Prop := ∀ i m H, W i m H →
  (J.stop i H ∧ Qd al H) ∨ (J.go i H ∧ ∃ N : Hp → Prop, (∀ H', N H' → ∃ m', m' < m ∧ W (i + 1) m' H') ∧ ∀ x H', J.yld i H x H' → g x σ0 H' fun σ2 H2 => L2.wipe σ2 vs = σ0 ∧
    tt σ2 H2 fun b H3 => if b = true then te σ2 H3 fun v H4 => ∃ k, v = .bl k ∧ (if k = al then N H4 else Qd (!al) H4) else N H3)
def GexR (Z : Cx) (pins : List (Addr × Obj)) (σ0 : L2.St) (al : Bool) (Qd : Bool → Hp → Prop) : GenEnd := fun n s₀ r s₁ =>
  ((r = .ok (.ret .none) ∨ r = .ok .next) ∧ ∃ H', Inv Z pins σ0 H' s₁ ∧ Qd al H') ∨ ∃ e, r = .error e ∧ False
def GexY (Z : Cx) (pins : List (Addr × Obj)) (al : Bool) (Qd : Bool → Hp → Prop) : Protocol := fun n s₀ v s kap =>
  ∃ k σ' H', v = .bool k ∧ Inv Z pins σ' H' s ∧ (k ≠ al → Qd (!al) H') ∧ (k = al → ∀ s', Slp s s' → kap (.send .none) s')
section
variable {Z : Cx} {elt tg iter : Expr} {ifs : List Expr} {scope : Scope} {pos : Pos} {it : Addr} {B0 : Around} {J : It} {fp : List Addr} {tn : Nat → Heap → Prop} {g : TG} {tt : TT} {te : TE} {σ0 : L2.St} {vs : List Nat} {al : Bool} {Qd : Bool → Hp → Prop} {W : Nat → Nat → Hp → Prop} {pins : List (Addr × Obj)}
theorem gex_loop (hA : B0.over (gcode elt tg iter ifs scope pos it Z.env) [] = Z.A) (hxe : Z.xe = fun _ _ => False) (hc : Z.calm = true) (hco : Z.env.scope.isCoroutine = false) (T : Turn Z.prog Z.w Z.K tg J fp it tn)
    (pg : PG Z tg g) (pt : PTs Z ifs tt) (pe : PE Z elt te) (hw : L2.wipe σ0 vs = σ0) (stat : ∀ H' : Hp, (∀ b ∈ fp, H' b = none) → ∀ b ∈ fp, FpOk Z pins H' b) (turn : GexTurn J g tt te σ0 vs al Qd W) :
    ∀ (m n i : Nat) (H : Hp) (s₀ s : Shared), m + 1 ≤ n → W i m H → Inv Z pins σ0 H s → tn i s.heap → (∀ b ∈ fp, H b = none) →
      Seg (model Z.prog Z.w) B0 (GexR Z pins σ0 al Qd) (GexY Z pins al Qd) n s₀ (gcode elt tg iter ifs scope pos it Z.env) ((model Z.prog Z.w).den (gcode elt tg iter ifs scope pos it Z.env)) [] s := by
  intro m
  induction m using Nat.strongRecOn with
  | ind m ih =>
    intro n i H s₀ s hn w I st fr
    show Seg _ B0 _ _ _ s₀ _ ((compTurn (.GeneratorExp elt [⟨tg, iter, ifs, 0⟩] scope pos) 0 (.ref it) .none Z.env).onRaise (leaving Z.env)) [] s
    rw [compTurn_gen, Sem.onRaise_eq_wrap]
    refine seg_bind_wrap (wpAny_standAt ?_)
    refine seg_bind_wrap ?_
    rw [hA]
    rcases turn i m H w with ⟨stop, hQ⟩ | ⟨go, N, hN, step⟩
    · refine thnF (T.done Z rfl rfl rfl hc i pins s σ0 H _ I (stat H fr) st stop) fun r s1 ⟨hr, I1⟩ => ?_
      subst hr
      exact seg_end (.ok .next) (.inl ⟨.inr rfl, H, I1, hQ⟩)
    · refine thnF (T.item Z rfl rfl rfl hc i pins s σ0 H _ I (stat H fr) st go) fun r s1 ⟨u, hr, h1⟩ => ?_
      subst hr
      refine seg_bind_wrap ?_
      rw [hA]
      refine thnF h1 fun _ s2 ⟨x, H2, I2, r2, y2, st2, n2⟩ => ?_
      have I2' := I2.pinned (stat H2 n2) (T.obj _ _ st2)
      refine seg_bind_wrap ?_
      rw [hA]
      have r1 := pg.run _ s2 σ0 H2 x u _ I2' r2 (step x H2 y2)
      rw [hxe] at r1
      refine thnF r1 fun _ s3 ⟨σ3, H3, I3, hw3, q3⟩ => ?_
      refine seg_bind_wrap ?_
      rw [hA]
      have r3 := pt.run _ s3 σ3 H3 _ I3 q3
      rw [hxe] at r3
      refine thnF r3 fun b s4 ⟨H4, I4, q4⟩ => ?_
      -- a turn's end
      have fin : ∀ {s' : Shared} {H' : Hp}, Inv Z (pins ++ pinsAt fp s2.heap) σ3 H' s' → Inv Z pins σ0 H' s' ∧ tn (i + 1) s'.heap ∧ ∀ b ∈ fp, H' b = none := fun {s' H'} I' => by
        have pin' : ∀ b ∈ fp, ∀ o, s2.heap.get? b = some o → s'.heap.get? b = some o ∧ H' b = none := fun b hb o e =>
          let z := I'.pin (b, o) (List.mem_append_right _ (List.mem_append_right _ (mem_pinsAt hb e)))
          ⟨z.1, z.2.1⟩
        refine ⟨(I'.unpinned).weak (by rw [← hw3, wipe_length]) (fun j v e => by rw [← hw3] at e; exact (wipe_some e).1), T.keep _ _ _ st2 fun b hb o e => (pin' b hb o e).1, fun b hb => ?_⟩
        obtain ⟨o, e, _⟩ := T.obj _ _ st2 b hb
        exact (pin' b hb o e).2
      cases b with
      | false =>
        simp only [Bool.false_eq_true, if_false] at q4 ⊢
        obtain ⟨m', hm, w'⟩ := hN H4 q4
        obtain ⟨I5, st5, fr5⟩ := fin I4
        exact seg_again rfl (ih m' hm n (i + 1) H4 s₀ s4 (by omega) w' I5 st5 fr5)
      | true =>
        simp only [if_true] at q4 ⊢
        have hy : ∀ v, yieldOut Z.env v = yieldValue v := fun v => by simp only [yieldOut, hco, Bool.false_eq_true, if_false]
        simp only [hy]
        rw [Sem.bind_eq_wrap', Sem.bind_eq_wrap', Sem.wrap_wrap, Sem.wrap_wrap]
        refine seg_wrap ?_
        rw [hA]
        have r5 := pe.run _ s4 σ3 H4 _ I4 q4
        rw [hxe] at r5
        refine thnF r5 fun z s5 ⟨v, H5, I5, rv, k, ev, q5⟩ => ?_
        subst ev
        have rv : z = .bool k := rv
        subst rv
        obtain ⟨n', rfl⟩ : ∃ n', n = n' + 1 := ⟨n - 1, by omega⟩
        obtain ⟨I6, st6, fr6⟩ := fin I5
        refine seg_at (seg_yield rfl rfl rfl ⟨k, σ0, H5, rfl, I6, fun hk => by rw [if_neg hk] at q5; exact q5, fun hk s' sl => ?_⟩)
        rw [if_pos hk] at q5
        obtain ⟨m', hm, w'⟩ := hN H5 q5
        refine seg_again rfl (ih m' hm n' (i + 1) H5 s' s' (by omega) w' (inv_slp I6 sl) (by rw [sl.heap]; exact st6) fr6)
theorem gex_open (hA : B0.over (gcode elt tg iter ifs scope pos it Z.env) [] = Z.A) (hxe : Z.xe = fun _ _ => False) (hc : Z.calm = true) (hco : Z.env.scope.isCoroutine = false) (T : Turn Z.prog Z.w Z.K tg J fp it tn)
    (pg : PG Z tg g) (pt : PTs Z ifs tt) (pe : PE Z elt te) (hw : L2.wipe σ0 vs = σ0) (stat : ∀ H' : Hp, (∀ b ∈ fp, H' b = none) → ∀ b ∈ fp, FpOk Z pins H' b) (turn : GexTurn J g tt te σ0 vs al Qd W)
    (m n : Nat) (H : Hp) (s₀ s : Shared) (hn : m + 1 ≤ n) (w : W 0 m H) (I : Inv Z pins σ0 H s) (st : tn 0 s.heap) (fr : ∀ b ∈ fp, H b = none) :
      Seg (model Z.prog Z.w) B0 (GexR Z pins σ0 al Qd) (GexY Z pins al Qd) n s₀ (.compStart (.GeneratorExp elt [⟨tg, iter, ifs, 0⟩] scope pos) 0 (.ref it) .none Z.env) ((model Z.prog Z.w).den (.compStart (.GeneratorExp elt [⟨tg, iter, ifs, 0⟩] scope pos) 0 (.ref it) .none Z.env)) [] s := by
  have loop := gex_loop hA hxe hc hco T pg pt pe hw stat turn m n 0 H s₀ s hn w I st fr
  show Seg _ B0 _ _ _ s₀ _ ((compStart (.GeneratorExp elt [⟨tg, iter, ifs, 0⟩] scope pos) 0 (.ref it) .none Z.env).onRaise (leaving Z.env)) [] s
  unfold compStart
  rw [Sem.onRaise_eq_wrap]
  show Seg _ B0 _ _ _ s₀ _ ((ask >>= _).wrap _ _ _ _) [] s
  refine seg_bind_wrap (wpAny_askSetting ?_)
  split
  · exact seg_again rfl loop
  · first
      | exact seg_bind_wrap (wpAny_rule (seg_bind_wrap (wpAny_standAt (seg_bind_wrap (T.self _ 0 s _ _ st (seg_again rfl loop))))))
      | (refine seg_bind_wrap (wpAny_rule ?_); show Seg _ B0 _ _ _ s₀ _ ((standAt iter.pos >>= _).wrap _ _ _ _) [] s; exact seg_bind_wrap (wpAny_standAt (seg_bind_wrap (T.self _ 0 s _ _ st (seg_again rfl loop)))))
end
section
variable {Z : Cx} {σ0 : L2.St} {al : Bool} {Qd : Bool → Hp → Prop} {pins : List (Addr × Obj)} {A : Around} {R : Result → Shared → Prop} {a : Addr} {g : Nat}
/-- behind the run: what the generator left -/
def GexOut (Z : Cx) (pins : List (Addr × Obj)) (Qd : Bool → Hp → Prop) (b : Bool) (s' : Shared) : Prop := ∃ σ' H' s1, Qd b H' ∧ Inv Z pins σ' H' s1 ∧ s'.os = s1.os ∧ AllBare s'.gens ∧ ∀ b o, s1.heap.get? b = some o → s'.heap.get? b = some o
theorem gex_any (hh : A.handled = none) (hd : A.depth < recursionLimit) (pinned : ∀ {σ' H' s'}, Inv Z pins σ' H' s' → s'.heap.IsGen a g) (hal : al = false) (hQ : ∀ b s', GexOut Z pins Qd b s' → R (.ok (.ret (.bool b))) s') :
    ∀ (n : Nat) (s : Shared), s.heap.IsGen a g → s.heap.NoLimit → (∃ gs, s.gens[g]? = some gs ∧ gs.Goes (model Z.prog Z.w) A.in1.in1 (GexR Z pins σ0 al Qd) (GexY Z pins al Qd) n (.send .none) (s.setGen g .running)) →
      codeAny (model Z.prog Z.w) A (.builtin "any.loop" ⟨[.ref a], []⟩) R s := by
  have goes : ∀ {gs : GenState} {B : Around} {n : Nat} {r : Resume} {s : Shared}, gs.Goes (model Z.prog Z.w) B (GexR Z pins σ0 al Qd) (GexY Z pins al Qd) n r s →
      gs.Goes (model Z.prog Z.w) B (fun n s₀ r s₁ => ((r = .ok (.ret .none) ∨ r = .ok .next) ∧ (∃ H', Inv Z pins σ0 H' s₁ ∧ Qd al H')) ∨ ∃ e, r = .error e ∧ False) (GexY Z pins al Qd) n r s := fun h => h
  intro n
  induction n with
  | zero =>
    intro s hg hl ⟨gs, hgs, hgo⟩
    refine codeAny_builtin F.entry_any_loop ?_
    rw [Around.under_plainId F.plain_any_loop _]
    show wpAny _ A.in1 (pyNext (.ref a) >>= _) _ _ s
    refine wpAny_bind (next_genG (Er := fun _ _ => False) (A := A.in1) hh hl hd hg hgs (goes hgo) (fun v s₁ gs' hbare hv => ?_) (fun s₁ hp h' hk => ?_) fun e s₁ he => he.elim)
    · obtain ⟨k, σ', H', rfl, I', h1, h2⟩ := hv
      refine wpAny_bind (wpAny_holding (wpAny_truthy_bool ?_))
      refine wpAny_bind (wpAny_letGo ?_)
      by_cases hk : k = al
      · exact (h2 hk s₁ ⟨rfl, I'.bare, rfl⟩).elim
      · have hk2 : k = true := by subst hal; simpa using hk
        have q := h1 hk
        subst hk2
        simp only [if_true]
        refine wpAny_bind (wpAny_rule (wpAny_pure (hQ true _ ⟨σ', H', s₁, by subst hal; exact q, I', rfl, allBare_setGen I'.bare hbare, fun _ _ e => e⟩)))
    · obtain ⟨H', I', q⟩ := hp
      refine wpAny_bind (wpAny_rule (wpAny_pure ?_))
      subst hal
      exact hQ false _ ⟨σ0, H', s₁, q, I', rfl, allBare_setGen I'.bare rfl, hk⟩
  | succ n ih =>
    intro s hg hl ⟨gs, hgs, hgo⟩
    have hgl : g < s.gens.size := (Array.getElem?_eq_some_iff.mp hgs).1
    refine codeAny_builtin F.entry_any_loop ?_
    rw [Around.under_plainId F.plain_any_loop _]
    show wpAny _ A.in1 (pyNext (.ref a) >>= _) _ _ s
    refine wpAny_bind (wpAny_gsz (n := g + 1) hgl (next_genG (Er := fun _ _ => False) (A := A.in1) hh hl hd hg hgs (goes hgo) (fun v s₁ gs' hbare hv => ?_) (fun s₁ hp h' hk => ?_) fun e s₁ he => he.elim))
    · intro hsz
      obtain ⟨k, σ', H', rfl, I', h1, h2⟩ := hv
      refine wpAny_bind (wpAny_holding (wpAny_truthy_bool ?_))
      refine wpAny_bind (wpAny_letGo ?_)
      by_cases hk : k = al
      · have hk2 : k = false := hk.trans hal
        subst hk2
        simp only [Bool.false_eq_true, if_false]
        have hsz1 : g < s₁.gens.size := by
          have q : (s₁.setGen g gs').gens.size = s₁.gens.size := setGen_size _ _ _
          have hsz' : g + 1 ≤ (s₁.setGen g gs').gens.size := hsz
          omega
        refine wpAny_pure ⟨plainId_quiet F.plain_any_loop _, ih (s₁.setGen g gs') (pinned (s' := s₁) I') (show s₁.heap.NoLimit from I'.nolimit) ⟨gs', setGen_at hsz1, h2 hk _ ⟨rfl, allBare_setGen (s := s₁.setGen g gs') (allBare_setGen I'.bare hbare) rfl, rfl⟩⟩⟩
      · have hk2 : k = true := by subst hal; simpa using hk
        have q := h1 hk
        subst hk2
        simp only [if_true]
        refine wpAny_bind (wpAny_rule (wpAny_pure (hQ true _ ⟨σ', H', s₁, by subst hal; exact q, I', rfl, allBare_setGen I'.bare hbare, fun _ _ e => e⟩)))
    · intro hsz
      obtain ⟨H', I', q⟩ := hp
      refine wpAny_bind (wpAny_rule (wpAny_pure ?_))
      subst hal
      exact hQ false _ ⟨σ0, H', s₁, q, I', rfl, allBare_setGen I'.bare rfl, hk⟩
theorem gex_all (hh : A.handled = none) (hd : A.depth < recursionLimit) (pinned : ∀ {σ' H' s'}, Inv Z pins σ' H' s' → s'.heap.IsGen a g) (hal : al = true) (hQ : ∀ b s', GexOut Z pins Qd b s' → R (.ok (.ret (.bool b))) s') :
    ∀ (n : Nat) (s : Shared), s.heap.IsGen a g → s.heap.NoLimit → (∃ gs, s.gens[g]? = some gs ∧ gs.Goes (model Z.prog Z.w) A.in1.in1 (GexR Z pins σ0 al Qd) (GexY Z pins al Qd) n (.send .none) (s.setGen g .running)) →
      codeAny (model Z.prog Z.w) A (.builtin "all.loop" ⟨[.ref a], []⟩) R s := by
  have goes : ∀ {gs : GenState} {B : Around} {n : Nat} {r : Resume} {s : Shared}, gs.Goes (model Z.prog Z.w) B (GexR Z pins σ0 al Qd) (GexY Z pins al Qd) n r s →
      gs.Goes (model Z.prog Z.w) B (fun n s₀ r s₁ => ((r = .ok (.ret .none) ∨ r = .ok .next) ∧ (∃ H', Inv Z pins σ0 H' s₁ ∧ Qd al H')) ∨ ∃ e, r = .error e ∧ False) (GexY Z pins al Qd) n r s := fun h => h
  intro n
  induction n with
  | zero =>
    intro s hg hl ⟨gs, hgs, hgo⟩
    refine codeAny_builtin F.entry_all_loop ?_
    rw [Around.under_plainId F.plain_all_loop _]
    show wpAny _ A.in1 (pyNext (.ref a) >>= _) _ _ s
    refine wpAny_bind (next_genG (Er := fun _ _ => False) (A := A.in1) hh hl hd hg hgs (goes hgo) (fun v s₁ gs' hbare hv => ?_) (fun s₁ hp h' hk => ?_) fun e s₁ he => he.elim)
    · obtain ⟨k, σ', H', rfl, I', h1, h2⟩ := hv
      refine wpAny_bind (wpAny_holding (wpAny_truthy_bool ?_))
      refine wpAny_bind (wpAny_letGo ?_)
      by_cases hk : k = al
      · exact (h2 hk s₁ ⟨rfl, I'.bare, rfl⟩).elim
      · have hk2 : k = false := by subst hal; simpa using hk
        have q := h1 hk
        subst hk2
        simp only [Bool.false_eq_true, if_false]
        refine wpAny_bind (wpAny_rule (wpAny_pure (hQ false _ ⟨σ', H', s₁, by subst hal; exact q, I', rfl, allBare_setGen I'.bare hbare, fun _ _ e => e⟩)))
    · obtain ⟨H', I', q⟩ := hp
      refine wpAny_bind (wpAny_rule (wpAny_pure ?_))
      subst hal
      exact hQ true _ ⟨σ0, H', s₁, q, I', rfl, allBare_setGen I'.bare rfl, hk⟩
  | succ n ih =>
    intro s hg hl ⟨gs, hgs, hgo⟩
    have hgl : g < s.gens.size := (Array.getElem?_eq_some_iff.mp hgs).1
    refine codeAny_builtin F.entry_all_loop ?_
    rw [Around.under_plainId F.plain_all_loop _]
    show wpAny _ A.in1 (pyNext (.ref a) >>= _) _ _ s
    refine wpAny_bind (wpAny_gsz (n := g + 1) hgl (next_genG (Er := fun _ _ => False) (A := A.in1) hh hl hd hg hgs (goes hgo) (fun v s₁ gs' hbare hv => ?_) (fun s₁ hp h' hk => ?_) fun e s₁ he => he.elim))
    · intro hsz
      obtain ⟨k, σ', H', rfl, I', h1, h2⟩ := hv
      refine wpAny_bind (wpAny_holding (wpAny_truthy_bool ?_))
      refine wpAny_bind (wpAny_letGo ?_)
      by_cases hk : k = al
      · have hk2 : k = true := hk.trans hal
        subst hk2
        simp only [if_true]
        have hsz1 : g < s₁.gens.size := by
          have q : (s₁.setGen g gs').gens.size = s₁.gens.size := setGen_size _ _ _
          have hsz' : g + 1 ≤ (s₁.setGen g gs').gens.size := hsz
          omega
        refine wpAny_pure ⟨plainId_quiet F.plain_all_loop _, ih (s₁.setGen g gs') (pinned (s' := s₁) I') (show s₁.heap.NoLimit from I'.nolimit) ⟨gs', setGen_at hsz1, h2 hk _ ⟨rfl, allBare_setGen (s := s₁.setGen g gs') (allBare_setGen I'.bare hbare) rfl, rfl⟩⟩⟩
      · have hk2 : k = false := by subst hal; simpa using hk
        have q := h1 hk
        subst hk2
        simp only [Bool.false_eq_true, if_false]
        refine wpAny_bind (wpAny_rule (wpAny_pure (hQ false _ ⟨σ', H', s₁, by subst hal; exact q, I', rfl, allBare_setGen I'.bare hbare, fun _ _ e => e⟩)))
    · intro hsz
      obtain ⟨H', I', q⟩ := hp
      refine wpAny_bind (wpAny_rule (wpAny_pure ?_))
      subst hal
      exact hQ true _ ⟨σ0, H', s₁, q, I', rfl, allBare_setGen I'.bare rfl, hk⟩
end
/-- any(elt for tg in iter if ..), all(..); behind it the def's table may have grown -/
def tGx (Pt : Addr) (al : Bool) (wi : TI) (g : TG) (tt : TT) (te : TE) (vs : List Nat) : TE := fun σ H Q => wi σ H fun J H1 => GxR.TabG H1 Pt ∧ ∀ H2, GxR.Tabbed Pt H1 H2 →
  ∃ W : Nat → Nat → Hp → Prop, (∃ m, W 0 m H2) ∧ GexTurn J g tt te (L2.wipe σ vs) vs al (fun b H' => Q (.bl b) H') W
section
variable {X : Cx} {pins : List (Addr × Obj)} {σ : L2.St} {H : Hp} {s : Shared}
theorem wipe_wipe (σ : L2.St) (vs : List Nat) : L2.wipe (L2.wipe σ vs) vs = L2.wipe σ vs := wipe_eq (wipe_length σ vs) fun k hk => wipe_out hk
/-- the generator is made; its consumer takes it in the state s5 -/
theorem gx_core {c Pt : Addr} {elt tg iter : Expr} {ifs : List Expr} {gpos : Pos} {scope : Scope} {own : List (Str × Nat)} {al : Bool} {wi : TI} {g : TG} {tt : TT} {te : TE} {k : Nat} {Q : VK} {Q' : Value → Shared → Prop}
    (hr : Room (k + 1) X.A) (hc : X.calm = true) (hN : X.N.Nodup) (TB : GxR.TabB X.base X.mg c Pt) (hcode : X.env.code = .ref c) (ok : BlkOk X.N X.env.scope scope own) (hco : scope.isCoroutine = false) (hcell : ∀ y ∈ scope.names, y.2 ≠ .cell) (hdot : scope.names.lookup (".0" : Str) = some NameKind.local)
    (hi : PI X tg iter wi) (hg : ∀ (s : Shared) (H : Hp) (B : Around) (cl : List (Str × Addr)) (C : Addr) (code : Value) (fp : List Addr), Room k B → PG (gex X s H B (genEnv scope cl C code builtinsNs X.env) fp) tg g)
    (ht : ∀ (s : Shared) (H : Hp) (B : Around) (cl : List (Str × Addr)) (C : Addr) (code : Value) (fp : List Addr), Room k B → PTs (gex X s H B (genEnv scope cl C code builtinsNs X.env) fp) ifs tt)
    (he : ∀ (s : Shared) (H : Hp) (B : Around) (cl : List (Str × Addr)) (C : Addr) (code : Value) (fp : List Addr), Room k B → PE (gex X s H B (genEnv scope cl C code builtinsNs X.env) fp) elt te)
    (hs : ∀ v, genFold iter X.env v = pure v) (I : Inv X pins σ H s) (h : tGx Pt al wi g tt te (own.map (·.2)) σ H Q)
    (hQ : ∀ (Z : Cx) (pz : List (Addr × Obj)) (a : Addr) (gn n : Nat) (σ0 : L2.St) (s5 : Shared), Z.prog = X.prog → Z.w = X.w → s5.heap.IsGen a gn → s5.heap.NoLimit →
      (∃ gs, s5.gens[gn]? = some gs ∧ gs.Goes (model X.prog X.w) X.A.in1.in1 (GexR Z pz σ0 al (fun b H' => Q (.bl b) H')) (GexY Z pz al (fun b H' => Q (.bl b) H')) n (.send .none) (s5.setGen gn .running)) →
      (∀ {σ' H' s'}, Inv Z pz σ' H' s' → s'.heap.IsGen a gn) → (∀ b s', GexOut Z pz (fun b H' => Q (.bl b) H') b s' → EP X pins σ Q (.bool b) s') → Q' (.ref a) s5) :
    wpAny (model X.prog X.w) X.A (eval (.GeneratorExp elt [⟨tg, iter, ifs, 0⟩] scope gpos) X.env) Q' X.xe s := by
  have hfree : ∀ y ∈ scope.names, y.2 = .free → ∃ c, X.env.cells.lookup y.1 = some c := fun y hy e => by
    rcases ok.free y hy e with k | k
    · exact I.ok.has _ (.inl k)
    · exact I.ok.has _ (.inr k)
  refine wpAny_GeneratorExp_make hco (closure_ok hfree) hcell hdot ok.kind (by have := hr.dp; omega) ?_ hs
  refine thn (hi.run pins s σ H _ I h) fun xv s1 h1 => thn h1 fun itv s2 h2 => ?_
  obtain ⟨it, fp, tn, J, H1, e, I2, T, st2, f2, ⟨ps, hP, htr⟩, hW⟩ := h2
  subst e
  have hPs : s2.heap.get? Pt = some { cls := .none, data := .fields ps } := I2.hok Pt _ hP
  have hPlt : Pt < s2.heap.objs.size := Heap.lt_size hPs
  have cd : PySem.W.CodeHd s2.heap c Pt := TB.code.keeps fun b u e => I2.bk b u e
  have cont : ∀ (code : Value) (h3 : Heap) (tk : Nat) (ps' : Array Value), Heap.ExtBut Pt s2.heap h3 → s2.heap.objs.size ≤ h3.objs.size → h3.get? Pt = some { cls := .none, data := .fields ps' } → (∃ more, ps' = ps ++ more) → TriplesOk ps'.toList →
      wpAny (model X.prog X.w) X.A (builtinsFor X.env.globals X.env.builtins) (fun bi s₄ =>
        ∀ h', h'.Ns s₄.heap.objs.size (fun y => if y = ".0" then some (.ref it) else none) → Heap.SameBut s₄.heap.objs.size (s₄.heap.push { cls := .type "frame", data := .dict #[] }) h' →
          Q' (.ref h'.objs.size) { s₄ with
            gens := s₄.gens.push (.fresh (.compStart (.GeneratorExp elt [⟨tg, iter, ifs, 0⟩] scope gpos) 0 (.ref it) .none (genEnv scope (cloFrom X.env.cells scope.names []) s₄.heap.objs.size code bi X.env))),
            toks := s₄.toks + 1 + 1 + 1,
            heap := h'.push { cls := .type "generator", data := .fields #[.int s₄.gens.size 0, .str "<genexpr>" (s₄.toks + 1), .str (X.env.qual ++ "<genexpr>") (s₄.toks + 1 + 1)] } }) X.xe { s2 with heap := h3, toks := tk } := by
    intro code h3 tk ps' hx hsz hP3 ⟨more, em⟩ ht3
    obtain ⟨bm, ob, e1, e2, e3, e4, e5, e6, e7, e8⟩ := TB.bm
    have keep3 : ∀ b u, b ≠ Pt → s2.heap.get? b = some u → h3.get? b = some u := fun b u hb e => hx b u hb e
    refine wpAny_builtinsFor (m := X.mg) (by rw [I2.ok.glob]; exact (I2.mod.glob.keeps I2.bk).extBut hx TB.gP) e1 e2 (keep3 _ _ e4 (I2.bk _ _ e5)) e6 e7 e8 ?_
    intro h' hn' hs'
    have I4 : Inv X pins σ (upd H1 Pt (.tbl (ps ++ more))) { s2 with heap := h3, gens := s2.gens, drawn := s2.drawn, toks := tk } :=
      GxR.inv_tab I2 hP keep3 (by rw [← em]; exact hP3) I2.bare
    obtain ⟨W, ⟨m0, w0⟩, turn⟩ := hW _ ⟨⟨ps ++ more, upd_same, by rw [← em]; exact ht3⟩, fun b hb => upd_ne hb⟩
    have nP : ∀ b ∈ fp, b ≠ Pt := fun b hb z => by
      have q := (f2 b hb).1
      rw [z, hP] at q
      cases q
    have f4 : ∀ b ∈ fp, FpOk X pins (upd H1 Pt (.tbl (ps ++ more))) b ∧ b < h3.objs.size := fun b hb => by
      obtain ⟨o, e, _⟩ := T.obj _ _ st2 b hb
      exact ⟨⟨by rw [upd_ne (nP b hb)]; exact (f2 b hb).1, (f2 b hb).2⟩, Heap.lt_size (keep3 b o (nP b hb) e)⟩
    have st4 : tn 0 h3 := T.keep _ _ _ st2 fun b hb o e => keep3 b o (nP b hb) e
    have fr : X.A.frames = some X.stack := I.ok.frames
    generalize hH4 : upd H1 Pt (.tbl (ps ++ more)) = H4 at I4 f4 turn w0
    generalize hs4 : ({ s2 with heap := h3, gens := s2.gens, drawn := s2.drawn, toks := tk } : Shared) = s4 at I4
    have sz4 : s4.heap = h3 := by rw [← hs4]
    replace hn' : h'.Ns s4.heap.objs.size (fun y => if y = ".0" then some (.ref it) else none) := by rw [sz4]; exact hn'
    replace hs' : Heap.SameBut s4.heap.objs.size (s4.heap.push { cls := .type "frame", data := .dict #[] }) h' := by rw [sz4]; exact hs'
    rw [← sz4] at f4 st4
    have hsz' : h'.objs.size = s4.heap.objs.size + 1 := by rw [hs'.1, Heap.size_push]
    have keep5 : ∀ (go : Obj), ∀ b o, s4.heap.get? b = some o → (h'.push go).get? b = some o := fun go b o e =>
      Heap.get?_push_of_some _ (hs'.extBut b o (Nat.ne_of_lt (Heap.lt_size e)) (Heap.get?_push_of_some _ e))
    have hB : ((X.A.in1.in1).over (gcode elt tg iter ifs scope gpos it (genEnv scope (cloFrom X.env.cells scope.names []) s4.heap.objs.size code builtinsNs X.env)) []).frames = some (genEnv scope (cloFrom X.env.cells scope.names []) s4.heap.objs.size code builtinsNs X.env :: X.stack) := by
      show X.A.frames.map _ = _
      rw [fr]; rfl
    have rB : Room k ((X.A.in1.in1).over (gcode elt tg iter ifs scope gpos it (genEnv scope (cloFrom X.env.cells scope.names []) s4.heap.objs.size code builtinsNs X.env)) []) :=
      ⟨hr.hd, by have := hr.dp; show X.A.depth + 0 + 1 + 3 * k + 5 < _; omega, by have := hr.un; show X.A.units + 1 + 1 + 0 + 3 + 16 * k + 200 < _; omega⟩
    generalize hBv : (X.A.in1.in1).over (gcode elt tg iter ifs scope gpos it (genEnv scope (cloFrom X.env.cells scope.names []) s4.heap.objs.size code builtinsNs X.env)) [] = B at hB rB
    generalize hgo : (⟨.type "generator", none, .fields #[.int s4.gens.size 0, .str "<genexpr>" (s4.toks + 1), .str (X.env.qual ++ "<genexpr>") (s4.toks + 1 + 1)], #[]⟩ : Obj) = go
    have hpu : (h'.push go).get? h'.objs.size = some go := by rw [← hgo]; exact Heap.get?_push_size _ rfl
    have hgd : ∀ v, go.data ≠ .cell v := fun v q => by rw [← hgo] at q; cases q
    have hgen : ∀ hh : Heap, hh.get? h'.objs.size = some go → hh.IsGen h'.objs.size s4.gens.size := fun hh e => ⟨go, _, _, e, by rw [← hgo], by rw [← hgo], by rw [← hgo]⟩
    have I5 := gex_start (B := B) (code := code) (gs := s4.gens.push (.fresh (.compStart (.GeneratorExp elt [⟨tg, iter, ifs, 0⟩] scope gpos) 0 (.ref it) .none (genEnv scope (cloFrom X.env.cells scope.names []) s4.heap.objs.size code builtinsNs X.env)))) (tk := s4.toks + 1 + 1 + 1)
      I4 ok hN f4 hcell rfl hB (fun _ => rB.hd) (AllBare.push I4.bare rfl) hgd hpu hn' hs'
    have hpg := hg s4 H4 B (cloFrom X.env.cells scope.names []) s4.heap.objs.size code fp rB
    have hpt := ht s4 H4 B (cloFrom X.env.cells scope.names []) s4.heap.objs.size code fp rB
    have hpe := he s4 H4 B (cloFrom X.env.cells scope.names []) s4.heap.objs.size code fp rB
    have pinned : ∀ {σ' H' s'}, Inv (gex X s4 H4 B (genEnv scope (cloFrom X.env.cells scope.names []) s4.heap.objs.size code builtinsNs X.env) fp) [(h'.objs.size, go)] σ' H' s' → s'.heap.IsGen h'.objs.size s4.gens.size :=
      fun {σ' H' s'} I' => hgen _ (I'.pin (h'.objs.size, go) (List.mem_append_right _ (List.mem_singleton.mpr rfl))).1
    refine hQ (gex X s4 H4 B (genEnv scope (cloFrom X.env.cells scope.names []) s4.heap.objs.size code builtinsNs X.env) fp) [(h'.objs.size, go)] h'.objs.size s4.gens.size (m0 + 1) (L2.wipe σ (own.map (·.2))) _ rfl rfl (pinned I5) I5.nolimit
      ⟨_, Array.getElem?_push_size .., rfl, ?_⟩ pinned fun b s' hout => ?_
    · have bare6 := allBare_setGen (g := s4.gens.size) (x := .running) I5.bare rfl
      refine gex_open (Z := gex X s4 H4 B (genEnv scope (cloFrom X.env.cells scope.names []) s4.heap.objs.size code builtinsNs X.env) fp) hBv rfl hc hco T hpg hpt hpe (wipe_wipe _ _) (fun H' hn b hb => ?_) turn m0 (m0 + 1) H4 _ _ (Nat.le_refl _) w0 (inv_slp I5 ⟨rfl, bare6, rfl⟩) (T.keep _ _ _ st4 fun b _ o e => keep5 go b o e) (fun b hb => (f4 b hb).1.1)
      refine ⟨hn b hb, Nat.ne_of_lt (f4 b hb).2, (I5.ok.exfs b hb), .inl hb, fun x c e => (I5.ok.exf b hb).2 x c e, fun p hp => ?_⟩
      have hp : p ∈ [(h'.objs.size, go)] := by simpa using hp
      rw [List.mem_singleton.mp hp]
      have q := (f4 b hb).2
      exact Nat.ne_of_gt (Nat.lt_of_lt_of_le q (by rw [hsz']; exact Nat.le_succ _))
    · obtain ⟨σ', H', sx, hq, Ix, o1, b1, k1⟩ := hout
      refine ⟨.bl b, H', I4.call' (ch := fp) (o1.trans Ix.os) (Un.trans Ix.base (Un.kept k1)) (Ix.hok.kept k1) b1 fun b hb => ⟨(f4 b hb).1.2.2.2.1, (f4 b hb).1.2.1, (f4 b hb).1.2.2.2.2.1, (f4 b hb).1.2.2.2.2.2⟩, rfl, hq⟩
  refine ⟨I2.nolimit, ?_⟩
  cases hf : codeAmong gpos ps.toList with
  | none =>
    refine wpAny_genexprCodeX hcode (cd.code hPs htr) (cd.tab hPs) hf fun c' h' tk hx hge hlt hco' _ htab' _ => ?_
    obtain ⟨o1, vs, f1, tf, fl, tg, inF, tx, tt, op, _, _, _, _, _, _, _, _, _, htr2, _⟩ := hco'
    exact cont _ h' tk _ hx (Nat.le_trans hge (Nat.le_of_lt hlt)) htab'.2 ⟨_, rfl⟩ htr2
  | some cv =>
    refine wpAny_genexprCode_hit hcode (cd.code hPs htr) hf ?_
    exact cont cv s2.heap s2.toks ps (Heap.ExtBut.refl _ _) (Nat.le_refl _) hPs ⟨#[], by simp⟩ htr
theorem pe_anyG {c Pt : Addr} {elt tg iter : Expr} {ifs : List Expr} {gpos p pos : Pos} {scope : Scope} {own : List (Str × Nat)} {wi : TI} {g : TG} {tt : TT} {te : TE} {k : Nat}
    (hr : Room (k + 1) X.A) (hc : X.calm = true) (hN : X.N.Nodup) (TB : GxR.TabB X.base X.mg c Pt) (hcode : X.env.code = .ref c) (ok : BlkOk X.N X.env.scope scope own) (hco : scope.isCoroutine = false) (hcell : ∀ y ∈ scope.names, y.2 ≠ .cell) (hdot : scope.names.lookup (".0" : Str) = some NameKind.local)
    (hi : PI X tg iter wi) (hg : ∀ (s : Shared) (H : Hp) (B : Around) (cl : List (Str × Addr)) (C : Addr) (code : Value) (fp : List Addr), Room k B → PG (gex X s H B (genEnv scope cl C code builtinsNs X.env) fp) tg g)
    (ht : ∀ (s : Shared) (H : Hp) (B : Around) (cl : List (Str × Addr)) (C : Addr) (code : Value) (fp : List Addr), Room k B → PTs (gex X s H B (genEnv scope cl C code builtinsNs X.env) fp) ifs tt)
    (he : ∀ (s : Shared) (H : Hp) (B : Around) (cl : List (Str × Addr)) (C : Addr) (code : Value) (fp : List Addr), Room k B → PE (gex X s H B (genEnv scope cl C code builtinsNs X.env) fp) elt te)
    (hm : X.mg "any" = none) (hs : ∀ v, genFold iter X.env v = pure v := by intro _; rfl) (hgl : Gl X "any" := by rfl)
    (hst : starEach [.GeneratorExp elt [⟨tg, iter, ifs, 0⟩] scope gpos] X.env = (false, eval (.GeneratorExp elt [⟨tg, iter, ifs, 0⟩] scope gpos) X.env) :: starEach [] X.env := by rfl) :
    PE X (.Call (.Name "any" p) [.GeneratorExp elt [⟨tg, iter, ifs, 0⟩] scope gpos] [] pos) (tGx Pt false wi g tt te (own.map (·.2))) := by
  refine ⟨fun pins s σ H Q I h => ?_⟩
  refine wpAny_Call_Name_kw (ld_blt I hgl hm boot_any ?_)
  refine PyProof.Rows.callWith_builtin1 ?_ hst (by rfl)
  rw [hst]
  show wpAny _ _ (spliced ((false, eval (.GeneratorExp elt [⟨tg, iter, ifs, 0⟩] scope gpos) X.env) :: backTo pos (starEach [] X.env))) _ _ s
  refine Calls.spliced_cons (gx_core (Q := Q) hr hc hN TB hcode ok hco hcell hdot hi hg ht he hs I h fun Z pz a gn n σ0 s5 hp hw hgen hl hgo pin hout => ?_)
  refine Calls.spliced_nil ?_
  refine call_function_tree F.kind_any F.plain_any F.entry_any (F.args_any1 _) ?_
  unfold Builtin.«any»
  refine wpAny_bind (m := oneArg "any" _) (wpAny_pure ?_)
  refine wpAny_bind (wpAny_pyIter_gen hgen ?_)
  have q := gex_any (Z := Z) (σ0 := σ0) (al := false) (Qd := fun b H' => Q (.bl b) H') (pins := pz) (A := X.A) (a := a) (g := gn) (R := fun r s' => match r with | .ok (.ret v) => EP X pins σ Q v s' | _ => False) hr.hd (by have := hr.dp; omega) pin rfl (fun b s' h => hout b s' h) n s5 hgen hl (by rw [hp, hw]; exact hgo)
  rw [hp, hw] at q
  refine wpAny_pure ⟨plainId_quiet F.plain_any_loop _, codeAny_mono q fun r s' hq => ?_⟩
  cases r with
  | error e => exact hq.elim
  | ok fl => cases fl with
    | ret v => exact hq
    | _ => exact hq.elim
theorem pe_allG {c Pt : Addr} {elt tg iter : Expr} {ifs : List Expr} {gpos p pos : Pos} {scope : Scope} {own : List (Str × Nat)} {wi : TI} {g : TG} {tt : TT} {te : TE} {k : Nat}
    (hr : Room (k + 1) X.A) (hc : X.calm = true) (hN : X.N.Nodup) (TB : GxR.TabB X.base X.mg c Pt) (hcode : X.env.code = .ref c) (ok : BlkOk X.N X.env.scope scope own) (hco : scope.isCoroutine = false) (hcell : ∀ y ∈ scope.names, y.2 ≠ .cell) (hdot : scope.names.lookup (".0" : Str) = some NameKind.local)
    (hi : PI X tg iter wi) (hg : ∀ (s : Shared) (H : Hp) (B : Around) (cl : List (Str × Addr)) (C : Addr) (code : Value) (fp : List Addr), Room k B → PG (gex X s H B (genEnv scope cl C code builtinsNs X.env) fp) tg g)
    (ht : ∀ (s : Shared) (H : Hp) (B : Around) (cl : List (Str × Addr)) (C : Addr) (code : Value) (fp : List Addr), Room k B → PTs (gex X s H B (genEnv scope cl C code builtinsNs X.env) fp) ifs tt)
    (he : ∀ (s : Shared) (H : Hp) (B : Around) (cl : List (Str × Addr)) (C : Addr) (code : Value) (fp : List Addr), Room k B → PE (gex X s H B (genEnv scope cl C code builtinsNs X.env) fp) elt te)
    (hm : X.mg "all" = none) (hs : ∀ v, genFold iter X.env v = pure v := by intro _; rfl) (hgl : Gl X "all" := by rfl)
    (hst : starEach [.GeneratorExp elt [⟨tg, iter, ifs, 0⟩] scope gpos] X.env = (false, eval (.GeneratorExp elt [⟨tg, iter, ifs, 0⟩] scope gpos) X.env) :: starEach [] X.env := by rfl) :
    PE X (.Call (.Name "all" p) [.GeneratorExp elt [⟨tg, iter, ifs, 0⟩] scope gpos] [] pos) (tGx Pt true wi g tt te (own.map (·.2))) := by
  refine ⟨fun pins s σ H Q I h => ?_⟩
  refine wpAny_Call_Name_kw (ld_blt I hgl hm (show bootBuiltins "all" = some (.builtin "all") by decide +kernel) ?_)
  refine PyProof.Rows.callWith_builtin1 ?_ hst (by rfl)
  rw [hst]
  show wpAny _ _ (spliced ((false, eval (.GeneratorExp elt [⟨tg, iter, ifs, 0⟩] scope gpos) X.env) :: backTo pos (starEach [] X.env))) _ _ s
  refine Calls.spliced_cons (gx_core (Q := Q) hr hc hN TB hcode ok hco hcell hdot hi hg ht he hs I h fun Z pz a gn n σ0 s5 hp hw hgen hl hgo pin hout => ?_)
  refine Calls.spliced_nil ?_
  refine call_function_tree F.kind_all F.plain_all F.entry_all (F.args_all1 _) ?_
  unfold Builtin.«all»
  refine wpAny_bind (m := oneArg "all" _) (wpAny_pure ?_)
  refine wpAny_bind (wpAny_pyIter_gen hgen ?_)
  have q := gex_all (Z := Z) (σ0 := σ0) (al := true) (Qd := fun b H' => Q (.bl b) H') (pins := pz) (A := X.A) (a := a) (g := gn) (R := fun r s' => match r with | .ok (.ret v) => EP X pins σ Q v s' | _ => False) hr.hd (by have := hr.dp; omega) pin rfl (fun b s' h => hout b s' h) n s5 hgen hl (by rw [hp, hw]; exact hgo)
  rw [hp, hw] at q
  refine wpAny_pure ⟨plainId_quiet F.plain_all_loop _, codeAny_mono q fun r s' hq => ?_⟩
  cases r with
  | error e => exact hq.elim
  | ok fl => cases fl with
    | ret v => exact hq
    | _ => exact hq.elim
end
end Ab

set_option Elab.async false
set_option linter.all false
set_option maxRecDepth 100000
set_option maxHeartbeats 2000000
namespace Ab
open PySem PySem.Spec PyProof.Rows L2
section
variable {K : PySem.W.Frag} {T : Tt} {P : Hp} {M : Mh} {H H' : Hp}
theorem step_tabbed {Pt : Addr} (w : Wr K T P M H) (hT : T.g Pt) (tb : GxR.Tabbed Pt H H') : Step K T P M H P M H' := by
  obtain ⟨⟨ps, e, ht⟩, hb⟩ := tb
  have n : ∀ {a : Addr} {o : HO}, H' a = some o ∨ True → a ≠ Pt → H' a = H a := fun _ q => hb _ q
  have pn := (w.tab Pt (.inl hT)).2.1
  have mn := (w.tab Pt (.inl hT)).2.2
  obtain ⟨ps0, e0, _⟩ := (w.tab Pt (.inl hT)).1
  refine ⟨Ex.refl P, ⟨fun a o q => ?_, fun a m q => ?_, w.dis, fun a t => ?_⟩, fun a o q h1 h2 h3 _ _ => ?_, fun a ob o q => ?_, fun a o q => ?_⟩
  · have ne : a ≠ Pt := fun z => by rw [z, pn] at q; cases q
    rw [hb a ne]; exact w.pure a o q
  · have ne : a ≠ Pt := fun z => by rw [z, mn] at q; cases q
    rw [hb a ne]; exact w.chg a m q
  · obtain ⟨t1, t2, t3⟩ := w.tab a t
    refine ⟨?_, t2, t3⟩
    by_cases z : a = Pt
    · rw [z]; exact ⟨ps, e, ht, fun q tq => absurd hT (T.dj _ _ tq)⟩
    · obtain ⟨qs, q1, q2⟩ := t1
      exact ⟨qs, by rw [hb a z]; exact q1, q2⟩
  · have ne : a ≠ Pt := fun z => h3 (.inl (z ▸ hT))
    exact ⟨by rw [hb a ne]; exact q, h1, h2⟩
  · have ne : a ≠ Pt := fun z => by rw [z, e0] at q; cases q
    rw [hb a ne]; exact q
  · by_cases z : a = Pt
    · rw [z]; exact ⟨_, e⟩
    · exact ⟨o, by rw [hb a z]; exact q⟩
/-- any(..), all(..) of a generator expression; al: what the elements are while it goes on -/
def xGx (al : Bool) (it : XI K T) (g : CG) (q : XT K T) (e : XE K T) : XE K T where
  t := fun W => fun σ H Q => ∀ Pt, T.g Pt → tGx Pt al (it.t W) (g.t K) (q.t WX0) (e.t WX0) g.slots σ H Q
  w := fun ρ M Φ Ξ => it.w ρ M (fun ds St M1 => ∃ I : Nat → Mh → Prop, I 0 M1 ∧ (∀ i M', I i M' → St M') ∧
    (∀ i d M', ds[i]? = some d → I i M' → g.w d (wipeD ρ g.slots) fun ρ2 => q.w ρ2 M' (fun b M2 => if b = true then e.w ρ2 M2 (fun y M3 => asB y fun k => if k = al then I (i + 1) M3 else Φ (.bl (!al)) M3) (fun _ _ _ _ => False) else I (i + 1) M2) (fun _ _ _ _ => False)) ∧
    (∀ M', I ds.length M' → Φ (.bl al) M')) Ξ
  ok := fun {W ρ M Φ Ξ} h P σ H wr rs Q hq hx Pt hPt => it.ok h wr rs (fun J ds St P1 M1 H1 h1 s1 hg => by
    obtain ⟨I, h0, hst, hs, he⟩ := h1
    refine ⟨(s1.wr.tab Pt (.inl hPt)).1.g, fun H2 tb => ?_⟩
    have s2 : Step K T P1 M1 H1 P1 M1 H2 := step_tabbed s1.wr hPt tb
    refine ⟨fun i m H' => m = ds.length - i ∧ i ≤ ds.length ∧ ∃ P' M', I i M' ∧ Step K T P1 M1 H1 P' M' H', ⟨ds.length, by simp, Nat.zero_le _, P1, M1, h0, s2⟩, ?_⟩
    rintro i m H' ⟨rfl, hi, P', M', hI, st⟩
    obtain ⟨g1, g2⟩ := hg P' M' H' st.w (hst i M' hI)
    by_cases hlt : i < ds.length
    · have ee : ds[i]? = some ds[i] := by simp [hlt]
      obtain ⟨k1, k2⟩ := g1 i _ ee
      refine .inr ⟨k1, fun H2 => ∃ P' M', I (i + 1) M' ∧ Step K T P1 M1 H1 P' M' H2, fun H2 q => ⟨ds.length - (i + 1), by omega, rfl, hlt, q⟩, fun x H3 y => ?_⟩
      obtain ⟨P3, s3, r3⟩ := k2 x H3 y
      have st3 := st.trans s3
      have rs3 : RepS K P3 (L2.wipe σ g.slots) (wipeD ρ g.slots) := (rs.mono (s1.trans st3).ex).wipe _
      refine CG.ok (hs i _ M' ee hI) s3.wr rs3 r3 fun σ4 ρ4 h4 rs4 hl4 hk4 => ⟨?_, ?_⟩
      · have q1 : L2.wipe σ4 g.slots = L2.wipe (L2.wipe σ g.slots) g.slots := wipe_eq hl4 hk4
        have q2 : L2.wipe (L2.wipe σ g.slots) g.slots = L2.wipe σ g.slots := wipe_eq (wipe_length σ g.slots) fun k hk => wipe_out hk
        rw [q1, q2]
      · refine q.ok h4 s3.wr rs4 (fun b P5 M5 H5 h5 s5 => ?_) (fun _ _ _ _ _ _ _ z _ _ => z.elim)
        cases b with
        | true =>
          refine e.ok h5 s5.wr (rs4.mono s5.ex) (fun v d P6 M6 H6 h6 s6 r6 => ?_) (fun _ _ _ _ _ _ _ z _ _ => z.elim)
          obtain ⟨k, rfl, h7⟩ := h6.get
          have st6 := (st3.trans s5).trans s6
          refine ⟨k, r6.toB, ?_⟩
          by_cases hk : k = al
          · rw [if_pos hk] at h7 ⊢
            exact ⟨P6, M6, h7, st6⟩
          · rw [if_neg hk] at h7 ⊢
            exact hq _ _ _ _ _ h7 (s1.trans st6) (.bl _)
        | false => exact ⟨P5, M5, h5, st3.trans s5⟩
    · have ee : i = ds.length := by omega
      subst ee
      exact .inl ⟨g2, hq _ _ _ _ _ (he M' hI) (s1.trans st) (.bl _)⟩) hx
end
section
variable {X : Cx} {W : WX} {T : Tt} {pos gpos p : Pos} {q : XT X.K T} {it : XI X.K T} {cg : CG} {e : XE X.K T} {elt tg iter : Expr} {ifs : List Expr} {scope : Scope} {own : List (Str × Nat)} {k : Nat}
/-- a def's code object and its table -/
def Tb (base : Heap) (mg : Str → Option Value) (T : Tt) (cdv : Value) : Prop := ∃ c Pt, cdv = .ref c ∧ GxR.TabB base mg c Pt ∧ T.g Pt
theorem dAny (tb : Tb X.base X.mg T X.env.code) (hr : Room (k + 1) X.A) (hc : X.calm = true) (hN : X.N.Nodup) (ok : BlkOk X.N X.env.scope scope own) (hi : PI X tg iter (it.t W)) (ho : own.map (·.2) = cg.slots)
    (hg : ∀ (s : Shared) (H : Hp) (B : Around) (cl : List (Str × Addr)) (C : Addr) (code : Value) (fp : List Addr), Room k B → PG (gex X s H B (genEnv scope cl C code builtinsNs X.env) fp) tg (cg.t X.K))
    (ht : ∀ (s : Shared) (H : Hp) (B : Around) (cl : List (Str × Addr)) (C : Addr) (code : Value) (fp : List Addr), Room k B → PTs (gex X s H B (genEnv scope cl C code builtinsNs X.env) fp) ifs (q.t WX0))
    (he : ∀ (s : Shared) (H : Hp) (B : Around) (cl : List (Str × Addr)) (C : Addr) (code : Value) (fp : List Addr), Room k B → PE (gex X s H B (genEnv scope cl C code builtinsNs X.env) fp) elt (e.t WX0))
    (hm : X.mg "any" = none) (hcell : ∀ y ∈ scope.names, y.2 ≠ .cell := by decide +kernel) (hco : scope.isCoroutine = false := by rfl) (hdot : scope.names.lookup (".0" : Str) = some NameKind.local := by rfl) (hs : ∀ v, genFold iter X.env v = pure v := by intro _; rfl) (hgl : Gl X "any" := by rfl)
    (hst : starEach [.GeneratorExp elt [⟨tg, iter, ifs, 0⟩] scope gpos] X.env = (false, eval (.GeneratorExp elt [⟨tg, iter, ifs, 0⟩] scope gpos) X.env) :: starEach [] X.env := by rfl) :
    PE X (.Call (.Name "any" p) [.GeneratorExp elt [⟨tg, iter, ifs, 0⟩] scope gpos] [] pos) ((xGx false it cg q e).t W) := by
  obtain ⟨c, Pt, hcode, TB, hT⟩ := tb
  have h := pe_anyG (p := p) (pos := pos) (gpos := gpos) hr hc hN TB hcode ok hco hcell hdot hi hg ht he hm hs hgl hst
  rw [ho] at h
  exact ⟨fun pins s σ H Q I hh => h.run pins s σ H Q I (hh Pt hT)⟩
theorem dAll (tb : Tb X.base X.mg T X.env.code) (hr : Room (k + 1) X.A) (hc : X.calm = true) (hN : X.N.Nodup) (ok : BlkOk X.N X.env.scope scope own) (hi : PI X tg iter (it.t W)) (ho : own.map (·.2) = cg.slots)
    (hg : ∀ (s : Shared) (H : Hp) (B : Around) (cl : List (Str × Addr)) (C : Addr) (code : Value) (fp : List Addr), Room k B → PG (gex X s H B (genEnv scope cl C code builtinsNs X.env) fp) tg (cg.t X.K))
    (ht : ∀ (s : Shared) (H : Hp) (B : Around) (cl : List (Str × Addr)) (C : Addr) (code : Value) (fp : List Addr), Room k B → PTs (gex X s H B (genEnv scope cl C code builtinsNs X.env) fp) ifs (q.t WX0))
    (he : ∀ (s : Shared) (H : Hp) (B : Around) (cl : List (Str × Addr)) (C : Addr) (code : Value) (fp : List Addr), Room k B → PE (gex X s H B (genEnv scope cl C code builtinsNs X.env) fp) elt (e.t WX0))
    (hm : X.mg "all" = none) (hcell : ∀ y ∈ scope.names, y.2 ≠ .cell := by decide +kernel) (hco : scope.isCoroutine = false := by rfl) (hdot : scope.names.lookup (".0" : Str) = some NameKind.local := by rfl) (hs : ∀ v, genFold iter X.env v = pure v := by intro _; rfl) (hgl : Gl X "all" := by rfl)
    (hst : starEach [.GeneratorExp elt [⟨tg, iter, ifs, 0⟩] scope gpos] X.env = (false, eval (.GeneratorExp elt [⟨tg, iter, ifs, 0⟩] scope gpos) X.env) :: starEach [] X.env := by rfl) :
    PE X (.Call (.Name "all" p) [.GeneratorExp elt [⟨tg, iter, ifs, 0⟩] scope gpos] [] pos) ((xGx true it cg q e).t W) := by
  obtain ⟨c, Pt, hcode, TB, hT⟩ := tb
  have h := pe_allG (p := p) (pos := pos) (gpos := gpos) hr hc hN TB hcode ok hco hcell hdot hi hg ht he hm hs hgl hst
  rw [ho] at h
  exact ⟨fun pins s σ H Q I hh => h.run pins s σ H Q I (hh Pt hT)⟩
end
end Ab

set_option Elab.async false
set_option linter.all false
set_option maxRecDepth 100000
set_option maxHeartbeats 2000000
namespace Ab
open PySem PySem.Spec PyProof.Rows L2
/-- what is known of a def's table -/
structure TbD (K : PySem.W.Frag) (mg : Str → Option Value) (base : Heap) (T : Tt) (x : Str) : Prop where
  ex : ∃ f c Pt, mg x = some (.ref f) ∧ (∀ o fd, K.lookup f = some o → o.data = .func fd → fd.code = .ref c) ∧ GxR.TabB base mg c Pt ∧ T.g Pt
/-- .. of a def that makes lambdas -/
structure TbL (K : PySem.W.Frag) (mg : Str → Option Value) (base : Heap) (T : Tt) (x : Str) : Prop where
  ex : ∃ f c Pt, mg x = some (.ref f) ∧ (∀ o fd, K.lookup f = some o → o.data = .func fd → fd.code = .ref c) ∧ LamX.TabB base mg c Pt ∧ T.l Pt (x ++ ".<locals>." ++ "<lambda>")
def TlB (base : Heap) (mg : Str → Option Value) (T : Tt) (cdv : Value) (q : Str) : Prop := ∃ c Pt, cdv = .ref c ∧ LamX.TabB base mg c Pt ∧ T.l Pt q
section
variable {P : Program} {w : World} {K : PySem.W.Frag} {mg : Str → Option Value} {base : Heap} {T : Tt}
theorem fnT {x : Str} {st : Stmt} {f : Addr} {fd : FuncData} {N ps : List Str} {k : Nat} {sp : Pm} (F : Fun K x x st f fd) (hm : mg x = some (.ref f)) (t : TbD K mg base T x) (S : FnScope N ps (defScope st)) (b : XS K T) (hlen : ∀ ds M Φ Ξ, sp ds M Φ Ξ → ds.length = ps.length)
    (hd : ∀ (f : Addr) (cdv : Value) (A : Around) (outer : List Env) (s : Shared) (H : Hp) (E : XK), Tb base mg T cdv → Room k (A.deeper (envOfC x (defScope st) s.heap.objs.size f cdv)) →
      PSs (cxOf (L2.CX P w) P w K mg base N x (defScope st) f cdv A outer s H E).nox (defBody st) (b.t WX0))
    (hw : ∀ ds M Φ Ξ, sp ds M Φ Ξ → b.w (st0 N.length ds) M ⟨fun _ M' => Φ .non M', Φ, fun _ _ => False, fun _ _ => False⟩ (fun _ _ _ _ => False)) : FnOk P w K mg base (L2.CX P w) (k + 1) f fd ps (spOf K T sp) := by
  obtain ⟨oc, od, kV, doc, pm, an, cdv, ct, osl, rfl, lk, hcd⟩ := F.ex
  obtain ⟨f', c, Pt, hm', hc, TB, hT⟩ := t.ex
  rw [hm] at hm'
  cases hm'
  have e : cdv = .ref c := hc _ _ lk rfl
  refine fn_of lk hcd S (fun vs H Q E h => ?_) (fun A outer s H vs Q E hr h => ?_)
  · obtain ⟨P0, M, ds, Φ, Ξ, wr, r, hs, _⟩ := h
    rw [r.len]; exact hlen _ _ _ _ hs
  · obtain ⟨P0, M, ds, Φ, Ξ, wr, r, hs, hq, _⟩ := h
    refine ⟨_, (hd f cdv A outer s H E ⟨c, Pt, e, TB, hT⟩ hr).nox, ?_⟩
    exact b.ok (hw ds M Φ Ξ hs) wr r.start ⟨fun ρ' σ' P' M' H' h1 s1 r1 => hq _ _ _ _ _ h1 s1 .non, fun v d P' M' H' h1 s1 r1 => hq _ _ _ _ _ h1 s1 r1, fun _ _ _ _ _ z _ _ => z.elim, fun _ _ _ _ _ z _ _ => z.elim⟩ (fun _ _ _ _ _ _ _ z _ _ => z.elim)
theorem clT {x : Str} {st : Stmt} {N ps : List Str} {k : Nat} {sp : Pm} (F : Df K mg x st) (t : TbD K mg base T x) (S : FnScope N ps (defScope st)) (b : XS K T) (hlen : ∀ ds M Φ Ξ, sp ds M Φ Ξ → ds.length = ps.length)
    (hb : ∀ (kV doc pm : Value) (an : Option Addr) (cdv ct : Value) (us : List Value), us.length = ps.length → bindArgs (PySem.W.fnOf x x (defArgs st) (defBody st) (defScope st) .none kV doc pm an cdv ct) ⟨us, []⟩ = pure (ps.zip us))
    (hd : ∀ (f : Addr) (cdv : Value) (A : Around) (outer : List Env) (s : Shared) (H : Hp) (E : XK), Tb base mg T cdv → Room k (A.deeper (envOfC x (defScope st) s.heap.objs.size f cdv)) →
      PSs (cxOf (L2.CX P w) P w K mg base N x (defScope st) f cdv A outer s H E).nox (defBody st) (b.t WX0))
    (hw : ∀ ds M Φ Ξ, sp ds M Φ Ξ → b.w (st0 N.length ds) M ⟨fun _ M' => Φ .non M', Φ, fun _ _ => False, fun _ _ => False⟩ (fun _ _ _ _ => False)) : Cl P w K mg base T (k + 1) x sp := by
  obtain ⟨f, fd, F, hm, hdf⟩ := F.ex
  exact ⟨f, fd, ps, fnT F hm t S b hlen hd hw, hm, F.kp, F.binds hb⟩
theorem fnL {x : Str} {st : Stmt} {f : Addr} {fd : FuncData} {N ps : List Str} {k : Nat} {sp : Pm} (F : Fun K x x st f fd) (hm : mg x = some (.ref f)) (t : TbL K mg base T x) (S : FnScope N ps (defScope st)) (b : XS K T) (hlen : ∀ ds M Φ Ξ, sp ds M Φ Ξ → ds.length = ps.length)
    (hd : ∀ (f : Addr) (cdv : Value) (A : Around) (outer : List Env) (s : Shared) (H : Hp) (E : XK), TlB base mg T cdv (x ++ ".<locals>." ++ "<lambda>") → Room k (A.deeper (envOfC x (defScope st) s.heap.objs.size f cdv)) →
      PSs (cxOf (L2.CX P w) P w K mg base N x (defScope st) f cdv A outer s H E).nox (defBody st) (b.t WX0))
    (hw : ∀ ds M Φ Ξ, sp ds M Φ Ξ → b.w (st0 N.length ds) M ⟨fun _ M' => Φ .non M', Φ, fun _ _ => False, fun _ _ => False⟩ (fun _ _ _ _ => False)) : FnOk P w K mg base (L2.CX P w) (k + 1) f fd ps (spOf K T sp) := by
  obtain ⟨oc, od, kV, doc, pm, an, cdv, ct, osl, rfl, lk, hcd⟩ := F.ex
  obtain ⟨f', c, Pt, hm', hc, TB, hT⟩ := t.ex
  rw [hm] at hm'
  cases hm'
  have e : cdv = .ref c := hc _ _ lk rfl
  refine fn_of lk hcd S (fun vs H Q E h => ?_) (fun A outer s H vs Q E hr h => ?_)
  · obtain ⟨P0, M, ds, Φ, Ξ, wr, r, hs, _⟩ := h
    rw [r.len]; exact hlen _ _ _ _ hs
  · obtain ⟨P0, M, ds, Φ, Ξ, wr, r, hs, hq, _⟩ := h
    refine ⟨_, (hd f cdv A outer s H E ⟨c, Pt, e, TB, hT⟩ hr).nox, ?_⟩
    exact b.ok (hw ds M Φ Ξ hs) wr r.start ⟨fun ρ' σ' P' M' H' h1 s1 r1 => hq _ _ _ _ _ h1 s1 .non, fun v d P' M' H' h1 s1 r1 => hq _ _ _ _ _ h1 s1 r1, fun _ _ _ _ _ z _ _ => z.elim, fun _ _ _ _ _ z _ _ => z.elim⟩ (fun _ _ _ _ _ _ _ z _ _ => z.elim)
theorem clL {x : Str} {st : Stmt} {N ps : List Str} {k : Nat} {sp : Pm} (F : Df K mg x st) (t : TbL K mg base T x) (S : FnScope N ps (defScope st)) (b : XS K T) (hlen : ∀ ds M Φ Ξ, sp ds M Φ Ξ → ds.length = ps.length)
    (hb : ∀ (kV doc pm : Value) (an : Option Addr) (cdv ct : Value) (us : List Value), us.length = ps.length → bindArgs (PySem.W.fnOf x x (defArgs st) (defBody st) (defScope st) .none kV doc pm an cdv ct) ⟨us, []⟩ = pure (ps.zip us))
    (hd : ∀ (f : Addr) (cdv : Value) (A : Around) (outer : List Env) (s : Shared) (H : Hp) (E : XK), TlB base mg T cdv (x ++ ".<locals>." ++ "<lambda>") → Room k (A.deeper (envOfC x (defScope st) s.heap.objs.size f cdv)) →
      PSs (cxOf (L2.CX P w) P w K mg base N x (defScope st) f cdv A outer s H E).nox (defBody st) (b.t WX0))
    (hw : ∀ ds M Φ Ξ, sp ds M Φ Ξ → b.w (st0 N.length ds) M ⟨fun _ M' => Φ .non M', Φ, fun _ _ => False, fun _ _ => False⟩ (fun _ _ _ _ => False)) : Cl P w K mg base T (k + 1) x sp := by
  obtain ⟨f, fd, F, hm, hdf⟩ := F.ex
  exact ⟨f, fd, ps, fnL F hm t S b hlen hd hw, hm, F.kp, F.binds hb⟩
end
/-- not an empty table -/
def noTab (o : Obj) : Bool := match o with
  | ⟨.none, none, .fields vs, _⟩ => !vs.isEmpty
  | _ => true
theorem look_mem {a : Addr} {o : Obj} : ∀ {l : List (Addr × Obj)}, l.lookup a = some o → (a, o) ∈ l
  | [], h => by cases h
  | (b, u) :: r, h => by
    rw [List.lookup_cons] at h
    cases e : a == b with
    | true =>
      rw [e] at h
      cases h
      rw [beq_iff_eq.mp e]
      exact List.mem_cons_self
    | false =>
      rw [e] at h
      exact List.mem_cons_of_mem _ (look_mem h)
/-- the tables of the defs in K are told apart -/
def tabP (K : PySem.W.Frag) (x : Str) : Option Addr := (PySem.W.tabIn K x).map Prod.snd
def tabsDj (K : PySem.W.Frag) (xs : List Str) : List Str → Bool
  | [] => true
  | y :: ys => (tabP K y).isSome && (xs.all fun x => (tabP K x).isSome && decide (tabP K x ≠ tabP K y)) && (ys.all fun x => (tabP K x).isSome && decide (tabP K x ≠ tabP K y)) && tabsDj K xs ys
theorem tabP_is {K : PySem.W.Frag} {h : Heap} {mg : Str → Option Value} {x : Str} {f c Pt : Addr} {o : Obj} {fd : FuncData} {p : Addr} (KX : K.In h) (G : h.Ns mainGlobals mg) (e1 : mg x = some (.ref f)) (e2 : h.get? f = some o) (e3 : o.data = .func fd) (e4 : fd.code = .ref c) (C : PySem.W.CodeHd h c Pt)
    (ht : tabP K x = some p) : Pt = p := by
  unfold tabP at ht
  cases q : PySem.W.tabIn K x with
  | none => rw [q] at ht; cases ht
  | some r =>
    rw [q] at ht; cases ht
    unfold PySem.W.tabIn at q
    split at q
    · rename_i f' hf
      have z1 := PySem.W.mg_of KX G hf
      rw [e1] at z1
      cases z1
      split at q
      · rename_i hfo
        have z2 := KX _ _ hfo
        rw [e2] at z2
        cases z2
        cases e3
        split at q
        · rename_i c2 hc
          rw [e4] at hc
          cases hc
          split at q
          · rename_i hco
            have z3 := KX _ _ hco
            obtain ⟨o', vs', _, _, _, _, _, _, _, g1, _, g3, g4, _⟩ := C
            rw [z3] at g1
            cases g1
            cases g3
            split at q
            · rename_i hp
              rw [g4] at hp
              cases hp
              cases q
              rfl
            · cases q
          · cases q
        · cases q
      · cases q
    · cases q
theorem tabsDj_x {K : PySem.W.Frag} {xs : List Str} : ∀ {ys : List Str}, tabsDj K xs ys = true → ∀ y ∈ ys, (tabP K y).isSome = true ∧ ∀ x ∈ xs, (tabP K x).isSome = true ∧ tabP K x ≠ tabP K y
  | y :: ys, h, z, hz => by
    unfold tabsDj at h
    simp only [Bool.and_eq_true, List.all_eq_true, decide_eq_true_eq] at h
    rcases List.mem_cons.mp hz with e | hz
    · subst e; exact ⟨h.1.1.1, fun x hx => h.1.1.2 x hx⟩
    · exact tabsDj_x h.2 z hz
theorem tabsDj_y {K : PySem.W.Frag} {xs : List Str} : ∀ {ys : List Str}, tabsDj K xs ys = true → ∀ y ∈ ys, ∀ z ∈ ys, tabP K y = tabP K z → y = z
  | y :: ys, h, a, ha, b, hb, e => by
    unfold tabsDj at h
    simp only [Bool.and_eq_true, List.all_eq_true, decide_eq_true_eq] at h
    rcases List.mem_cons.mp ha with ea | ha <;> rcases List.mem_cons.mp hb with eb | hb
    · rw [ea, eb]
    · rw [ea] at e; exact absurd e.symm (h.1.2 b hb).2
    · rw [eb] at e; exact absurd e (h.1.2 a ha).2
    · exact tabsDj_y h.2 a ha b hb e
theorem law_walkT {l : PySem.W.OpenLaw} {q : Program} {loose : List Str} {XP : (Str → Option Value) → Heap → Prop} {YP : World → Heap → Prop} {d : DefRec} {K : Params → PySem.W.Frag} {k : Nat} (xs ys : List Str) (hk : Room k callerA) (hn : l.most = some 63) (hdf : d.params.defaults = [])
    (hxs : (xs ++ ys).all (fun x => (recsOf q).any fun d => decide (d.name = x)) = true) (hdj : ∀ w : World, tabsDj (K w.params) xs ys = true) (hE : ∀ w : World, (K w.params).all (fun p => noTab p.2) = true) (hY : ∀ (w : World) (h : Heap), YP w h → (K w.params).In h)
    (F : ∀ (w : World) (mg : Str → Option Value) (fa : Addr) (h : Heap) (T : Tt), (K w.params).In h → h.Ns mainGlobals mg → mg d.name = some (.ref fa) →
      ∃ fd : FuncData, (∀ (s : Shared) (u : Value), BindsTo s fd ⟨[u], []⟩ [("script", u)]) ∧ ∀ base : Heap, (K w.params).In base → base.Ns mainGlobals mg → (∀ x ∈ xs, TbD (K w.params) mg base T x) → (∀ x ∈ ys, TbL (K w.params) mg base T x) → FnOk l.prog w (K w.params) mg base (L2.CX l.prog w) k fa fd ["script"] (spOf (K w.params) T spLaw)) :
    PySem.W.WalkO q loose XP YP l.row.toRowW d [] (fun f vs => PySem.call f vs) := by
  refine Att.attach_callB hn hdf fun w s₀ s₁ mg mb fa o pm cd doc a vs ns G Y ho hd hcd hmg hobj hints hlen hbits hg => ?_
  have KX := hY w _ Y
  have tabs : ∀ ys : List Str, (∀ x ∈ ys, ∃ d ∈ recsOf q, d.name = x) → ∃ cs : List (Addr × Addr × Str), (∀ p ∈ cs, s₁.heap.get? p.2.1 = some { cls := .none, data := .fields #[] } ∧ PySem.W.CodeHd s₁.heap p.1 p.2.1 ∧ p.2.2 ∈ ys ∧ ∀ a, tabP (K w.params) p.2.2 = some a → p.2.1 = a) ∧
      ∀ x ∈ ys, ∃ f c Pt, (c, Pt, x) ∈ cs ∧ mg x = some (.ref f) ∧ ∀ o fd, (K w.params).lookup f = some o → o.data = .func fd → fd.code = .ref c := by
    intro ys
    induction ys with
    | nil => exact fun _ => ⟨[], fun p hp => by (cases hp), fun x hx => by (cases hx)⟩
    | cons y ys ih =>
      intro hy
      obtain ⟨cs, h1, h2⟩ := ih fun x hx => hy x (List.mem_cons_of_mem _ hx)
      obtain ⟨d, hd, rfl⟩ := hy y List.mem_cons_self
      obtain ⟨f, o, fd, c, Pt, e1, e2, e3, e4, e5, e6⟩ := G.T.tab d hd
      refine ⟨(c, Pt, d.name) :: cs, fun p hp => ?_, fun x hx => ?_⟩
      · rcases List.mem_cons.mp hp with rfl | hp
        · exact ⟨e6.2, PySem.W.CodeHd.of e5 e6, List.mem_cons_self, fun a ha => tabP_is KX G.T.g e1 e2 e3 e4 (PySem.W.CodeHd.of e5 e6) ha⟩
        · obtain ⟨k1, k2, k3, k4⟩ := h1 p hp
          exact ⟨k1, k2, List.mem_cons_of_mem _ k3, k4⟩
      · rcases List.mem_cons.mp hx with rfl | hx
        · refine ⟨f, c, Pt, List.mem_cons_self, e1, fun o' fd' q1 q2 => ?_⟩
          have z := KX f o' q1
          rw [e2] at z
          cases z
          rw [e3] at q2
          cases q2
          exact e4
        · obtain ⟨f, c, Pt, m1, m2, m3⟩ := h2 x hx
          exact ⟨f, c, Pt, List.mem_cons_of_mem _ m1, m2, m3⟩
  have rec_of : ∀ x, x ∈ xs ++ ys → ∃ d ∈ recsOf q, d.name = x := fun x hx => by
    obtain ⟨d, hd, e⟩ := List.any_eq_true.mp (List.all_eq_true.mp hxs x hx)
    exact ⟨d, hd, of_decide_eq_true e⟩
  obtain ⟨cs, hcs, hx⟩ := tabs xs fun x hx => rec_of x (List.mem_append_left _ hx)
  obtain ⟨ls, hls, hy⟩ := tabs ys fun x hx => rec_of x (List.mem_append_right _ hx)
  have dj := hdj w
  obtain ⟨T, hTd⟩ : ∃ T : Tt, T = ⟨fun a => a ∈ cs.map (fun p => p.2.1), fun a q => ∃ p ∈ ls, p.2.1 = a ∧ q = p.2.2 ++ ".<locals>." ++ "<lambda>", fun a q ⟨p, hp, e, _⟩ hg => by
      obtain ⟨r, hr, e2⟩ := List.mem_map.mp hg
      obtain ⟨_, _, r3, r4⟩ := hcs r hr
      obtain ⟨_, _, p3, p4⟩ := hls p hp
      obtain ⟨t1, t2⟩ := tabsDj_x dj p.2.2 p3
      obtain ⟨t3, t4⟩ := t2 r.2.2 r3
      obtain ⟨a1, ha1⟩ := Option.isSome_iff_exists.mp t1
      obtain ⟨a2, ha2⟩ := Option.isSome_iff_exists.mp t3
      have z1 := p4 _ ha1
      have z2 := r4 _ ha2
      exact t4 (by rw [ha1, ha2, ← z1, ← z2, e, e2]),
    fun a q q' ⟨p, hp, e, eq⟩ ⟨p', hp', e', eq'⟩ => by
      obtain ⟨_, _, p3, p4⟩ := hls p hp
      obtain ⟨_, _, r3, r4⟩ := hls p' hp'
      obtain ⟨a1, ha1⟩ := Option.isSome_iff_exists.mp (tabsDj_x dj p.2.2 p3).1
      obtain ⟨a2, ha2⟩ := Option.isSome_iff_exists.mp (tabsDj_x dj p'.2.2 r3).1
      have z1 := p4 _ ha1
      have z2 := r4 _ ha2
      have := tabsDj_y dj p.2.2 p3 p'.2.2 r3 (by rw [ha1, ha2, ← z1, ← z2, e, e'])
      rw [eq, eq', this]⟩ := ⟨_, rfl⟩
  obtain ⟨fd, hb, hF⟩ := F w mg fa _ T KX G.T.g hmg
  obtain ⟨al, hal⟩ : ∃ al : List (Addr × Addr), al = (cs ++ ls).map fun p => (p.1, p.2.1) := ⟨_, rfl⟩
  have hal2 : ∀ p ∈ al, s₁.heap.get? p.2 = some { cls := .none, data := .fields #[] } ∧ PySem.W.CodeHd s₁.heap p.1 p.2 := fun p hp => by
    rw [hal] at hp
    obtain ⟨r, hr, e⟩ := List.mem_map.mp hp
    subst e
    rcases List.mem_append.mp hr with hr | hr
    · exact ⟨(hcs r hr).1, (hcs r hr).2.1⟩
    · exact ⟨(hls r hr).1, (hls r hr).2.1⟩
  have nT : ∀ p ∈ al, (K w.params).lookup p.2 = none := fun p hp => by
    cases e : (K w.params).lookup p.2 with
    | none => rfl
    | some o =>
      have z := KX _ _ e
      rw [(hal2 p hp).1] at z
      cases z
      have q := List.all_eq_true.mp (hE w) _ (look_mem e)
      cases q
  have memT : ∀ b, T b → b ∈ al.map (·.2) := fun b hb => by
    rw [hTd] at hb
    rw [hal, List.map_map]
    rcases hb with hb | ⟨q, p, hp, e, _⟩
    · obtain ⟨r, hr, e⟩ := List.mem_map.mp hb
      exact List.mem_map.mpr ⟨r, List.mem_append_left _ hr, e⟩
    · exact List.mem_map.mpr ⟨p, List.mem_append_right _ hp, e⟩
  refine LamX.law_callTs (cs := al) (sp := spOf (K w.params) T spLaw) KX G.T.g G.T.b G.T.builtins G.T.nolimit hg (fun p hp => (hal2 p hp).1) nT (fun p hp => (hal2 p hp).2) G.T.bmain hobj hints (Nat.le_trans hlen (by decide)) hk
    (fun base h1 h2 h3 => hF base h1 h2 (fun x hx' => ?_) fun x hx' => ?_) hb (fun H hH hS => ?_) fun H e s' ⟨_, _, _, _, _, _, _, _, _, _, _, _, z⟩ => z
  · obtain ⟨f, c, Pt, m1, m2, m3⟩ := hx x hx'
    have t := h3 (c, Pt) (by rw [hal]; exact List.mem_map.mpr ⟨_, List.mem_append_left _ m1, rfl⟩)
    exact ⟨f, c, Pt, m2, m3, ⟨t.code, t.bm, t.gP⟩, by rw [hTd]; exact List.mem_map.mpr ⟨_, m1, rfl⟩⟩
  · obtain ⟨f, c, Pt, m1, m2, m3⟩ := hy x hx'
    have t := h3 (c, Pt) (by rw [hal]; exact List.mem_map.mpr ⟨_, List.mem_append_right _ m1, rfl⟩)
    exact ⟨f, c, Pt, m2, m3, t, by rw [hTd]; exact ⟨_, m1, rfl, rfl⟩⟩
  · have isT : ∀ b, b ∈ al.map (·.2) → H b = some (.tbl #[]) := fun b hb => by
      obtain ⟨p, hp, e⟩ := List.mem_map.mp hb
      rw [← e]; exact hH p hp
    have ne : ∀ b u, H b = some u → (∀ ps, u ≠ .tbl ps) → (if b ∈ al.map (·.2) then none else H b) = some u := fun b u e n => by
      rw [if_neg fun z => by rw [isT b z] at e; cases e; exact n _ rfl]
      exact e
    have hS' : SqL (K w.params) (fun b => if b ∈ al.map (·.2) then none else H b) a (ns.map V.int) := by
      rcases hS with (h | ⟨o, h⟩) | h
      · exact .inl (.inl (ne _ _ h fun ps z => by cases z))
      · exact .inl (.inr ⟨o, ne _ _ h fun ps z => by cases z⟩)
      · exact .inr h
    refine ⟨fun b => if b ∈ al.map (·.2) then none else H b, fun _ => none, [.lsw (ns.map D.int)], fun d _ => d = .bl true, fun _ _ _ => False, ⟨fun b o e => ?_, fun _ _ h => by (cases h), fun _ _ h => by (cases h), fun b hb => ⟨⟨#[], isT b (memT b hb), trivial, fun q tq pos cv hc => by simp [codeAmong] at hc⟩, if_pos (memT b hb), rfl⟩⟩, .cons (.lsw hS' (repL_ints ns)) .nil, ⟨ns, rfl, hlen, fun _ => rfl⟩,
      fun v d P' M' H' e _ r => by subst e; exact r.toB, fun _ _ _ _ _ z _ => z⟩
    · by_cases hb : b ∈ al.map (·.2)
      · rw [if_pos hb] at e; cases e
      · rw [if_neg hb] at e; exact .inl e
end Ab

set_option Elab.async false
set_option linter.all false
set_option maxRecDepth 100000
set_option maxHeartbeats 2000000
namespace Ab
open PySem PySem.Spec PyProof.Rows L2
section
variable {K : PySem.W.Frag} {T : Tt}
/-! ### slices -/
structure XSl (K : PySem.W.Frag) (T : Tt) where
  r : V → Option Int → Option Int → Hp → VK → Prop
  w : D → Option Int → Option Int → Mh → (D → Mh → Prop) → Prop
  ok : ∀ {x lo hi M Φ}, w x lo hi M Φ → ∀ {P H v}, Wr K T P M H → Rep K P v x → ∀ {Q : VK}, (∀ v d P' M' H', Φ d M' → Step K T P M H P' M' H' → Rep K P' v d → Q v H') → r v lo hi H Q
/-- a slice's part -/
inductive XPt (K : PySem.W.Frag) (T : Tt) where | no | at (a : XE K T)
def XPt.t : XPt K T → WX → TO
  | .no, _ => tNoPart
  | .at a, W => tPart (a.t W)
def XPt.w (p : XPt K T) (ρ : Sl) (M : Mh) (k : Option Int → Mh → Prop) (Ξ : XP) : Prop := match p with
  | .no => k none M
  | .at a => a.w ρ M (fun d M1 => asI d fun i => k (some i) M1) Ξ
theorem XPt.ok {p : XPt K T} {W : WX} {ρ : Sl} {M : Mh} {k : Option Int → Mh → Prop} {Ξ : XP} (h : p.w ρ M k Ξ) {P : Hp} {σ : L2.St} {H : Hp} (wr : Wr K T P M H) (rs : RepS K P σ ρ) {Q : Option Int → Hp → Prop}
    (hq : ∀ o P' M' H', k o M' → Step K T P M H P' M' H' → Q o H') (hx : XH K T W P M H Ξ) : p.t W σ H Q := by
  cases p with
  | no => exact hq _ _ _ _ h (Step.refl wr)
  | «at» a => exact a.ok h wr rs (fun v d P1 M1 H1 h1 s1 r1 => by
      obtain ⟨i, rfl, h2⟩ := asI.get h1
      exact ⟨i, r1.toI, hq _ _ _ _ h2 s1⟩) hx
def xSl (o : XSl K T) (a : XE K T) (lo hi : XPt K T) : XE K T where
  t := fun W => tSl o.r (a.t W) (lo.t W) (hi.t W)
  w := fun ρ M Φ Ξ => a.w ρ M (fun x M1 => lo.w ρ M1 (fun l M2 => hi.w ρ M2 (fun u M3 => o.w x l u M3 Φ) Ξ) Ξ) Ξ
  ok := fun h P σ H wr rs Q hq hx => a.ok h wr rs (fun v x P1 M1 H1 h1 s1 r1 => XPt.ok h1 s1.wr (rs.mono s1.ex) (fun l P2 M2 H2 h2 s2 => XPt.ok h2 s2.wr (rs.mono (s1.trans s2).ex) (fun u P3 M3 H3 h3 s3 =>
    o.ok h3 s3.wr (r1.mono (s2.trans s3).ex) fun v d P4 M4 H4 h4 s4 r4 => hq v d P4 M4 H4 h4 (((s1.trans s2).trans s3).trans s4) r4) (hx.mono (s1.trans s2))) (hx.mono s1)) hx
/-- xs[lo:hi] -/
def cutD {α : Type} (xs : List α) (lo hi : Option Int) : List α := (xs.drop (HT.sIx xs.length 0 lo)).take (HT.sIx xs.length xs.length hi - HT.sIx xs.length 0 lo)
theorem RepL.cut {P : Hp} {vs : List V} {ds : List D} (r : RepL K P vs ds) (lo hi : Option Int) : RepL K P (cutV vs lo hi) (cutD ds lo hi) := by
  unfold cutV cutD
  rw [r.len]
  exact (r.drop _).take _
def lSlL : XSl K T where
  r := rSlL K
  w := fun x lo hi M Φ => asL x M fun ds => Φ (.lst (cutD ds lo hi)) M
  ok := fun h P H v wr r Q hq => by
    obtain ⟨ds, a, vs, h1, rfl, hs, hr⟩ := h.rd wr r
    exact ⟨a, vs, rfl, hs, fun p hp => let s := Step.newP wr (o := .lst (cutV vs _ _)) hp; hq _ _ _ _ _ h1 s (.lst upd_same (RepL.mono s.ex (hr.cut _ _)))⟩
def lSlT : XSl K T where
  r := rSlA K
  w := fun x lo hi M Φ => asT x fun ds => Φ (.tup (cutD ds lo hi)) M
  ok := fun {x lo hi M Φ} h P H v wr r Q hq => by
    obtain ⟨ds, rfl, h1⟩ := h.get
    obtain ⟨a, vs, rfl, hs, hr⟩ := r.toTt
    refine ⟨a, vs, rfl, wr.st (SqT.of hs), fun e => ?_, fun _ p hp => ?_⟩
    · have q : cutD ds lo hi = ds := by
        unfold cutD
        rw [hr.len] at e
        rw [e.1, e.2]
        simp
      rw [q] at h1
      exact hq _ _ _ _ _ h1 (Step.refl wr) (.tup hs hr)
    · have s := Step.newP wr (o := .tup (cutV vs lo hi)) hp
      exact hq _ _ _ _ _ h1 s (.tup upd_same (RepL.mono s.ex (hr.cut _ _)))
def lSlS : XSl K T where
  r := rSlS
  w := fun x lo hi M Φ => asS x fun z => z.length ≤ 100000 ∧ Φ (.str (cutS z lo hi)) M
  ok := fun h P H v wr r Q hq => by
    obtain ⟨z, rfl, h1, h2⟩ := h.get
    exact ⟨z, r.toS, sz_of h1, hq _ _ _ _ _ h2 (Step.refl wr) (.str _)⟩
/-! ### more walks -/
/-- a text's signs -/
def signs (s : Str) : List D := s.cps.toList.map fun c => .str ⟨#[c]⟩
def iS (a : XE K T) : XI K T where
  t := fun W => iStr (a.t W)
  w := fun ρ M Φ Ξ => a.w ρ M (fun d M1 => asS d fun s => Φ (signs s) (fun _ => True) M1) Ξ
  ok := fun h P σ H wr rs R hq hx => a.ok h wr rs (fun v d P1 M1 H1 h1 s1 r1 => by
    obtain ⟨x, rfl, h2⟩ := asS.get h1
    refine ⟨x, r1.toS, hq _ _ _ P1 M1 H1 h2 s1 fun P2 M2 H2 s2 _ => ⟨fun i d e => ?_, ?_⟩⟩
    · unfold signs at e
      rw [List.getElem?_map] at e
      cases e1 : x.cps.toList[i]? with
      | none => rw [e1] at e; cases e
      | some c =>
        rw [e1] at e
        cases e
        have hl := (List.getElem?_eq_some_iff.mp e1).1
        refine ⟨(by simpa using hl : i < x.cps.size), fun v H3 y => ?_⟩
        obtain ⟨e3, c', e4, e5⟩ := y
        subst e3 e5
        rw [Array.getElem?_toList] at e1
        rw [e1] at e4
        cases e4
        exact ⟨P2, Step.refl s2.wr, .str _⟩
    · show x.cps.size ≤ (signs x).length
      simp [signs]) hx
/-- zip of two lists that do not change -/
def zipD : List D → List D → List D
  | x :: xs, y :: ys => .tup [x, y] :: zipD xs ys
  | _, _ => []
theorem zipD_len : ∀ (xs ys : List D), (zipD xs ys).length = min xs.length ys.length
  | [], _ => by simp [zipD]
  | _ :: _, [] => by simp [zipD]
  | x :: xs, y :: ys => by simp only [zipD, List.length_cons, zipD_len xs ys]; omega
theorem zipD_get : ∀ {xs ys : List D} {i : Nat} {d : D}, (zipD xs ys)[i]? = some d → ∃ x y, xs[i]? = some x ∧ ys[i]? = some y ∧ d = .tup [x, y]
  | [], _, _, _, h => by simp [zipD] at h
  | _ :: _, [], _, _, h => by simp [zipD] at h
  | x :: xs, y :: ys, 0, d, h => by simp only [zipD, List.getElem?_cons_zero, Option.some.injEq] at h; exact ⟨x, y, rfl, rfl, h.symm⟩
  | x :: xs, y :: ys, i + 1, d, h => by
    simp only [zipD, List.getElem?_cons_succ] at h
    simpa using zipD_get h
/-- the items of a list that does not change -/
def asPl (d : D) (k : List D → Prop) : Prop := match d with | .lst ds => k ds | .lsw ds => k ds | _ => False
theorem asPl.rd {P : Hp} {M : Mh} {H : Hp} {v : V} {d : D} {k : List D → Prop} (h : asPl d k) (w : Wr K T P M H) (r : Rep K P v d) : ∃ ds a vs, k ds ∧ v = .ref a ∧ SqL K P a vs ∧ RepL K P vs ds := by
  cases d with
  | lst ds =>
    obtain ⟨b, vs, e, hs, hr⟩ := r.toL
    exact ⟨ds, b, vs, h, e, SqL.of hs, hr⟩
  | lsw ds =>
    obtain ⟨b, vs, e, hs, hr⟩ := r.toLw
    exact ⟨ds, b, vs, h, e, hs, hr⟩
  | _ => exact h.elim
def iZ (a b : XE K T) : XI K T where
  t := fun W => iZip K (tCons (a.t W) (tCons (b.t W) tNil))
  w := fun ρ M Φ Ξ => a.w ρ M (fun x M1 => asPl x fun xs => b.w ρ M1 (fun y M2 => asPl y fun ys => Φ (zipD xs ys) (fun _ => True) M2) Ξ) Ξ
  ok := fun h P σ H wr rs R hq hx => a.ok h wr rs (fun v d P1 M1 H1 h1 s1 r1 => by
    obtain ⟨xs, p, vs, h2, rfl, hs, hr⟩ := h1.rd s1.wr r1
    exact b.ok h2 s1.wr (rs.mono s1.ex) (fun u e P2 M2 H2 h3 s2 r2 => by
      obtain ⟨ys, p2, us, h4, rfl, ht, hu⟩ := h3.rd s2.wr r2
      refine ⟨p, p2, vs, us, rfl, s2.wr.sl (s2.ex.sl hs), s2.wr.sl ht, hq _ _ _ P2 M2 H2 h4 (s1.trans s2) fun P3 M3 H3 s3 _ => ⟨fun i d e => ?_, ?_⟩⟩
      · obtain ⟨x, y, e1, e2, rfl⟩ := zipD_get e
        obtain ⟨v1, f1, g1⟩ := hr.getd e1
        obtain ⟨v2, f2, g2⟩ := hu.getd e2
        have hs3 : SqL K H3 p vs := s3.wr.sl ((s2.ex.trans s3.ex).sl hs)
        have ht3 : SqL K H3 p2 us := s3.wr.sl (s3.ex.sl ht)
        refine ⟨⟨vs, us, v1, v2, hs3, ht3, f1, f2⟩, fun z H4 hy => ?_⟩
        obtain ⟨t, x1, x2, rfl, hn, rfl, q1, q2⟩ := hy
        have w1 := q1 vs hs3
        have w2 := q2 us ht3
        rw [f1] at w1; cases w1
        rw [f2] at w2; cases w2
        have s4 := Step.newP s3.wr (o := .tup [v1, v2]) hn
        exact ⟨_, s4, .tup upd_same (.cons (g1.mono ((s2.ex.trans s3.ex).trans s4.ex)) (.cons (g2.mono (s3.ex.trans s4.ex)) .nil))⟩
      · refine ⟨vs, us, s3.wr.sl ((s2.ex.trans s3.ex).sl hs), s3.wr.sl (s3.ex.sl ht), ?_⟩
        rw [zipD_len, hr.len, hu.len]
        omega) (hx.mono s1)) hx
/-! ### more operations -/
def oInS : XO K T where
  r := rInS
  w := fun x y M Φ => asS x fun a => asS y fun b => ∃ c, a = ⟨#[c]⟩ ∧ Φ (.bl (decide (c ∈ b.cps.toList))) M
  ok := fun h P H vx vy wr rx ry Q hq => by
    obtain ⟨i, rfl, h1⟩ := h.get
    obtain ⟨j, rfl, c, rfl, h3⟩ := asS.get h1
    exact ⟨c, j, rx.toS, ry.toS, hq _ _ _ _ _ h3 (Step.refl wr) (.bl _)⟩
def oNotInS : XO K T where
  r := rNotInS
  w := fun x y M Φ => asS x fun a => asS y fun b => ∃ c, a = ⟨#[c]⟩ ∧ Φ (.bl (!decide (c ∈ b.cps.toList))) M
  ok := fun h P H vx vy wr rx ry Q hq => by
    obtain ⟨i, rfl, h1⟩ := h.get
    obtain ⟨j, rfl, c, rfl, h3⟩ := asS.get h1
    exact ⟨c, j, rx.toS, ry.toS, hq _ _ _ _ _ h3 (Step.refl wr) (.bl _)⟩
end
/-! ### nested data, compared -/
mutual
def dP : D → Option PyData
  | .non => some .none
  | .bl b => some (.bool b)
  | .int i => some (.int i)
  | .str s => some (.str s)
  | .tup ds => (dPs ds).map .tuple
  | .lst ds => (dPs ds).map .list
  | .lsw ds => (dPs ds).map .list
  | _ => none
def dPs : List D → Option (List PyData)
  | [] => some []
  | d :: r => match dP d, dPs r with | some x, some xs => some (x :: xs) | _, _ => none
end
section
variable {K : PySem.W.Frag} {T : Tt}
mutual
theorem dP_rep {P : Hp} {M : Mh} {H : Hp} (w : Wr K T P M H) : ∀ {v : V} {d : D} {x : PyData}, Rep K P v d → dP d = some x → Dp K H v x
  | _, _, _, .non, h => by unfold dP at h; cases h; exact .non
  | _, _, _, .bl b, h => by unfold dP at h; cases h; exact .bl b
  | _, _, _, .int b, h => by unfold dP at h; cases h; exact .int b
  | _, _, _, .str b, h => by unfold dP at h; cases h; exact .str b
  | _, _, _, .ref a, h => by unfold dP at h; cases h
  | _, _, _, .ty a, h => by unfold dP at h; cases h
  | _, _, _, .dct _ _ _, h => by unfold dP at h; cases h
  | _, _, _, .tup (ds := ds) hs hr, h => by
    unfold dP at h
    cases e : dPs ds with
    | none => rw [e] at h; cases h
    | some xs => rw [e] at h; cases h; exact .tup (w.st (SqT.of hs)) (dPs_rep w hr e)
  | _, _, _, .lst (ds := ds) hs hr, h => by
    unfold dP at h
    cases e : dPs ds with
    | none => rw [e] at h; cases h
    | some xs => rw [e] at h; cases h; exact .lst (w.sl (SqL.of hs)) (dPs_rep w hr e)
  | _, _, _, .lsw (ds := ds) hs hr, h => by
    unfold dP at h
    cases e : dPs ds with
    | none => rw [e] at h; cases h
    | some xs => rw [e] at h; cases h; exact .lst (w.sl hs) (dPs_rep w hr e)
theorem dPs_rep {P : Hp} {M : Mh} {H : Hp} (w : Wr K T P M H) : ∀ {vs : List V} {ds : List D} {xs : List PyData}, RepL K P vs ds → dPs ds = some xs → DpAll K H vs xs
  | _, _, _, .nil, h => by unfold dPs at h; cases h; exact .nil
  | _, _, _, .cons (d := d) (ds := ds) r t, h => by
    unfold dPs at h
    cases e1 : dP d with
    | none => rw [e1] at h; cases h
    | some x =>
      cases e2 : dPs ds with
      | none => rw [e1, e2] at h; cases h
      | some xs => rw [e1, e2] at h; cases h; exact .cons (dP_rep w r e1) (dPs_rep w t e2)
end
/-- as nested data; a list that changes, at the top -/
def asPy (d : D) (M : Mh) (k : PyData → Prop) : Prop := match d with
  | .ref p => mL M p fun ds => ∃ xs, dPs ds = some xs ∧ k (.list xs)
  | d => ∃ x, dP d = some x ∧ k x
theorem asPy.rd {P : Hp} {M : Mh} {H : Hp} {v : V} {d : D} {k : PyData → Prop} (h : asPy d M k) (w : Wr K T P M H) (r : Rep K P v d) : ∃ x, Dp K H v x ∧ k x := by
  have oth : (∃ x, dP d = some x ∧ k x) → ∃ x, Dp K H v x ∧ k x := fun ⟨x, e, q⟩ => ⟨x, dP_rep w r e, q⟩
  cases d with
  | ref p =>
    obtain ⟨ds, hm, xs, e, q⟩ := mL.get h
    obtain ⟨o, ho, rm⟩ := w.chg _ _ hm
    cases rm with
    | lst hr =>
      rw [r.toR]
      exact ⟨_, .lst (SqL.of ho) (dPs_rep w hr e), q⟩
  | _ => exact oth h
def oEqD : XO K T where
  r := rEqD K
  w := fun x y M Φ => asPy x M fun a => asPy y M fun b => SeqAt.shaped a = true ∧ SeqAt.shaped b = true ∧ Φ (.bl (PyData.eqv a b)) M
  ok := fun h P H vx vy wr rx ry Q hq => by
    obtain ⟨a, h1, h2⟩ := asPy.rd h wr rx
    obtain ⟨b, h3, h4, h5, h6⟩ := asPy.rd h2 wr ry
    exact ⟨a, b, h1, h3, h4, h5, hq _ _ _ _ _ h6 (Step.refl wr) (.bl _)⟩
/-! ### more builtins -/
theorem strs_gt {prog : Program} {w : World} {A : Around} {P : Nat → Value → Prop} (val : Nat → Str) (hval : ∀ i v, P i v → ∃ t, v = .str (val i) t) :
    CmpOf prog w A .Gt P (fun i j => decide ((val j).cps.toList < (val i).cps.toList)) := fun i j vi vj s Q E hi hj h => by
  obtain ⟨t, rfl⟩ := hval i vi hi
  obtain ⟨u, rfl⟩ := hval j vj hj
  exact richCompare_gives (op := .Gt) (typeIs_str s _ t) (typeIs_str s _ u) F.slot_str_gt F.entry_str_gt (F.args_str_gt_2 _ _) (gives_str_gt _ _ t u) (fun x => nomatch x) h
theorem max_two_strs {prog : Program} {w : World} {A : Around} {E : Value → Shared → Prop} {s : Shared} {a b : Str} {t u : Tok} {Q : Value → Shared → Prop} (hh : A.handled = none)
    (h : ∀ h' tk, (∀ c o, s.heap.get? c = some o → h'.get? c = some o) → Q (if a.cps.toList < b.cps.toList then .str b u else .str a t) { s with heap := h', toks := tk }) :
    wpAny (model prog w) A (call (.builtin "max") [.str a t, .str b u]) Q E s := by
  have hT : (s.heap.push { cls := .type "tuple", data := .seq #[.str a t, .str b u] }).IsTuple s.heap.objs.size #[.str a t, .str b u] := ⟨_, Heap.get?_push_size _ rfl, rfl, 0, rfl⟩
  refine call_max_two (wpAny_pyIter_tuple hT ?_)
  have hsz : (s.heap.push { cls := .type "tuple", data := .seq #[.str a t, .str b u] }).objs.size = s.heap.objs.size + 1 := Heap.size_push ..
  refine ⟨_, [_, s.heap.objs.size], [_], _, _, _, _, rfl, Walks.tuple (A := A.in1) hh _ s.heap.objs.size (by rw [hsz]; exact Nat.ne_of_lt (Nat.lt_succ_self _)) #[.str a t, .str b u],
    ⟨⟨_, Heap.get?_push_size _ rfl, rfl, rfl⟩, hT.push _⟩, fun c hc => ?_, by simp, strs_gt (fun i => if i = 0 then a else b) (fun i v hv => ?_), fun v h' tk hP hk => ?_⟩
  · show c < ((s.heap.push _).push _).objs.size
    rw [Heap.size_push, hsz]
    rcases List.mem_cons.mp hc with rfl | hc
    · rw [hsz]; exact Nat.lt_succ_self _
    · rcases List.mem_cons.mp hc with rfl | hc
      · exact Nat.lt_succ_of_lt (Nat.lt_succ_self _)
      · cases hc
  · match i, hv with
    | 0, hv => exact ⟨t, by simpa using hv.symm⟩
    | 1, hv => exact ⟨u, by simpa using hv.symm⟩
    | n + 2, hv => simp at hv
  · have hold : ∀ c o, s.heap.get? c = some o → h'.get? c = some o := fun c o e => by
      refine hk c o (fun hm => ?_) (Heap.get?_push_of_some _ (Heap.get?_push_of_some _ e))
      rcases List.mem_cons.mp hm with e1 | hm
      · have := Heap.lt_size e; rw [e1, hsz] at this; exact Nat.lt_irrefl _ (Nat.lt_of_succ_lt this)
      · cases hm
    have q := h h' tk hold
    have hv : v = if a.cps.toList < b.cps.toList then Value.str b u else Value.str a t := by
      have hP' : (#[.str a t, .str b u] : Array Value)[argBest (fun i j => decide (((fun i => if i = 0 then a else b) j : Str).cps.toList < ((fun i => if i = 0 then a else b) i : Str).cps.toList)) 1]? = some v := hP
      by_cases hba : a.cps.toList < b.cps.toList
      · have e : argBest (fun i j => decide (((fun i => if i = 0 then a else b) j : Str).cps.toList < ((fun i => if i = 0 then a else b) i : Str).cps.toList)) 1 = 1 := by simp [argBest, hba]
        rw [e] at hP'
        rw [if_pos hba]
        simpa using hP'.symm
      · have e : argBest (fun i j => decide (((fun i => if i = 0 then a else b) j : Str).cps.toList < ((fun i => if i = 0 then a else b) i : Str).cps.toList)) 1 = 0 := by simp [argBest, hba]
        rw [e] at hP'
        rw [if_neg hba]
        simpa using hP'.symm
    rw [hv]; exact q
def arg2 (ds : List D) (k : D → D → Prop) : Prop := match ds with | [a, b] => k a b | _ => False
theorem arg2.get {ds : List D} {k : D → D → Prop} (h : arg2 ds k) : ∃ a b, ds = [a, b] ∧ k a b := by
  match ds, h with
  | [a, b], h => exact ⟨a, b, rfl, h⟩
theorem RepL.two {P : Hp} {vs : List V} {d e : D} (r : RepL K P vs [d, e]) : ∃ v u, vs = [v, u] ∧ Rep K P v d ∧ Rep K P u e := by
  cases r with
  | cons a b =>
    cases b with
    | cons c t => cases t; exact ⟨_, _, rfl, a, c⟩
def rMax2S : List V → Hp → VK → Prop := fun xs H Q => ∃ i j : Str, xs = [.str i, .str j] ∧ Q (.str (if i.cps.toList < j.cps.toList then j else i)) H
theorem call_max2S {X : Cx} (hc : X.calm = true) : CallR X (.builtin "max") rMax2S := by
  intro pins s σ H xs us Q I r h
  obtain ⟨i, j, rfl, q⟩ := h
  obtain ⟨u, w', rfl, ⟨t, rfl⟩, ⟨t', rfl⟩⟩ := vals2 r
  refine max_two_strs (I.ok.hd hc) fun h' tk k => ⟨_, H, I.kept k, ?_, q⟩
  by_cases hj : i.cps.toList < j.cps.toList
  · rw [if_pos hj, if_pos hj]; exact ⟨_, rfl⟩
  · rw [if_neg hj, if_neg hj]; exact ⟨_, rfl⟩
def bMax2S : XB K T where
  r := rMax2S
  w := fun ds M Φ => arg2 ds fun x y => asS x fun a => asS y fun b => Φ (.str (if a.cps.toList < b.cps.toList then b else a)) M
  ok := fun h P H vs wr r Q hq => by
    obtain ⟨x, y, rfl, h1⟩ := h.get
    obtain ⟨v, u, rfl, r1, r2⟩ := RepL.two r
    obtain ⟨a, rfl, h2⟩ := asS.get h1
    obtain ⟨b, rfl, h3⟩ := asS.get h2
    exact ⟨a, b, by rw [r1.toS, r2.toS], hq _ _ _ _ _ h3 (Step.refl wr) (.str _)⟩
def bMax2 : XB K T where
  r := fun xs H Q => ∃ i j, xs = [.int i, .int j] ∧ Q (.int (if j > i then j else i)) H
  w := fun ds M Φ => arg2 ds fun x y => asI x fun a => asI y fun b => Φ (.int (if b > a then b else a)) M
  ok := fun h P H vs wr r Q hq => by
    obtain ⟨x, y, rfl, h1⟩ := h.get
    obtain ⟨v, u, rfl, r1, r2⟩ := RepL.two r
    obtain ⟨a, rfl, h2⟩ := asI.get h1
    obtain ⟨b, rfl, h3⟩ := asI.get h2
    exact ⟨a, b, by rw [r1.toI, r2.toI], hq _ _ _ _ _ h3 (Step.refl wr) (.int _)⟩
/-- a.join(xs) -/
def rJn (K : PySem.W.Frag) : V → List V → Hp → VK → Prop := fun x xs H Q => ∃ a p, ∃ ys : List Str, x = .str a ∧ xs = [.ref p] ∧ (SqL K H p (ys.map V.str) ∨ SqT K H p (ys.map V.str)) ∧ (ys.map (·.length)).sum + ys.length * a.length ≤ 16777216 ∧ Q (.str (Txt.join a ys)) H
def xJoin (o a : XE K T) : XE K T where
  t := fun W => tM1 (rJn K) (o.t W) (a.t W)
  w := fun ρ M Φ Ξ => o.w ρ M (fun x M1 => asS x fun z => a.w ρ M1 (fun y M2 => asQ y M2 fun ds => asTx ds fun ys => (ys.map (·.length)).sum + ys.length * z.length ≤ 1000000 ∧ Φ (.str (Txt.join z ys)) M2) Ξ) Ξ
  ok := fun h P σ H wr rs Q hq hx => o.ok h wr rs (fun v x P1 M1 H1 h1 s1 r1 => by
    obtain ⟨z, rfl, h2⟩ := asS.get h1
    refine ⟨⟨z, r1.toS⟩, a.ok h2 s1.wr (rs.mono s1.ex) (fun u y P2 M2 H2 h3 s2 r2 => ?_) (hx.mono s1)⟩
    obtain ⟨ds, b, us, h4, rfl, hs, hr⟩ := h3.rd s2.wr r2
    unfold asTx at h4
    cases e : txts ds with
    | none => rw [e] at h4; exact h4.elim
    | some ys =>
      rw [e] at h4
      have e2 := txts_rep hr e
      subst e2
      exact ⟨z, b, ys, r1.toS, rfl, hs, Nat.le_trans h4.1 (by decide), hq _ _ _ _ _ h4.2 (s1.trans s2) (.str _)⟩) hx
end
section
variable {X : Cx} {W : WX} {T : Tt} {pos : Pos} {a b : XE X.K T} {ea eb : Expr} {lo hi : Option Expr} {pl ph : XPt X.K T}
theorem dNo : PO X none ((XPt.no (K := X.K) (T := T)).t W) := po_none
theorem dAt (h : PE X ea (a.t W)) : PO X (some ea) ((XPt.at a).t W) := po_some h
theorem dSl {o : XSl X.K T} {p2 : Pos} (hr : SlR X o.r) (h : PE X ea (a.t W)) (hl : PO X lo (pl.t W)) (hu : PO X hi (ph.t W)) : PE X (.Subscript ea (.Slice lo hi none p2) pos) ((xSl o a pl ph).t W) := pe_slice hr h hl hu
theorem diS {tg : Expr} (h : PE X ea (a.t W)) : PI X tg ea ((iS a).t W) := pi_str h
theorem diZ {p tpos : Pos} {elts : List Expr} {kk : Nat} (hm : X.mg "zip" = none) (ha : PE X ea (a.t W)) (hb : PE X eb (b.t W)) (hg : Gl X "zip" := by rfl)
    (h1 : starEach [ea, eb] X.env = (false, eval ea X.env) :: starEach [eb] X.env := by rfl) (h2 : starEach [eb] X.env = (false, eval eb X.env) :: starEach [] X.env := by rfl) (hpl : (backTo pos (starEach [eb] X.env)).any (·.1) = false := by rfl) :
    PI X (.Tuple elts kk tpos) (.Call (.Name "zip" p) [ea, eb] [] pos) ((iZ a b).t W) := pi_zip hg hm (pa_cons ha (pa_cons hb pa_nil h2) h1) h1 hpl
theorem dJoin {apos : Pos} (ho : PE X ea (a.t W)) (he : PE X eb (b.t W)) (hs : starEach [eb] X.env = [(false, eval eb X.env)] := by rfl) (hbase : attributeBase ea "join" X.env (eval ea X.env) = eval ea X.env := by rfl) (hline : (apos.endLine == pos.line) = true := by rfl) :
    PE X (.Call (.Attribute ea "join" apos) [eb] [] pos) ((xJoin a b).t W) := pe_join ho he hs hbase hline
end
section
variable {d e x y : D} {k2 : D → D → Prop} {ds : List D} {kl : List D → Prop} {M : Mh}
theorem arg2_ : arg2 [d, e] k2 = k2 d e := rfl
theorem asPl_1 : asPl (.lst ds) kl = kl ds := rfl
theorem asPl_2 : asPl (.lsw ds) kl = kl ds := rfl
end
theorem un64 {k : Nat} {A : Around} (r : Room k A) : A.units + 64 < cLine := by have := r.un; omega
end Ab

set_option Elab.async false
set_option linter.all false
set_option maxRecDepth 100000
set_option maxHeartbeats 2000000
namespace Ab
open PySem PySem.Spec PyProof.Rows L2
section
variable {K : PySem.W.Frag} {T : Tt}
/-! ### instances -/
def mI (M : Mh) (p : Addr) (k : Addr → Addr → List (Str × D) → Prop) : Prop := match M p with | some (.ins C dx fs) => k C dx fs | _ => False
theorem mI.get {M : Mh} {p : Addr} {k : Addr → Addr → List (Str × D) → Prop} (h : mI M p k) : ∃ C dx fs, M p = some (.ins C dx fs) ∧ k C dx fs := by
  unfold mI at h
  split at h
  · exact ⟨_, _, _, by assumption, h⟩
  · exact h.elim
theorem mI_of {M : Mh} {p C dx : Addr} {fs : List (Str × D)} {k : Addr → Addr → List (Str × D) → Prop} (h : M p = some (.ins C dx fs)) : mI M p k = k C dx fs := by unfold mI; rw [h]
def putD (f : Str) (d : D) : List (Str × D) → List (Str × D)
  | [] => [(f, d)]
  | (g, x) :: r => if g = f then (g, d) :: r else (g, x) :: putD f d r
theorem put_rep {P : Hp} {f : Str} {v : V} {d : D} (r : Rep K P v d) : ∀ {fv : List (Str × V)} {fs : List (Str × D)}, fv.map Prod.fst = fs.map Prod.fst → RepL K P (fv.map Prod.snd) (fs.map Prod.snd) →
    (putF f v fv).map Prod.fst = (putD f d fs).map Prod.fst ∧ RepL K P ((putF f v fv).map Prod.snd) ((putD f d fs).map Prod.snd)
  | [], [], _, _ => ⟨rfl, .cons r .nil⟩
  | [], _ :: _, h, _ => by cases h
  | _ :: _, [], h, _ => by cases h
  | (g, x) :: fv, (g', y) :: fs, h, hr => by
    have h1 : g = g' := (List.cons.inj h).1
    have h2 : fv.map Prod.fst = fs.map Prod.fst := (List.cons.inj h).2
    subst h1
    cases hr with
    | cons r1 rr =>
      unfold putF putD
      by_cases e : g = f
      · rw [if_pos e, if_pos e]
        exact ⟨by show g :: _ = g :: _; rw [h2], .cons r rr⟩
      · rw [if_neg e, if_neg e]
        obtain ⟨q1, q2⟩ := put_rep r h2 rr
        exact ⟨by show g :: _ = g :: _; rw [q1], .cons r1 q2⟩
theorem look_rep {P : Hp} {f : Str} {d : D} : ∀ {fv : List (Str × V)} {fs : List (Str × D)}, fv.map Prod.fst = fs.map Prod.fst → RepL K P (fv.map Prod.snd) (fs.map Prod.snd) → fs.lookup f = some d → ∃ v, fv.lookup f = some v ∧ Rep K P v d
  | [], [], _, _, h => by cases h
  | [], _ :: _, h, _, _ => by cases h
  | _ :: _, [], h, _, _ => by cases h
  | (g, x) :: fv, (g', y) :: fs, h, hr, hl => by
    have h1 : g = g' := (List.cons.inj h).1
    have h2 : fv.map Prod.fst = fs.map Prod.fst := (List.cons.inj h).2
    subst h1
    cases hr with
    | cons r1 rr =>
      rw [List.lookup_cons] at hl ⊢
      cases e : f == g with
      | true => rw [e] at hl; cases hl; exact ⟨x, rfl, r1⟩
      | false => rw [e] at hl; exact look_rep h2 rr hl
theorem look_none {P : Hp} {f : Str} : ∀ {fv : List (Str × V)} {fs : List (Str × D)}, fv.map Prod.fst = fs.map Prod.fst → fs.lookup f = none → fv.lookup f = none
  | [], _, _, _ => rfl
  | _ :: _, [], h, _ => by cases h
  | (g, x) :: fv, (g', y) :: fs, h, hl => by
    have h1 : g = g' := (List.cons.inj h).1
    have h2 : fv.map Prod.fst = fs.map Prod.fst := (List.cons.inj h).2
    subst h1
    rw [List.lookup_cons] at hl ⊢
    cases e : f == g with
    | true => rw [e] at hl; cases hl
    | false => rw [e] at hl; exact look_none (P := P) h2 hl
/-- e.f -/
def fldD (fs : List (Str × D)) (f : Str) (k : D → Prop) : Prop := match fs.lookup f with | some d => k d | none => False
def xFld (f : Str) (a : XE K T) : XE K T where
  t := fun W => tFld K (a.t W) f
  w := fun ρ M Φ Ξ => a.w ρ M (fun x M1 => asR x fun p => mI M1 p fun C _ fs => Cls K C ∧ NoAttr K C f ∧ fldD fs f fun d => Φ d M1) Ξ
  ok := fun h P σ H wr rs Q hq hx => a.ok h wr rs (fun v x P1 M1 H1 h1 s1 r1 => by
    obtain ⟨p, rfl, h2⟩ := asR.get h1
    obtain ⟨C, dx, fs, hm, c, n, h3⟩ := h2.get
    obtain ⟨o, ho, rm⟩ := s1.wr.chg _ _ hm
    unfold fldD at h3
    cases e : fs.lookup f with
    | none => rw [e] at h3; exact h3.elim
    | some d =>
      rw [e] at h3
      cases rm with
      | ins hk hr =>
        obtain ⟨u, e2, r2⟩ := look_rep hk hr e
        exact ⟨p, C, dx, _, u, r1.toR, ho, c, n, e2, hq _ _ _ _ _ h3 s1 r2⟩) hx
/-- o.f = e -/
def sSetF (f : Str) (o a : XE K T) : XS K T where
  t := fun W => L2.sFld K (o.t W) (a.t W) f
  w := fun ρ M ε Ξ => a.w ρ M (fun y M1 => o.w ρ M1 (fun x M2 => asR x fun p => mI M2 p fun C dx fs => Cls K C ∧ NoAttr K C f ∧ fs.length < 1000 ∧ ε.nx ρ (um M2 p (.ins C dx (putD f y fs)))) Ξ) Ξ
  ok := fun {W ρ M ε Ξ} h P σ H wr rs Dn hd hx => a.ok h wr rs (fun v y P1 M1 H1 h1 s1 r1 => o.ok h1 s1.wr (rs.mono s1.ex) (fun u x P2 M2 H2 h2 s2 r2 => by
    obtain ⟨p, rfl, h3⟩ := asR.get h2
    obtain ⟨C, dx, fs, hm, c, n, hl, h4⟩ := h3.get
    obtain ⟨ob, ho, rm⟩ := s2.wr.chg _ _ hm
    cases rm with
    | @ins _ _ fv _ hk hr =>
      obtain ⟨q1, q2⟩ := put_rep (f := f) (r1.mono s2.ex) hk hr
      have hlen : fv.length = fs.length := by have := congrArg List.length hk; simpa using this
      have s3 := Step.put (o := .ins C dx (putF f v fv)) s2.wr hm (.ins (dx := dx) (C := C) q1 q2)
      exact ⟨p, C, dx, fv, r2.toR, ho, c, n, by rw [hlen]; exact hl, hd.nx _ _ _ _ _ h4 ((s1.trans s2).trans s3) (rs.mono ((s1.trans s2).trans s3).ex)⟩) (hx.mono s1)) hx
/-- o.m(..) of an instance of the class at C -/
def tMethS (C : Addr) (m : Str) (sp : Sp) (E : L2.St → XK) (ta : TE) (t : TA) : TE := fun σ H Q => ta σ H fun x H1 => ∃ a dx fs, x = .ref a ∧ H1 a = some (.ins C dx fs) ∧ fs.lookup m = none ∧ t σ H1 fun vs H2 => sp (x :: vs) H2 Q (E σ)
def xMeth (C : Addr) (m : Str) (sp : Pm) (o : XE K T) (as : XA K T) : XE K T where
  t := fun W => tMethS C m (spOf K T sp) (WE W) (o.t W) (as.t W)
  w := fun ρ M Φ Ξ => o.w ρ M (fun x M1 => asR x fun p => mI M1 p fun C' _ fs => C' = C ∧ fs.lookup m = none ∧ as.w ρ M1 (fun ds M2 => sp (.ref p :: ds) M2 Φ (fun cls dd M3 => Ξ cls dd ρ M3)) Ξ) Ξ
  ok := fun h P σ H wr rs Q hq hx => o.ok h wr rs (fun v x P1 M1 H1 h1 s1 r1 => by
    obtain ⟨p, rfl, h2⟩ := asR.get h1
    obtain ⟨C', dx, fs, hm, rfl, hl, h3⟩ := h2.get
    obtain ⟨o, ho, rm⟩ := s1.wr.chg _ _ hm
    cases rm with
    | ins hk hr =>
      refine ⟨p, dx, _, r1.toR, ho, look_none (P := P1) hk hl, ?_⟩
      exact as.ok h3 s1.wr (rs.mono s1.ex) (fun vs ds P2 M2 H2 h4 s2 r2 => ⟨P2, M2, _, _, _, s2.wr, .cons (r1.mono s2.ex) r2, h4, fun v d P3 M3 H3 h5 s3 r3 => hq v d P3 M3 H3 h5 ((s1.trans s2).trans s3) r3,
        fun cls dd P3 M3 H3 h5 s3 => hx cls dd _ _ P3 M3 H3 h5 ((s1.trans s2).trans s3) (rs.mono ((s1.trans s2).trans s3).ex)⟩) (hx.mono s1)) hx
/-- C(..), whose __init__ raises nothing -/
def xMake (C : Addr) (sp : Pm) (as : XA K T) : XE K T where
  t := fun W => tMake C (spOf K T sp) [] (fun _ _ _ => False) (as.t W)
  w := fun ρ M Φ Ξ => as.w ρ M (fun ds M1 => ∀ p dx, M1 p = none → sp (.ref p :: ds) (um M1 p (.ins C dx [])) (fun d M2 => d = .non ∧ Φ (.ref p) M2) (fun _ _ _ => False)) Ξ
  ok := fun h P σ H wr rs Q hq hx => as.ok h wr rs (fun vs ds P1 M1 H1 h1 s1 r1 => fun x dx hxn hdn hne => by
    have d0 := (Step.refl s1.wr).side (o := .own x) hdn (s1.wr.pfree hdn) (s1.wr.mfree hdn) (s1.wr.tne hdn)
    have hx2 : (upd H1 dx (.own x)) x = none := by rw [upd_ne (Ne.symm hne)]; exact hxn
    have d1 := Step.newM d0.wr (o := .ins C dx []) (m := .ins C dx []) hx2 (.ins rfl .nil)
    have d2 := d0.trans d1
    rw [List.append_nil]
    refine ⟨P1, um M1 x (.ins C dx []), _, _, _, d2.wr, .cons (.ref x) r1, h1 x dx (s1.wr.mfree hxn), fun v d P2 M2 H2 h2 s2 r2 => ?_, fun _ _ _ _ _ z _ => z⟩
    obtain ⟨rfl, h3⟩ := h2
    cases r2
    exact ⟨rfl, hq _ _ _ _ _ h3 ((s1.trans d2).trans s2) (.ref x)⟩) hx
/-! ### exceptions -/
def sRaise (C : Addr) : XS K T where
  t := fun W => fun _ σ H => W (.ref C) none σ H
  w := fun ρ M _ Ξ => Ξ (.ref C) none ρ M
  ok := fun {W ρ M ε Ξ} h P σ H wr rs Dn hd hx => hx _ _ _ _ _ _ _ h (Step.refl wr) rs
/-- a clause: its class, its name's place, its suite, by the exception's address and class -/
structure Hd (K : PySem.W.Frag) (T : Tt) where
  c : Addr
  i : Nat
  b : Addr → Value → Option Addr → XS K T
def wMa (K : PySem.W.Frag) (Wout : WX) (D : Ends) : List (Value × Nat × (Addr → Value → Option Addr → TS)) → WX
  | [] => Wout
  | (c, i, ts) :: r => fun cls d σ H => ∃ b, PySem.W.exmOne K cls c = some b ∧ (b = true → ∀ a, H a = none → ts a cls d { nx := fun σ' H' => D.nx (σ'.set i none) H', rt := D.rt, bk := fun σ' H' => D.bk (σ'.set i none) H', ct := fun σ' H' => D.ct (σ'.set i none) H' } (σ.set i (some (.ref a))) H) ∧
    (b = false → wMa K Wout D r cls d σ H)
def hdT (h : Hd K T) : Value × Nat × (Addr → Value → Option Addr → TS) := (.ref h.c, h.i, fun a cls d => (h.b a cls d).t WX0)
def hdW (ε : Ed) (Ξ : XP) : List (Hd K T) → XP
  | [] => Ξ
  | h :: r => fun cls dd ρ M => ∃ b, PySem.W.exmOne K cls (.ref h.c) = some b ∧ (b = true → ∀ a, (h.b a cls dd).w (ρ.set h.i (some (.ref a))) M { nx := fun ρ' M' => ε.nx (ρ'.set h.i none) M', rt := ε.rt, bk := fun ρ' M' => ε.bk (ρ'.set h.i none) M', ct := fun ρ' M' => ε.ct (ρ'.set h.i none) M' } (fun _ _ _ _ => False)) ∧
    (b = false → hdW ε Ξ r cls dd ρ M)
theorem hdW_ok {W : WX} {P : Hp} {M : Mh} {H : Hp} {ε : Ed} {Ξ : XP} {Dn : Ends} (hd : EdH K T P M H ε Dn) (hx : XH K T W P M H Ξ) : ∀ hs : List (Hd K T), XH K T (wMa K W Dn (hs.map hdT)) P M H (hdW ε Ξ hs)
  | [] => hx
  | h :: r => fun cls dd ρ' σ' P' M' H' hw st rs => by
    obtain ⟨b, e, hy, hn⟩ := hw
    refine ⟨b, e, fun hb a ha => ?_, fun hb => hdW_ok hd hx r cls dd ρ' σ' P' M' H' (hn hb) st rs⟩
    exact (h.b a cls dd).ok (hy hb a) st.wr (rs.set (.ref a) h.i) ⟨fun ρ2 σ2 P2 M2 H2 h2 s2 rs2 => hd.nx _ _ _ _ _ h2 (st.trans s2) (rs2.setn h.i), fun v d P2 M2 H2 h2 s2 r2 => hd.rt _ _ _ _ _ h2 (st.trans s2) r2,
      fun ρ2 σ2 P2 M2 H2 h2 s2 rs2 => hd.bk _ _ _ _ _ h2 (st.trans s2) (rs2.setn h.i), fun ρ2 σ2 P2 M2 H2 h2 s2 rs2 => hd.ct _ _ _ _ _ h2 (st.trans s2) (rs2.setn h.i)⟩ (fun _ _ _ _ _ _ _ z _ _ => z.elim)
def sTry (b : XS K T) (hs : List (Hd K T)) : XS K T where
  t := fun W D σ H => b.t (wMa K W D (hs.map hdT)) D σ H
  w := fun ρ M ε Ξ => b.w ρ M ε (hdW ε Ξ hs)
  ok := fun h P σ H wr rs Dn hd hx => b.ok h wr rs hd (hdW_ok hd hx hs)
/-- isinstance(e, C), e the caught exception (its address, class, dict) -/
def xIsE (a : Addr) (cls : Value) (d : Option Addr) (i : Nat) (c : V) (tc : TE) (cv : Value) : XE K T where
  t := fun _ => fun σ H Q => ∃ D, cls = .ref D ∧ d = none ∧ ExcC K D ∧ σ[i]? = some (some (.ref a)) ∧ (∀ Q', Q' c H → tc σ H Q') ∧ (∀ u, RelV c u → u = cv) ∧ ∃ b, PySem.W.kitOne K (.ref D) cv = some b ∧ Q (.bl b) H
  w := fun ρ M Φ _ => look ρ i fun x => x = .ref a ∧ (∀ σ H Q', Q' c H → tc σ H Q') ∧ (∀ u, RelV c u → u = cv) ∧ d = none ∧ ∃ D, cls = .ref D ∧ ExcC K D ∧ ∃ b, PySem.W.kitOne K (.ref D) cv = some b ∧ Φ (.bl b) M
  ok := fun h P σ H wr rs Q hq _ => by
    obtain ⟨x, e, rfl, h1, h2, h3, D, h4, h5, b, h6, h7⟩ := h.get
    obtain ⟨v, e2, r⟩ := rs.2 _ _ e
    rw [r.toR] at e2
    exact ⟨D, h4, h3, h5, e2, h1 σ H, h2, b, h6, hq _ _ _ _ _ h7 (Step.refl wr) (.bl b)⟩
end
/-! ### derivations -/
section
variable {X : Cx} {W : WX} {T : Tt} {pos apos : Pos} {a o : XE X.K T} {as : XA X.K T} {ea eo e : Expr} {es : List Expr} {f : Str}
theorem dFld (h : PE X ea (a.t W)) (hb : attributeBase ea f X.env (eval ea X.env) = eval ea X.env := by rfl) : PE X (.Attribute ea f pos) ((xFld f a).t W) := pe_fld h hb
theorem dSetF {p2 : Pos} (ho : PE X eo (o.t W)) (ha : PE X ea (a.t W)) (hs : swapsWith ea (some (.Attribute eo f p2)) pos.line X.env = pure false := by rfl) : PS X (.Assign [.Attribute eo f p2] ea pos) ((sSetF f o a).t W) := ps_fld ho ha hs
/-- a method's promise -/
structure Me (P : Program) (w : World) (K : PySem.W.Frag) (mg : Str → Option Value) (base : Heap) (T : Tt) (k : Nat) (C : Addr) (m : Str) (sp : Pm) : Prop where
  ex : ∃ (f : Addr) (fd : FuncData) (ps : List Str), FnOk P w K mg base (L2.CX P w) k f fd ps (spOf K T sp) ∧ Cls K C ∧ Meth K C m f ∧ Binds K fd ps []
theorem dMeth {k j : Nat} {C : Addr} {m : Str} {sp : Pm} {pl : Sem Bool} (c : Me X.prog X.w X.K X.mg X.base T k C m sp) (hr : Room j X.A) (hk : k ≤ j) (tk : Takes X W) (ho : PE X eo (o.t W)) (ha : PA X (e :: es) (as.t W))
    (hst : starEach (e :: es) X.env = (false, eval e X.env) :: starEach es X.env := by rfl) (hpl : (backTo pos (starEach es X.env)).any (·.1) = false := by rfl)
    (ht : eval (.Call (.Attribute eo m apos) (e :: es) [] pos) X.env = (do
      let ov ← eval eo X.env
      standAt apos.atName
      let (f, first) ← holding [ov] (getMethod ov m pl)
      callWith pos f first (backTo pos (starEach (e :: es) X.env)) (backToKw pos (keywordEach [] X.env))) := by rfl) :
    PE X (.Call (.Attribute eo m apos) (e :: es) [] pos) ((xMeth C m sp o as).t W) := by
  obtain ⟨f, fd, ps, F, cl, me, b⟩ := c.ex
  refine ⟨fun pins s σ H Q I h => ?_⟩
  refine PySem.W.methodCall_KW (pl := pl) (thn (ho.run pins s σ H _ I h) fun u s1 ⟨x, H1, I1, rx, p, dx, fs, ex, ea, l, q⟩ => ?_) ht
  subst ex
  obtain rfl : u = Value.ref p := rx
  refine getmeth_ok I1 ea cl me l ?_
  refine PySem.W.callWith_K (first := [.ref p]) (h₀ := X.base) I.ok.mod.kin me.kp (thn (ha.run pos pins s1 σ H1 _ I1 q) fun us s2 ⟨vs, H2, I2, r, q2⟩ => ⟨I2.kIn, ?_⟩) hst hpl
  exact run_fnS (us := .ref p :: us) (vs := .ref p :: vs) F (hr.mono hk) b (passAt tk σ) I2 (.cons rfl r) q2
theorem dMeth0 {k j : Nat} {C : Addr} {m : Str} {sp : Pm} {pl : Sem Bool} (c : Me X.prog X.w X.K X.mg X.base T k C m sp) (hr : Room j X.A) (hk : k ≤ j) (tk : Takes X W) (ho : PE X eo (o.t W))
    (ht : eval (.Call (.Attribute eo m apos) [] [] pos) X.env = (do
      let ov ← eval eo X.env
      standAt apos.atName
      let (f, first) ← holding [ov] (getMethod ov m pl)
      callWith pos f first (backTo pos (starEach [] X.env)) (backToKw pos (keywordEach [] X.env))) := by rfl) :
    PE X (.Call (.Attribute eo m apos) [] [] pos) ((xMeth C m sp o (aNil (K := X.K) (T := T))).t W) := by
  obtain ⟨f, fd, ps, F, cl, me, b⟩ := c.ex
  refine ⟨fun pins s σ H Q I h => ?_⟩
  refine PySem.W.methodCall_KW (pl := pl) (thn (ho.run pins s σ H _ I h) fun u s1 ⟨x, H1, I1, rx, p, dx, fs, ex, ea, l, q⟩ => ?_) ht
  subst ex
  obtain rfl : u = Value.ref p := rx
  refine getmeth_ok I1 ea cl me l ?_
  exact PySem.W.callWith_K0 (first := [.ref p]) I1.kIn me.kp (run_fnS (us := [.ref p]) (vs := [.ref p]) F (hr.mono hk) b (passAt tk σ) I1 (.cons rfl .nil) q)
/-- a class's promise: its __init__'s -/
structure Mc (P : Program) (w : World) (K : PySem.W.Frag) (mg : Str → Option Value) (base : Heap) (T : Tt) (k : Nat) (x : Str) (C : Addr) (sp : Pm) : Prop where
  ex : ∃ (f : Addr) (fd : FuncData) (ps : List Str), FnOk P w K mg base (L2.CX P w) k f fd ps (spOf K T sp) ∧ Mk K C f ∧ mg x = some (.ref C) ∧ Binds K fd ps []
theorem passF {X : Cx} : Passes (L2.CX X.prog X.w) X (fun _ _ _ => False) := fun _ _ _ _ _ _ _ ⟨_, _, _, _, _, _, _, _, _, _, _, _, z⟩ => z.elim
theorem dMake0 {k j : Nat} {x : Str} {C : Addr} {sp : Pm} {p : Pos} (c : Mc X.prog X.w X.K X.mg X.base T k x C sp) (hr : Room j X.A) (hk : k + 1 ≤ j) (hg : Gl X x := by rfl) (hdb : (x == ("__debug__" : Str)) = false := by decide) :
    PE X (.Call (.Name x p) [] [] pos) ((xMake C sp (aNil (K := X.K) (T := T))).t W) := by
  obtain ⟨f, fd, ps, F, m, hm, b⟩ := c.ex
  exact pe_make0 m F (hr.mono hk) hg hm b .nil passF hdb
/-- an own exception class -/
structure Ec (K : PySem.W.Frag) (mg : Str → Option Value) (x : Str) (C : Addr) : Prop where
  q : PySem.W.excIn K C [.type "ValueError", .type "Exception", .type "BaseException", .type "object"] "ValueError.__new__" = true
  gC : mg x = some (.ref C)
  kC : PySem.W.keepIn K (.ref C) = true
  r1 : PySem.W.subIn K (.ref C) (.type "BaseException") = some true
  r2 : PySem.W.typeIn K (.ref C) = some (.type "type")
/-- X() -/
theorem pmk_own0 {C : Addr} {bmB : List Value} {B newId initId : String} {x : Str} {p : Pos} (F : ExcBaseFacts B newId initId bmB) (q : PySem.W.excIn X.K C bmB newId = true) (gC : X.mg x = some (.ref C))
    (kC : PySem.W.keepIn X.K (.ref C) = true) (r : Raises X (.ref C)) (hg : Gl X x) (hdb : (x == ("__debug__" : Str)) = false := by decide) : PMk X (.Call (.Name x p) [] [] pos) (fun _ H Q => Q (.ref C) none H) := by
  intro pins s σ H Q I h
  refine wpAny_Call_Name_kw (ld_glob I hg gC ?_ hdb)
  refine PySem.W.callWith_K0 I.kIn kC ?_
  show wpAny _ _ (call (.ref C) []) _ _ _
  obtain ⟨bm, N, nm, qn, bs, hdct, sn, sub, ab, col, dd, k0, k1, k2, k3, k5, mN, hC, hN, hni, T⟩ := exc_obj I.kIn q
  refine wpAny_call_exc_subT F T hC hN hni (fun h' e hm => ?_) (by show 0 ≤ sizeLine; exact Nat.zero_le _)
  exact mk_of I hm r h (I.hok.gone hm.new)
theorem dRaise {x : Str} {C : Addr} {p cpos : Pos} (c : Ec X.K X.mg x C) (hc : X.calm = true) (tk : Takes X W) (hg : Gl X x := by rfl) (hdb : (x == ("__debug__" : Str)) = false := by decide) : PS X (.Raise (some (.Call (.Name x p) [] [] cpos)) none pos) ((sRaise (K := X.K) (T := T) C).t W) :=
  ps_raise hc tk (pmk_own0 PySem.F.excBase_ValueError c.q c.gC c.kC (raises_own c.r1 c.r2) hg hdb)
end
/-! ### several clauses with names -/
inductive HdsA (X : Cx) : List ExceptHandler → List (Value × Nat × (Addr → Value → Option Addr → TS)) → Prop
  | nil : HdsA X [] []
  | cons {x n : Str} {c : Value} {i : Nat} {ts : Addr → Value → Option Addr → TS} {b₀ : Stmt} {suite : List Stmt} {np pos' : Pos} {hds : List ExceptHandler} {l : List (Value × Nat × (Addr → Value → Option Addr → TS))} (hc : Names X x c) (hi : X.N[i]? = some n) (hln : X.env.kindOf n = some .local)
      (hsu : ∀ (a : Addr) (oe : Obj) (cls : Value) (d : Option Addr) (pn : List (Addr × Obj)), Zc cls d oe → (∃ vs, oe.data = .fields vs) → PSs (X.suite a ((a, oe) :: pn)) (b₀ :: suite) (ts a cls d)) (r : HdsA X hds l) :
      HdsA X (.ExceptHandler (some (.Name x np)) (some n) (b₀ :: suite) pos' :: hds) ((c, i, ts) :: l)
section
variable {X : Cx} {body : List Stmt} {h₀ : ExceptHandler} {hds : List ExceptHandler} {l : List (Value × Nat × (Addr → Value → Option Addr → TS))} {pos : Pos} {tb : WX → TS} {Wout : WX}
theorem ps_try_manyA (hs : X.stack = X.env :: X.outer) (hf : X.env.frame = some X.env.locals) (hN : X.N.Nodup) (tk : Takes X Wout) {D0 : Unit}
    (hb : ∀ (W : WX) (pn : List (Addr × Obj)) (xe : Value → Shared → Prop), Takes (X.tr pn xe) W → PassesOwn (model X.prog X.w) X.A X.env xe → PSs (X.tr pn xe) body (tb W))
    (hh : HdsA X (h₀ :: hds) l) : PS X (.Try body (h₀ :: hds) [] [] pos) (fun D σ H => tb (wMa X.K Wout D l) D σ H) := by
  refine ⟨fun pins s σ H D I h => ?_⟩
  have ok := I.ok
  have hfr : X.A.frames = some (X.env :: X.outer) := by rw [ok.frames, hs]
  refine wpAny_Try_except ?_
  refine wpAny_mono ((hb (wMa X.K Wout D l) (X.pn ++ pins) (fun e s₁ => wpAny (model X.prog X.w) X.A (noteFrame e X.env) (fun _ s₂ => wpAny (model X.prog X.w) X.A (setFlight e none) (fun _ s₃ =>
    wpAny (model X.prog X.w) X.A (handleBy e X.env (h₀ :: hds)) (SP X pins D) X.xe s₃) X.xe s₂) X.xe s₁) (fun u s' xx => ?_) PassesOwn.looking).run [] s σ H D (I.toTry _) h) (fun f s1 hsp => ?_) (fun e s1 he => he)
  · obtain ⟨a, B, sI, pins', σ', H', cls, d, rfl, J', nb, up, sky, na, os, ag, w⟩ := xx
    have J : Inv X pins σ' H' sI := J'.ofTry ok
    have sky' : Sky B (X.env :: X.outer) a (Zc cls d) X.env.locals s'.heap := by rw [← hs]; exact sky
    show wpAny (model X.prog X.w) X.A (noteFrame (.ref a) X.env) _ _ _
    refine Sky.land Zc.steady hfr hf sky' fun h3 fl3 up3 => ?_
    have J3 : Inv X pins σ' H' { s' with heap := h3 } := J.landed nb fl3.1 (up.trans up3) os ag
    obtain ⟨oe3, vs3, he3, hz3, hd3⟩ := fl3.there
    have notFr : ∀ {h : Heap} {o : Obj} {vs : Array Value}, h.FunFrames B (X.env :: X.outer) → h.get? a = some o → o.data = .fields vs → a ∉ frs (X.env :: X.outer) := fun {h o vs} ff e dd hm => by
      obtain ⟨_, o', e', hnf⟩ := ff.mem hm
      rw [e] at e'; cases e'
      exact hnf _ dd
    have nfr := notFr fl3.2.2.1 he3 hd3
    have nL : a ≠ X.env.locals := fun z => nfr (List.mem_filterMap.mpr ⟨X.env, List.mem_cons_self, by rw [hf, z]⟩)
    have nF : a ∉ X.fs := fun hm => by
      obtain ⟨e, he, q⟩ := List.mem_filterMap.mp hm
      exact nfr (List.mem_filterMap.mpr ⟨e, List.mem_cons_of_mem _ he, q⟩)
    have S3 := J3.suite he3 hd3 na nL nF
    have go : ∀ {hds' : List ExceptHandler} {l' : List (Value × Nat × (Addr → Value → Option Addr → TS))}, HdsA X hds' l' → wMa X.K Wout D l' cls d σ' H' →
        wpAny (model X.prog X.w) X.A (handleBy (.ref a) X.env hds') (SP X pins D) X.xe { s' with heap := h3 } := by
      intro hds' l' hk
      induction hk with
      | nil =>
        intro w
        refine wpAny_handleBy_nil ?_
        obtain ⟨k1, k2, k3, oe, vs, T, oT, ts', he, hz, hd, h1, hr⟩ := id fl3
        unfold PySem.passOn
        refine wpAny_bind (wpAny_field he hd h1 ?_)
        rw [if_neg (show ¬ ((Value.ref T == Value.none) = true) from by simp)]
        have fin : wpAny (model X.prog X.w) X.A (setFlight (.ref a) X.env.frame) (fun _ s4 => wpAny (model X.prog X.w) X.A (throw (.ref a) : Sem Flow) (SP X pins D) X.xe s4) X.xe { s' with heap := h3 } := by
          rw [hf]
          refine HandSPX.setFlight_upZ fl3 fun h4 hh4 up4 => wpAny_throw (tk _ _ ?_)
          exact ⟨a, B, sI, pins, σ', H', cls, d, rfl, J, nb, (up.trans up3).trans up4, .inr (.inr (by rw [hs]; exact hh4)), na, os, ag, w⟩
        first
          | exact wpAny_bind (wpAny_pure (wpAny_bind fin))
          | exact wpAny_bind fin
      | @cons x n c i ts b₀ suite np pos' hds2 l2 hc hi hln hsu r ih =>
        intro w
        obtain ⟨b, hb1, hyes, hno⟩ := w
        have hloc : Loc X.env.scope n := .inl hln
        refine wpAny_handleBy_cons (codeAny_handlers_test ?_) (by intro q; cases q)
        have LT : PySem.W.Looks (model X.prog X.w) h3 (typeOf (.ref a)) cls := fun A Q E s k q => wpAny_typeOf_ref (k _ _ he3) (by rw [hz3.1]; exact q)
        have LM := PySem.W.exm_one (M := model X.prog X.w) (J3.kIn) LT hb1
        have test : ∀ {Q : Value → Shared → Prop} {E : Value → Shared → Prop}, Q c { s' with heap := h3 } → wpAny (model X.prog X.w) (X.A.mark (some (.ref a))) (eval (.Name x np) X.env) Q E { s' with heap := h3 } := fun {Q E} q => by
          obtain ⟨hg, hdbg, hm | ⟨hm, hv, hnn⟩⟩ := hc
          · exact ld_glob (X := X.suite a ((a, oe3) :: (X.pn ++ pins))) S3 hg hm q hdbg
          · exact ld_blt (X := X.suite a ((a, oe3) :: (X.pn ++ pins))) S3 hg hm hv q hnn hdbg
        refine test (LM.here ?_)
        cases b with
        | true =>
          refine codeAny_handlers_suite_as ?_
          refine HandSPX.lands_againZ fl3 fun h4 fl4 up4 => ?_
          have J4 : Inv X pins σ' H' { s' with heap := h4 } := J.landed nb fl4.1 ((up.trans up3).trans up4) os ag
          obtain ⟨oe4, vs4, he4, hz4, hd4⟩ := fl4.there
          have S4 := J4.suite he4 hd4 na nL nF
          refine store_ok (X := X.suite a ((a, oe4) :: (X.pn ++ pins))) (v := .ref a) S4 hN hi hloc rfl (fun s5 S5 => ?_) (.inr hln)
          refine wpAny_mono ((hsu a oe4 cls d (X.pn ++ pins) hz4 ⟨_, hd4⟩).run [] s5 _ H' _ S5 (hyes rfl a na)) (fun f s6 hsp => ?_) (fun _ _ z => False.elim z)
          have end_ : ∀ {σ6 : L2.St} {H6 : Hp} {Q : Shared → Prop}, Inv (X.suite a ((a, oe4) :: (X.pn ++ pins))) [] σ6 H6 s6 → (∀ s7, Inv X pins (σ6.set i none) H6 s7 → Q s7) →
              wpAny (model X.prog X.w) X.A (do bindName X.env n .none; unbindBehindTheSuite X.env n pos') (fun _ s7 => Q s7) X.xe s6 := fun {σ6 H6 Q} S6 hq => gone_ok (S6.unsuite ok) hN hi hln hq
          cases f with
          | next =>
            obtain ⟨σ6, H6, S6, q6⟩ := hsp
            exact end_ S6 fun s7 J7 => ⟨_, _, J7, q6⟩
          | brk =>
            obtain ⟨σ6, H6, S6, q6⟩ := hsp
            exact end_ S6 fun s7 J7 => ⟨_, _, J7, q6⟩
          | cont =>
            obtain ⟨σ6, H6, S6, q6⟩ := hsp
            exact end_ S6 fun s7 J7 => ⟨_, _, J7, q6⟩
          | ret u =>
            obtain ⟨v6, σ6, H6, S6, r6, q6⟩ := hsp
            exact end_ S6 fun s7 J7 => ⟨_, _, _, J7, r6, q6⟩
        | false =>
          show wpAny _ X.A (handleBy (.ref a) X.env hds2) _ _ _
          exact ih (hno rfl)
    exact go hh w
  · cases f with
    | next =>
      obtain ⟨σ', H', J', q⟩ := hsp
      exact wpAny_execs_nil ⟨σ', H', J'.ofTry ok, q⟩
    | brk =>
      obtain ⟨σ', H', J', q⟩ := hsp
      exact ⟨σ', H', J'.ofTry ok, q⟩
    | cont =>
      obtain ⟨σ', H', J', q⟩ := hsp
      exact ⟨σ', H', J'.ofTry ok, q⟩
    | ret u =>
      obtain ⟨v, σ', H', J', r, q⟩ := hsp
      exact ⟨v, σ', H', J'.ofTry ok, r, q⟩
theorem dTry {T : Tt} {W : WX} {b : XS X.K T} {hl : List (Hd X.K T)} (hs : X.stack = X.env :: X.outer) (hf : X.env.frame = some X.env.locals) (hN : X.N.Nodup) (tk : Takes X W)
    (hb : ∀ (W : WX) (pn : List (Addr × Obj)) (xe : Value → Shared → Prop), Takes (X.tr pn xe) W → PassesOwn (model X.prog X.w) X.A X.env xe → PSs (X.tr pn xe) body (b.t W))
    (hh : HdsA X (h₀ :: hds) (hl.map hdT)) : PS X (.Try body (h₀ :: hds) [] [] pos) ((sTry b hl).t W) := ps_try_manyA (D0 := ()) hs hf hN tk hb hh
end
section
variable {K : PySem.W.Frag} {T : Tt}
def oNeD : XO K T where
  r := rNeD K
  w := fun x y M Φ => asPy x M fun a => asPy y M fun b => SeqAt.shaped a = true ∧ SeqAt.shaped b = true ∧ Φ (.bl (!PyData.eqv a b)) M
  ok := fun h P H vx vy wr rx ry Q hq => by
    obtain ⟨a, h1, h2⟩ := asPy.rd h wr rx
    obtain ⟨b, h3, h4, h5, h6⟩ := asPy.rd h2 wr ry
    exact ⟨a, b, h1, h3, h4, h5, hq _ _ _ _ _ h6 (Step.refl wr) (.bl _)⟩
/-- xs.pop(i), i an index that is there -/
def eraseD (ds : List D) (k : Int) (f : D → List D → Prop) : Prop := 0 ≤ k ∧ k < ds.length ∧ match ds[k.toNat]? with | some d => f d (ds.eraseIdx k.toNat) | none => False
theorem RepL.erase {P : Hp} : ∀ {vs : List V} {ds : List D} (n : Nat), RepL K P vs ds → RepL K P (vs.eraseIdx n) (ds.eraseIdx n)
  | [], [], _, .nil => .nil
  | _ :: _, _ :: _, 0, .cons _ t => t
  | _ :: _, _ :: _, n + 1, .cons r t => .cons r (RepL.erase n t)
theorem RepL.gete {P : Hp} {vs : List V} {ds : List D} (r : RepL K P vs ds) {n : Nat} {d : D} (h : ds[n]? = some d) : ∃ v, vs[n]? = some v ∧ Rep K P v d := r.getd h
def xPop (o a : XE K T) : XE K T where
  t := fun W => tBM K "list" rPopAt (o.t W) (tCons (a.t W) tNil)
  w := fun ρ M Φ Ξ => o.w ρ M (fun x M1 => asR x fun p => mL M1 p fun _ => a.w ρ M1 (fun y M2 => asI y fun i => mL M2 p fun ds => ds.length ≤ 100000 ∧ eraseD ds i fun d ds' => Φ d (um M2 p (.lst ds'))) Ξ) Ξ
  ok := fun h _ _ _ wr rs _ hq hx => o.ok h wr rs (fun v x P1 M1 H1 h1 s1 r1 => by
    obtain ⟨p, rfl, h2⟩ := h1.get
    obtain ⟨ds0, hm0, h3⟩ := mL.get h2
    obtain ⟨o0, ho0, rm0⟩ := s1.wr.chg _ _ hm0
    rw [r1.toR]
    cases rm0 with
    | lst hr0 =>
      refine ⟨.inl ⟨rfl, _, SqL.of ho0⟩, a.ok h3 s1.wr (rs.mono s1.ex) (fun u y P2 M2 H2 h4 s2 r2 => ?_) (hx.mono s1)⟩
      obtain ⟨i, rfl, h5⟩ := asI.get h4
      obtain ⟨ds, hm, hsz, h0, hl, h6⟩ := mL.get h5
      obtain ⟨ob, ho, rm⟩ := s2.wr.chg _ _ hm
      cases rm with
      | @lst vs _ hr =>
        cases e : ds[i.toNat]? with
        | none => rw [e] at h6; exact h6.elim
        | some d =>
          rw [e] at h6
          obtain ⟨v, e2, r3⟩ := hr.getd e
          have hlv := hr.len
          have hs : seqIndex? i vs.length = some i.toNat := by
            simp only [seqIndex?, if_neg (show ¬ i < 0 by omega)]
            rw [if_pos]
            simp only [Bool.and_eq_true, decide_eq_true_eq]
            omega
          exact ⟨p, vs, i, i.toNat, v, rfl, by rw [r2.toI], ho, by omega, by omega, hs, e2, hq _ _ _ _ _ h6 ((s1.trans s2).trans (Step.put s2.wr hm (.lst (hr.erase _)))) (r3.mono (Ex.refl _))⟩) hx
end
section
variable {X : Cx} {W : WX} {T : Tt} {pos : Pos} {a xo : XE X.K T} {ea eo : Expr}
theorem dPop {p : Pos} (ho : PE X eo (xo.t W)) (ha : PE X ea (a.t W)) (hbase : attributeBase eo "pop" X.env (eval eo X.env) = eval eo X.env := by rfl)
    (hfew : ((backTo pos (starEach [ea] X.env)).all (fun x => !x.1) && (backToKw pos (keywordEach [] X.env)).all (fun x => x.1.isSome) && decide ([ea].length + ([] : List Keyword).length + (if ([] : List Keyword).isEmpty then 0 else 1) < 30)) = true := by rfl)
    (hline : (p.endLine == pos.line) = true := by rfl) (hs : starEach [ea] X.env = (false, eval ea X.env) :: starEach [] X.env := by rfl) (hpl : (backTo pos (starEach [] X.env)).any (·.1) = false := by rfl) :
    PE X (.Call (.Attribute eo "pop" p) [ea] [] pos) ((xPop xo a).t W) := pe_bm PySem.F.plainAttrs_list PySem.F.slot_list_pop PySem.F.type_list_pop mt_popAt ho (pa_cons ha pa_nil hs) hbase hfew hline hs hpl
end
/-! ### defs that may raise -/
section
variable {P : Program} {w : World} {K : PySem.W.Frag} {mg : Str → Option Value} {base : Heap} {T : Tt}
abbrev WEx (E : XK) : WX := fun cls d _ H => E cls d H
theorem fnX {x qual : Str} {st : Stmt} {f : Addr} {fd : FuncData} {N ps : List Str} {k : Nat} {sp : Pm} (F : L2.Fun K x qual st f fd) (S : FnScope N ps (defScope st)) (b : XS K T) (hlen : ∀ ds M Φ Ξ, sp ds M Φ Ξ → ds.length = ps.length)
    (hd : ∀ (f : Addr) (cdv : Value) (A : Around) (outer : List Env) (s : Shared) (H : Hp) (E : XK), Room k (A.deeper (envOfC qual (defScope st) s.heap.objs.size f cdv)) →
      Takes (cxOf (L2.CX P w) P w K mg base N qual (defScope st) f cdv A outer s H E) (WEx E) → PSs (cxOf (L2.CX P w) P w K mg base N qual (defScope st) f cdv A outer s H E) (defBody st) (b.t (WEx E)))
    (hw : ∀ ds M Φ Ξ, sp ds M Φ Ξ → b.w (st0 N.length ds) M ⟨fun _ M' => Φ .non M', Φ, fun _ _ => False, fun _ _ => False⟩ (fun cls dd _ M' => Ξ cls dd M')) : FnOk P w K mg base (L2.CX P w) (k + 1) f fd ps (spOf K T sp) := by
  obtain ⟨oc, od, kV, doc, pm, an, cdv, ct, osl, rfl, lk, hcd⟩ := F.ex
  refine fn_of lk hcd S (fun vs H Q E h => ?_) (fun A outer s H vs Q E hr h => ?_)
  · obtain ⟨P0, M, ds, Φ, Ξ, wr, r, hs, _⟩ := h
    rw [r.len]; exact hlen _ _ _ _ hs
  · obtain ⟨P0, M, ds, Φ, Ξ, wr, r, hs, hq, hx⟩ := h
    refine ⟨_, hd f cdv A outer s H E hr (takes_of rfl rfl rfl rfl), ?_⟩
    exact b.ok (hw ds M Φ Ξ hs) wr r.start ⟨fun ρ' σ' P' M' H' h1 s1 r1 => hq _ _ _ _ _ h1 s1 .non, fun v d P' M' H' h1 s1 r1 => hq _ _ _ _ _ h1 s1 r1, fun _ _ _ _ _ z _ _ => z.elim, fun _ _ _ _ _ z _ _ => z.elim⟩ (fun cls dd ρ' σ' P' M' H' z s1 _ => hx cls dd P' M' H' z s1)
theorem clX {x : Str} {st : Stmt} {N ps : List Str} {k : Nat} {sp : Pm} (F : Df K mg x st) (S : FnScope N ps (defScope st)) (b : XS K T) (hlen : ∀ ds M Φ Ξ, sp ds M Φ Ξ → ds.length = ps.length)
    (hb : ∀ (kV doc pm : Value) (an : Option Addr) (cdv ct : Value) (us : List Value), us.length = ps.length → bindArgs (PySem.W.fnOf x x (defArgs st) (defBody st) (defScope st) .none kV doc pm an cdv ct) ⟨us, []⟩ = pure (ps.zip us))
    (hd : ∀ (f : Addr) (cdv : Value) (A : Around) (outer : List Env) (s : Shared) (H : Hp) (E : XK), Room k (A.deeper (envOfC x (defScope st) s.heap.objs.size f cdv)) →
      Takes (cxOf (L2.CX P w) P w K mg base N x (defScope st) f cdv A outer s H E) (WEx E) → PSs (cxOf (L2.CX P w) P w K mg base N x (defScope st) f cdv A outer s H E) (defBody st) (b.t (WEx E)))
    (hw : ∀ ds M Φ Ξ, sp ds M Φ Ξ → b.w (st0 N.length ds) M ⟨fun _ M' => Φ .non M', Φ, fun _ _ => False, fun _ _ => False⟩ (fun cls dd _ M' => Ξ cls dd M')) : Cl P w K mg base T (k + 1) x sp := by
  obtain ⟨f, fd, F, hm, hdf⟩ := F.ex
  exact ⟨f, fd, ps, fnX F S b hlen hd hw, hm, F.kp, F.binds hb⟩
/-- a method's def in the text -/
structure Dm (K : PySem.W.Frag) (C : Addr) (m qual : Str) (st : Stmt) : Prop where
  ex : ∃ (f : Addr) (fd : FuncData), L2.Fun K m qual st f fd ∧ Cls K C ∧ Meth K C m f ∧ fd.defaults = .none
theorem meX {m qual : Str} {C : Addr} {st : Stmt} {N ps : List Str} {k : Nat} {sp : Pm} (F : Dm K C m qual st) (S : FnScope N ps (defScope st)) (b : XS K T) (hlen : ∀ ds M Φ Ξ, sp ds M Φ Ξ → ds.length = ps.length)
    (hb : ∀ (kV doc pm : Value) (an : Option Addr) (cdv ct : Value) (us : List Value), us.length = ps.length → bindArgs (PySem.W.fnOf m qual (defArgs st) (defBody st) (defScope st) .none kV doc pm an cdv ct) ⟨us, []⟩ = pure (ps.zip us))
    (hd : ∀ (f : Addr) (cdv : Value) (A : Around) (outer : List Env) (s : Shared) (H : Hp) (E : XK), Room k (A.deeper (envOfC qual (defScope st) s.heap.objs.size f cdv)) →
      Takes (cxOf (L2.CX P w) P w K mg base N qual (defScope st) f cdv A outer s H E) (WEx E) → PSs (cxOf (L2.CX P w) P w K mg base N qual (defScope st) f cdv A outer s H E) (defBody st) (b.t (WEx E)))
    (hw : ∀ ds M Φ Ξ, sp ds M Φ Ξ → b.w (st0 N.length ds) M ⟨fun _ M' => Φ .non M', Φ, fun _ _ => False, fun _ _ => False⟩ (fun cls dd _ M' => Ξ cls dd M')) : Me P w K mg base T (k + 1) C m sp := by
  obtain ⟨f, fd, F, c, me, hdf⟩ := F.ex
  exact ⟨f, fd, ps, fnX F S b hlen hd hw, c, me, F.binds hb⟩
/-- a class and its __init__ -/
structure Di (K : PySem.W.Frag) (mg : Str → Option Value) (x : Str) (C : Addr) (qual : Str) (st : Stmt) : Prop where
  ex : ∃ (f : Addr) (fd : FuncData), L2.Fun K "__init__" qual st f fd ∧ Mk K C f ∧ mg x = some (.ref C) ∧ fd.defaults = .none
theorem mcX {x qual : Str} {C : Addr} {st : Stmt} {N ps : List Str} {k : Nat} {sp : Pm} (F : Di K mg x C qual st) (S : FnScope N ps (defScope st)) (b : XS K T) (hlen : ∀ ds M Φ Ξ, sp ds M Φ Ξ → ds.length = ps.length)
    (hb : ∀ (kV doc pm : Value) (an : Option Addr) (cdv ct : Value) (us : List Value), us.length = ps.length → bindArgs (PySem.W.fnOf "__init__" qual (defArgs st) (defBody st) (defScope st) .none kV doc pm an cdv ct) ⟨us, []⟩ = pure (ps.zip us))
    (hd : ∀ (f : Addr) (cdv : Value) (A : Around) (outer : List Env) (s : Shared) (H : Hp) (E : XK), Room k (A.deeper (envOfC qual (defScope st) s.heap.objs.size f cdv)) →
      Takes (cxOf (L2.CX P w) P w K mg base N qual (defScope st) f cdv A outer s H E) (WEx E) → PSs (cxOf (L2.CX P w) P w K mg base N qual (defScope st) f cdv A outer s H E) (defBody st) (b.t (WEx E)))
    (hw : ∀ ds M Φ Ξ, sp ds M Φ Ξ → b.w (st0 N.length ds) M ⟨fun _ M' => Φ .non M', Φ, fun _ _ => False, fun _ _ => False⟩ (fun cls dd _ M' => Ξ cls dd M')) : Mc P w K mg base T (k + 1) x C sp := by
  obtain ⟨f, fd, F, m, hm, hdf⟩ := F.ex
  exact ⟨f, fd, ps, fnX F S b hlen hd hw, m, hm, F.binds hb⟩
end
/-! ### the text's classes -/
def clsItem (st : Stmt) (j : Nat) : Stmt := match st with
  | .ClassDef _ _ _ body _ _ _ _ _ _ _ => body.getD j (.Pass ⟨0, 0, 0, 0⟩)
  | _ => .Pass ⟨0, 0, 0, 0⟩
section
variable {K : PySem.W.Frag} {mg : Str → Option Value}
theorem dm_mk {C f : Addr} {m qual : Str} {st : Stmt} {oc : Value} {od an : Option Addr} {osl : Array (Option Value)} {kV doc pm cdv ct : Value} (cl : Cls K C) (a : PySem.W.findIn K (.ref C) m = some (some (.ref f)))
    (l : K.lookup f = some ⟨oc, od, .func (PySem.W.fnOf m qual (defArgs st) (defBody st) (defScope st) .none kV doc pm an cdv ct), osl⟩) (c : PySem.W.codeIn K cdv qual = true) (k : PySem.W.keepIn K (.ref f) = true) (i : PySem.W.isFn K (.ref f) = true) : Dm K C m qual st :=
  ⟨f, _, fun_mk l c k, cl, ⟨a, i, k⟩, rfl⟩
theorem di_mk {x : Str} {C f : Addr} {qual : Str} {st : Stmt} {oc : Value} {od an : Option Addr} {osl : Array (Option Value)} {kV doc pm cdv ct : Value} (gC : mg x = some (.ref C)) (mk : PySem.W.makesIn K C = true) (kC : PySem.W.keepIn K (.ref C) = true) (a : PySem.W.findIn K (.ref C) "__init__" = some (some (.ref f)))
    (l : K.lookup f = some ⟨oc, od, .func (PySem.W.fnOf "__init__" qual (defArgs st) (defBody st) (defScope st) .none kV doc pm an cdv ct), osl⟩) (c : PySem.W.codeIn K cdv qual = true) (k : PySem.W.keepIn K (.ref f) = true) (i : PySem.W.isFn K (.ref f) = true) : Di K mg x C qual st :=
  ⟨f, _, fun_mk l c k, ⟨mk, a, i, kC⟩, gC, rfl⟩
end
section
variable {X : Cx} {W : WX} {T : Tt}
/-- isinstance(e, C) in a suite -/
theorem dIsE {a : Addr} {oe : Obj} {pn : List (Addr × Obj)} {cls : Value} {d : Option Addr} {i : Nat} {x : Str} {c : V} {cv : Value} {tc : TE} {ec : Expr} {p1 p2 pos : Pos} (hz : Zc cls d oe) (hf : ∃ vs, oe.data = .fields vs) (hm : X.mg "isinstance" = none) (hN : X.N[i]? = some x)
    (hc : PE (X.suite a ((a, oe) :: pn)) ec tc) (hv : Vis X.env.scope x := by first | exact Or.inl rfl | exact Or.inr (Or.inl rfl) | exact Or.inr (Or.inr rfl)) (hd : (x == ("__debug__" : Str)) = false := by decide) (hcd : (x == ("__classdict__" : Str)) = false := by decide) (hg : Gl X "isinstance" := by rfl)
    (he : starEach [.Name x p1, ec] X.env = (false, eval (.Name x p1) X.env) :: starEach [ec] X.env := by rfl) (he2 : starEach [ec] X.env = (false, eval ec X.env) :: starEach [] X.env := by rfl) (hpl : (backTo pos (starEach [ec] X.env)).any (·.1) = false := by rfl) :
    PE (X.suite a ((a, oe) :: pn)) (.Call (.Name "isinstance" p2) [.Name x p1, ec] [] pos) ((xIsE (K := X.K) (T := T) a cls d i c tc cv).t W) := by
  refine ⟨fun pins s σ H Q I h => ?_⟩
  obtain ⟨D, rfl, rfl, hC, hσ, htc, hcv, b, hk, hq⟩ := h
  have ha : PA (X.suite a ((a, oe) :: pn)) [.Name x p1, ec] (tCons (tVar i) (tCons tc tNil)) := pa_cons (pe_var hN hv hd hcd) (pa_cons hc pa_nil he2) he
  have r := pe_callB (p := p2) (pos := pos) (call_isE hC hz hf) hg hm (show bootBuiltins "isinstance" = some (.builtin "isinstance") by decide +kernel) ha (by decide) (by decide) he hpl
  exact r.run pins s σ H Q I ⟨_, hσ, htc _ ⟨c, cv, b, rfl, hcv, hk, hq⟩⟩
end
theorem fld_1 {f : Str} {d : D} {k : D → Prop} : fldD [(f, d)] f k = k d := by
  unfold fldD
  have e : List.lookup f [(f, d)] = some d := by simp
  rw [e]
end Ab

set_option Elab.async false
set_option linter.all false
set_option maxRecDepth 100000
set_option maxHeartbeats 2000000
namespace Ab
open PySem PySem.Spec PyProof.Rows L2
/-! ### what a dict holds -/
section
variable {κ α : Type} [DecidableEq κ]
def vK (l : List (κ × α)) (k : κ) : Option α := (l.find? fun kv => decide (kv.1 = k)).map (·.2)
def pK (l : List (κ × α)) (k : κ) (v : α) : List (κ × α) := if (l.any fun kv => decide (kv.1 = k)) = true then l.map (fun kv => if kv.1 = k then (kv.1, v) else kv) else l ++ [(k, v)]
def dK (l : List (κ × α)) (k : κ) : List (κ × α) := l.filter fun kv => decide (kv.1 ≠ k)
theorem vK_nil {k : κ} : vK ([] : List (κ × α)) k = none := rfl
theorem vK_pos {p : κ × α} {r : List (κ × α)} {k : κ} (e : p.1 = k) : vK (p :: r) k = some p.2 := by simp [vK, List.find?_cons, e]
theorem vK_neg {p : κ × α} {r : List (κ × α)} {k : κ} (e : ¬ p.1 = k) : vK (p :: r) k = vK r k := by simp [vK, List.find?_cons, e]
theorem vK_any (k : κ) : ∀ l : List (κ × α), (l.any fun kv => decide (kv.1 = k)) = (vK l k).isSome
  | [] => rfl
  | p :: r => by
    rw [List.any_cons]
    by_cases e : p.1 = k
    · rw [vK_pos e, decide_eq_true e]; rfl
    · rw [vK_neg e, decide_eq_false e, Bool.false_or]; exact vK_any k r
theorem vK_app (l r : List (κ × α)) (k : κ) : vK (l ++ r) k = match vK l k with | some v => some v | none => vK r k := by
  induction l with
  | nil => rfl
  | cons p l ih =>
    rw [List.cons_append]
    by_cases e : p.1 = k
    · rw [vK_pos e, vK_pos e]
    · rw [vK_neg e, vK_neg e, ih]
theorem vK_map (k j : κ) (y : α) : ∀ l : List (κ × α), vK (l.map fun kv => if kv.1 = k then (kv.1, y) else kv) j = (vK l j).map fun x => if j = k then y else x
  | [] => rfl
  | p :: r => by
    have ih := vK_map k j y r
    rw [List.map_cons]
    by_cases e : p.1 = k
    · rw [if_pos e]
      by_cases e2 : p.1 = j
      · rw [vK_pos (p := (p.1, y)) e2, vK_pos e2]
        have : j = k := e2.symm.trans e
        simp [this]
      · rw [vK_neg (p := (p.1, y)) e2, vK_neg e2]; exact ih
    · rw [if_neg e]
      by_cases e2 : p.1 = j
      · rw [vK_pos e2, vK_pos e2]
        have : ¬ j = k := fun z => e (e2.trans z)
        simp [this]
      · rw [vK_neg e2, vK_neg e2]; exact ih
theorem vK_put (l : List (κ × α)) (k j : κ) (y : α) : vK (pK l k y) j = if j = k then some y else vK l j := by
  unfold pK
  rw [vK_any]
  cases e : vK l k with
  | some v =>
    simp only [Option.isSome_some, if_true]
    rw [vK_map]
    by_cases q : j = k
    · subst q; rw [e]; simp
    · simp [q]
  | none =>
    simp only [Option.isSome_none, Bool.false_eq_true, if_false]
    rw [vK_app]
    by_cases q : j = k
    · subst q; rw [e, if_pos rfl, vK_pos rfl]
    · rw [if_neg q]
      cases e2 : vK l j with
      | some v => rfl
      | none => rw [vK_neg (fun z => q z.symm)]; rfl
theorem vK_drop (l : List (κ × α)) (k j : κ) : vK (dK l k) j = if j = k then none else vK l j := by
  induction l with
  | nil => unfold dK; simp [vK]
  | cons p l ih =>
    unfold dK at ih ⊢
    by_cases e : p.1 = k
    · rw [List.filter_cons_of_neg (by simp [e]), ih]
      by_cases q : j = k
      · rw [if_pos q, if_pos q]
      · rw [if_neg q, if_neg q, vK_neg (fun z => q (z.symm.trans e))]
    · rw [List.filter_cons_of_pos (by simp [e])]
      by_cases e2 : p.1 = j
      · rw [vK_pos e2, vK_pos e2, if_neg (fun z => e (e2.trans z))]
      · rw [vK_neg e2, vK_neg e2, ih]
theorem vK_mem {l : List (κ × α)} {k : κ} {v : α} (h : vK l k = some v) : (k, v) ∈ l := by
  induction l with
  | nil => cases h
  | cons p l ih =>
    by_cases e : p.1 = k
    · rw [vK_pos e] at h; cases h; rw [← e]; exact List.mem_cons_self
    · rw [vK_neg e] at h; exact List.mem_cons_of_mem _ (ih h)
theorem vK_of {l : List (κ × α)} {k : κ} {v : α} (nd : (l.map Prod.fst).Nodup) (h : (k, v) ∈ l) : vK l k = some v := by
  induction l with
  | nil => cases h
  | cons p l ih =>
    rw [List.map_cons, List.nodup_cons] at nd
    rcases List.mem_cons.mp h with e | h
    · subst e; exact vK_pos rfl
    · have : ¬ p.1 = k := fun z => nd.1 (z ▸ List.mem_map_of_mem (f := Prod.fst) h)
      rw [vK_neg this]; exact ih nd.2 h
theorem vK_none {l : List (κ × α)} {k : κ} : vK l k = none ↔ k ∉ l.map Prod.fst := by
  induction l with
  | nil => simp [vK]
  | cons p l ih =>
    by_cases e : p.1 = k
    · rw [vK_pos e]; simp [e]
    · rw [vK_neg e, ih]; simp [Ne.symm e, eq_comm, e]
theorem pK_keys (l : List (κ × α)) (k : κ) (v : α) : (pK l k v).map Prod.fst = if vK l k = none then l.map Prod.fst ++ [k] else l.map Prod.fst := by
  unfold pK
  rw [vK_any]
  cases e : vK l k with
  | none => simp
  | some x =>
    simp only [Option.isSome_some, if_true, reduceCtorEq, if_false, List.map_map]
    refine List.map_congr_left fun p _ => ?_
    show (if p.1 = k then (p.1, v) else p).1 = p.1
    split <;> rfl
theorem pK_nodup {l : List (κ × α)} (nd : (l.map Prod.fst).Nodup) (k : κ) (v : α) : ((pK l k v).map Prod.fst).Nodup := by
  rw [pK_keys]
  split
  · rename_i h
    refine List.nodup_append.mpr ⟨nd, by simp, fun a ha b hb => ?_⟩
    have : b = k := by simpa using hb
    subst this
    exact fun z => (vK_none.mp h) (z ▸ ha)
  · exact nd
theorem pK_len (l : List (κ × α)) (k : κ) (v : α) : (pK l k v).length ≤ l.length + 1 := by
  unfold pK
  split
  · simp
  · simp
theorem dK_sub (l : List (κ × α)) (k : κ) : (dK l k).map Prod.fst = (l.map Prod.fst).filter fun j => decide (j ≠ k) := by
  unfold dK
  rw [List.filter_map]; rfl
theorem dK_nodup {l : List (κ × α)} (nd : (l.map Prod.fst).Nodup) (k : κ) : ((dK l k).map Prod.fst).Nodup := by
  rw [dK_sub]; exact nd.filter _
theorem dK_len (l : List (κ × α)) (k : κ) : (dK l k).length ≤ l.length := List.length_filter_le _ _
theorem pK_new {l : List (κ × α)} {k : κ} (v : α) (h : vK l k = none) : pK l k v = l ++ [(k, v)] := by
  unfold pK
  rw [vK_any, h]; rfl
end
section
variable {K : PySem.W.Frag} {T : Tt} {κ : Type} [DecidableEq κ]
/-- the pairs stand for each other -/
def Zk (K : PySem.W.Frag) (P : Hp) (kvs : List (κ × V)) (kds : List (κ × D)) : Prop := kvs.map Prod.fst = kds.map Prod.fst ∧ RepL K P (kvs.map Prod.snd) (kds.map Prod.snd)
theorem Zk.nil {P : Hp} : Zk K P ([] : List (κ × V)) [] := ⟨rfl, .nil⟩
theorem Zk.uncons {P : Hp} {p : κ × V} {kvs : List (κ × V)} {kds : List (κ × D)} (h : Zk K P (p :: kvs) kds) : ∃ d r, kds = (p.1, d) :: r ∧ Rep K P p.2 d ∧ Zk K P kvs r := by
  obtain ⟨h1, h2⟩ := h
  cases kds with
  | nil => cases h1
  | cons q r =>
    obtain ⟨k, d⟩ := q
    have e1 := (List.cons.inj h1).1
    have e2 := (List.cons.inj h1).2
    simp only at e1
    cases h2 with
    | cons a b => exact ⟨d, r, by rw [e1], a, e2, b⟩
theorem Zk.cons {P : Hp} {k : κ} {v : V} {d : D} {kvs : List (κ × V)} {kds : List (κ × D)} (r : Rep K P v d) (h : Zk K P kvs kds) : Zk K P ((k, v) :: kvs) ((k, d) :: kds) := ⟨by rw [List.map_cons, List.map_cons, h.1], .cons r h.2⟩
theorem Zk.nil_inv {P : Hp} {kds : List (κ × D)} (h : Zk K P ([] : List (κ × V)) kds) : kds = [] := by
  cases kds with
  | nil => rfl
  | cons _ _ => cases h.1
theorem Zk.len {P : Hp} {kvs : List (κ × V)} {kds : List (κ × D)} (h : Zk K P kvs kds) : kvs.length = kds.length := by
  have := congrArg List.length h.1
  simpa using this
theorem Zk.mono {P P' : Hp} {kvs : List (κ × V)} {kds : List (κ × D)} (h : Zk K P kvs kds) (e : Ex P P') : Zk K P' kvs kds := ⟨h.1, RepL.mono e h.2⟩
def RepO (K : PySem.W.Frag) (P : Hp) (o : Option V) (r : Option D) : Prop := (o = none ∧ r = none) ∨ ∃ v d, o = some v ∧ r = some d ∧ Rep K P v d
theorem Zk.val {P : Hp} (k : κ) : ∀ {kvs : List (κ × V)} {kds : List (κ × D)}, Zk K P kvs kds → RepO K P (valV kvs k) (vK kds k)
  | [], kds, h => by rw [h.nil_inv]; exact .inl ⟨rfl, rfl⟩
  | p :: kvs, kds, h => by
    obtain ⟨d, r, rfl, rp, h2⟩ := h.uncons
    by_cases e : p.1 = k
    · rw [valV_pos e, vK_pos (p := (p.1, d)) e]; exact .inr ⟨_, _, rfl, rfl, rp⟩
    · rw [valV_neg e, vK_neg (p := (p.1, d)) e]; exact h2.val k
theorem Zk.app {P : Hp} : ∀ {kvs : List (κ × V)} {kds : List (κ × D)} {k2 : List (κ × V)} {d2 : List (κ × D)}, Zk K P kvs kds → Zk K P k2 d2 → Zk K P (kvs ++ k2) (kds ++ d2)
  | [], kds, _, _, h, g => by rw [h.nil_inv]; exact g
  | p :: kvs, kds, _, _, h, g => by
    obtain ⟨d, r, rfl, rp, h2⟩ := h.uncons
    exact (h2.app g).cons rp
theorem Zk.mp {P : Hp} {k : κ} {v : V} {d : D} (rv : Rep K P v d) : ∀ {kvs : List (κ × V)} {kds : List (κ × D)}, Zk K P kvs kds → Zk K P (kvs.map fun kv => if kv.1 = k then (kv.1, v) else kv) (kds.map fun kv => if kv.1 = k then (kv.1, d) else kv)
  | [], kds, h => by rw [h.nil_inv]; exact .nil
  | p :: kvs, kds, h => by
    obtain ⟨x, r, rfl, rp, h2⟩ := h.uncons
    rw [List.map_cons, List.map_cons]
    by_cases e : p.1 = k
    · rw [if_pos e, if_pos e]; exact (h2.mp rv).cons rv
    · rw [if_neg e, if_neg e]; exact (h2.mp rv).cons rp
theorem Zk.put {P : Hp} {k : κ} {v : V} {d : D} (rv : Rep K P v d) {kvs : List (κ × V)} {kds : List (κ × D)} (h : Zk K P kvs kds) : Zk K P (putK kvs k v) (pK kds k d) := by
  have e : (kvs.any fun kv => decide (kv.1 = k)) = (kds.any fun kv => decide (kv.1 = k)) := by
    rw [valV_any, vK_any]
    rcases h.val k with ⟨a, b⟩ | ⟨_, _, a, b, _⟩ <;> rw [a, b] <;> rfl
  unfold putK pK
  rw [e]
  split
  · exact h.mp rv
  · exact h.app (Zk.nil.cons rv)
theorem Zk.drop {P : Hp} {k : κ} : ∀ {kvs : List (κ × V)} {kds : List (κ × D)}, Zk K P kvs kds → Zk K P (dropK kvs k) (dK kds k)
  | [], kds, h => by rw [h.nil_inv]; exact .nil
  | p :: kvs, kds, h => by
    obtain ⟨x, r, rfl, rp, h2⟩ := h.uncons
    unfold dropK dK
    by_cases e : p.1 = k
    · rw [List.filter_cons_of_neg (by simp [e]), List.filter_cons_of_neg (by simp [e])]; exact h2.drop
    · rw [List.filter_cons_of_pos (by simp [e]), List.filter_cons_of_pos (by simp [e])]; exact (h2.drop).cons rp
theorem Zk.get {P : Hp} : ∀ {kvs : List (κ × V)} {kds : List (κ × D)} {i : Nat} {p : κ × V}, Zk K P kvs kds → kvs[i]? = some p → ∃ d, kds[i]? = some (p.1, d) ∧ Rep K P p.2 d
  | [], _, _, _, _, h => by cases h
  | q :: kvs, kds, 0, p, h, e => by
    cases e
    obtain ⟨x, r, rfl, rp, h2⟩ := h.uncons
    exact ⟨x, rfl, rp⟩
  | q :: kvs, kds, i + 1, p, h, e => by
    obtain ⟨x, r, rfl, rp, h2⟩ := h.uncons
    exact h2.get (i := i) e
theorem Zk.getd {P : Hp} : ∀ {kvs : List (κ × V)} {kds : List (κ × D)} {i : Nat} {k : κ} {d : D}, Zk K P kvs kds → kds[i]? = some (k, d) → ∃ v, kvs[i]? = some (k, v) ∧ Rep K P v d
  | [], _, _, _, _, h, e => by rw [h.nil_inv] at e; cases e
  | q :: kvs, kds, 0, k, d, h, e => by
    obtain ⟨x, r, rfl, rp, h2⟩ := h.uncons
    cases e
    exact ⟨_, rfl, rp⟩
  | q :: kvs, kds, i + 1, k, d, h, e => by
    obtain ⟨x, r, rfl, rp, h2⟩ := h.uncons
    exact h2.getd (i := i) e
end
section
variable {K : PySem.W.Frag} {T : Tt}
def kD : Key → D | .inl i => .int i | .inr s => .str s
theorem rep_kd {P : Hp} : ∀ k : Key, Rep K P (kV k) (kD k) | .inl i => .int i | .inr s => .str s
def asK (d : D) (k : Key → Prop) : Prop := match d with | .int i => k (.inl i) | .str s => k (.inr s) | _ => False
theorem asK.get {d : D} {k : Key → Prop} (h : asK d k) : ∃ j, d = kD j ∧ k j := by cases d <;> first | exact h.elim | exact ⟨.inl _, rfl, h⟩ | exact ⟨.inr _, rfl, h⟩
theorem Rep.kd {P : Hp} {v : V} {k : Key} (r : Rep K P v (kD k)) : v = kV k := by cases k with | inl i => exact r.toI | inr s => exact r.toS
theorem asK_1 {i : Int} {k : Key → Prop} : asK (.int i) k = k (.inl i) := rfl
theorem asK_2 {i : Str} {k : Key → Prop} : asK (.str i) k = k (.inr i) := rfl
def keyD : D → Option Key | .int i => some (.inl i) | .str s => some (.inr s) | _ => none
def keysD : List D → Option (List Key)
  | [] => some []
  | d :: r => match keyD d, keysD r with | some k, some ks => some (k :: ks) | _, _ => none
theorem keyD_eq {d : D} {k : Key} (h : keyD d = some k) : d = kD k := by cases d <;> first | (cases h; rfl) | cases h
theorem keysD_eq : ∀ {ds : List D} {ks : List Key}, keysD ds = some ks → ds = ks.map kD
  | [], _, h => by cases h; rfl
  | d :: r, ks, h => by
    unfold keysD at h
    cases e1 : keyD d with
    | none => rw [e1] at h; cases h
    | some k =>
      cases e2 : keysD r with
      | none => rw [e1, e2] at h; cases h
      | some js => rw [e1, e2] at h; cases h; rw [keyD_eq e1, keysD_eq e2]; rfl
theorem RepL.kds {P : Hp} : ∀ {vs : List V} {ks : List Key}, RepL K P vs (ks.map kD) → vs = ks.map kV
  | _, [], r => by cases r; rfl
  | _, k :: ks, r => by cases r with | cons a b => rw [a.kd, b.kds]; rfl
def asTK (d : D) (k : List Key → Prop) : Prop := match d with | .tup ds => (match keysD ds with | some ks => k ks | none => False) | _ => False
theorem asTK.get {d : D} {k : List Key → Prop} (h : asTK d k) : ∃ ks, d = .tup (ks.map kD) ∧ k ks := by
  cases d with
  | tup ds =>
    unfold asTK at h
    simp only at h
    split at h
    · rename_i ks e
      exact ⟨ks, by rw [keysD_eq e], h⟩
    · exact h.elim
  | _ => exact h.elim
theorem asTK_of {ds : List D} {ks : List Key} {k : List Key → Prop} (h : keysD ds = some ks) : asTK (.tup ds) k = k ks := by unfold asTK; simp only [h]
/-- what the dict at p holds at y -/
def dget (M : Mh) (p : Addr) (y : D) (k : Option D → Prop) : Prop := match M p with
  | some (.dct kds) => asK y fun j => k (vK kds j)
  | some (.dlk kds) => asK y fun j => k (vK kds j)
  | some (.dcT kds) => asTK y fun j => k (vK kds j)
  | some (.dlT kds) => asTK y fun j => k (vK kds j)
  | _ => False
theorem dget_1 {M : Mh} {p : Addr} {y : D} {k : Option D → Prop} {kds : List (Key × D)} (h : M p = some (.dct kds)) : dget M p y k = asK y fun j => k (vK kds j) := by unfold dget; rw [h]
theorem dget_2 {M : Mh} {p : Addr} {y : D} {k : Option D → Prop} {kds : List (Key × D)} (h : M p = some (.dlk kds)) : dget M p y k = asK y fun j => k (vK kds j) := by unfold dget; rw [h]
theorem dget_3 {M : Mh} {p : Addr} {y : D} {k : Option D → Prop} {kds : List (List Key × D)} (h : M p = some (.dcT kds)) : dget M p y k = asTK y fun j => k (vK kds j) := by unfold dget; rw [h]
theorem dget_4 {M : Mh} {p : Addr} {y : D} {k : Option D → Prop} {kds : List (List Key × D)} (h : M p = some (.dlT kds)) : dget M p y k = asTK y fun j => k (vK kds j) := by unfold dget; rw [h]
theorem tkey {P : Hp} {M : Mh} {H : Hp} {v : V} {ks : List Key} (wr : Wr K T P M H) (r : Rep K P v (.tup (ks.map kD))) : ∃ b, v = .ref b ∧ H b = some (.tup (ks.map kV)) := by
  obtain ⟨a, vs, rfl, hs, hr⟩ := r.toTt
  rw [hr.kds] at hs
  exact ⟨a, rfl, wr.tt hs⟩
theorem dget.rd {P : Hp} {M : Mh} {H : Hp} {p : Addr} {y : D} {vy : V} {k : Option D → Prop} (h : dget M p y k) (wr : Wr K T P M H) (ry : Rep K P vy y) : ∃ r o, k r ∧ DGet H p vy o ∧ RepO K P o r := by
  unfold dget at h
  split at h
  · rename_i kds hm
    obtain ⟨j, rfl, h2⟩ := h.get
    obtain ⟨o, ho, rm⟩ := wr.chg _ _ hm
    cases rm with
    | @dct kvs _ hk hr => rw [ry.kd]; exact ⟨_, _, h2, .inl ⟨kvs, j, .inl ho, rfl, rfl⟩, Zk.val (K := K) j ⟨hk, hr⟩⟩
  · rename_i kds hm
    obtain ⟨j, rfl, h2⟩ := h.get
    obtain ⟨o, ho, rm⟩ := wr.chg _ _ hm
    cases rm with
    | @dlk ob kvs _ hk hr => rw [ry.kd]; exact ⟨_, _, h2, .inl ⟨kvs, j, .inr ⟨_, ho⟩, rfl, rfl⟩, Zk.val (K := K) j ⟨hk, hr⟩⟩
  · rename_i kds hm
    obtain ⟨j, rfl, h2⟩ := h.get
    obtain ⟨o, ho, rm⟩ := wr.chg _ _ hm
    obtain ⟨b, rfl, hb⟩ := tkey wr ry
    cases rm with
    | @dcT kvs _ hk hr => exact ⟨_, _, h2, .inr ⟨kvs, j, b, .inl ho, rfl, hb, rfl⟩, Zk.val (K := K) j ⟨hk, hr⟩⟩
  · rename_i kds hm
    obtain ⟨j, rfl, h2⟩ := h.get
    obtain ⟨o, ho, rm⟩ := wr.chg _ _ hm
    obtain ⟨b, rfl, hb⟩ := tkey wr ry
    cases rm with
    | @dlT ob kvs _ hk hr => exact ⟨_, _, h2, .inr ⟨kvs, j, b, .inr ⟨_, ho⟩, rfl, hb, rfl⟩, Zk.val (K := K) j ⟨hk, hr⟩⟩
  · exact h.elim
/-- the dict at p behind p[y] = z -/
def dput (M : Mh) (p : Addr) (y z : D) (k : Mh → Prop) : Prop := match M p with
  | some (.dct kds) => kds.length < 100000 ∧ asK y fun j => k (um M p (.dct (pK kds j z)))
  | some (.dcT kds) => kds.length < 100000 ∧ asTK y fun j => k (um M p (.dcT (pK kds j z)))
  | _ => False
theorem dput_1 {M : Mh} {p : Addr} {y z : D} {k : Mh → Prop} {kds : List (Key × D)} (h : M p = some (.dct kds)) : dput M p y z k = (kds.length < 100000 ∧ asK y fun j => k (um M p (.dct (pK kds j z)))) := by unfold dput; rw [h]
theorem dput_3 {M : Mh} {p : Addr} {y z : D} {k : Mh → Prop} {kds : List (List Key × D)} (h : M p = some (.dcT kds)) : dput M p y z k = (kds.length < 100000 ∧ asTK y fun j => k (um M p (.dcT (pK kds j z)))) := by unfold dput; rw [h]
theorem dput.rd {P : Hp} {M : Mh} {H : Hp} {p : Addr} {y z : D} {vy vz : V} {k : Mh → Prop} (h : dput M p y z k) (wr : Wr K T P M H) (ry : Rep K P vy y) (rz : Rep K P vz z) : ∃ M' H', k M' ∧ DPut H p vy vz H' ∧ Step K T P M H P M' H' := by
  unfold dput at h
  split at h
  · rename_i kds hm
    obtain ⟨hl, h1⟩ := h
    obtain ⟨j, rfl, h2⟩ := h1.get
    obtain ⟨o, ho, rm⟩ := wr.chg _ _ hm
    cases rm with
    | @dct kvs _ hk hr =>
      rw [ry.kd]
      have z1 : Zk K P kvs kds := ⟨hk, hr⟩
      have z2 := z1.put (k := j) rz
      exact ⟨_, _, h2, .inl ⟨kvs, j, ho, rfl, by rw [z1.len]; exact sz_lt hl, rfl⟩, Step.put wr hm (.dct z2.1 z2.2)⟩
  · rename_i kds hm
    obtain ⟨hl, h1⟩ := h
    obtain ⟨j, rfl, h2⟩ := h1.get
    obtain ⟨o, ho, rm⟩ := wr.chg _ _ hm
    obtain ⟨b, rfl, hb⟩ := tkey wr ry
    cases rm with
    | @dcT kvs _ hk hr =>
      have z1 : Zk K P kvs kds := ⟨hk, hr⟩
      have z2 := z1.put (k := j) rz
      exact ⟨_, _, h2, .inr ⟨kvs, j, b, ho, rfl, hb, by rw [z1.len]; exact sz_lt hl, rfl⟩, Step.put wr hm (.dcT z2.1 z2.2)⟩
  · exact h.elim
/-! ### expressions -/
def xDN : XE K T where
  t := fun _ => tDNewK
  w := fun ρ M Φ _ => ∀ p, M p = none → Φ (.ref p) (um M p (.dct []))
  ok := fun h P σ H wr rs Q hq _ => fun p hp => hq _ _ _ _ _ (h p (wr.mfree hp)) (Step.newM wr hp (.dct rfl .nil)) (.ref p)
def xDNT : XE K T where
  t := fun _ => tDNewT
  w := fun ρ M Φ _ => ∀ p, M p = none → Φ (.ref p) (um M p (.dcT []))
  ok := fun h P σ H wr rs Q hq _ => fun p hp => hq _ _ _ _ _ (h p (wr.mfree hp)) (Step.newM wr hp (.dcT rfl .nil)) (.ref p)
/-- o[a], there -/
def xDGet (o a : XE K T) : XE K T where
  t := fun W => tDGet (o.t W) (a.t W)
  w := fun ρ M Φ Ξ => o.w ρ M (fun x M1 => a.w ρ M1 (fun y M2 => asR x fun p => dget M2 p y fun r => ∃ d, r = some d ∧ Φ d M2) Ξ) Ξ
  ok := fun h P σ H wr rs Q hq hx => o.ok h wr rs (fun v x P1 M1 H1 h1 s1 r1 => a.ok h1 s1.wr (rs.mono s1.ex) (fun u y P2 M2 H2 h2 s2 r2 => by
    obtain ⟨p, rfl, h3⟩ := asR.get h2
    obtain ⟨r, ov, ⟨d, rfl, h4⟩, g, ro⟩ := h3.rd s2.wr r2
    rcases ro with ⟨_, z⟩ | ⟨w, d', rfl, e, rd⟩
    · cases z
    · cases e
      exact ⟨p, w, r1.toR, g, hq _ _ _ _ _ h4 (s1.trans s2) rd⟩) (hx.mono s1)) hx
/-- y in d -/
def oInK (neg : Bool) : XO K T where
  r := fun x y H Q => ∃ a o, y = .ref a ∧ DGet H a x o ∧ Q (.bl (if neg then !o.isSome else o.isSome)) H
  w := fun x y M Φ => asR y fun p => dget M p x fun r => Φ (.bl (if neg then !r.isSome else r.isSome)) M
  ok := fun h P H vx vy wr rx ry Q hq => by
    obtain ⟨p, rfl, h1⟩ := asR.get h
    obtain ⟨r, ov, h2, g, ro⟩ := h1.rd wr rx
    refine ⟨p, ov, ry.toR, g, ?_⟩
    have e : ov.isSome = r.isSome := by rcases ro with ⟨a, b⟩ | ⟨_, _, a, b, _⟩ <;> rw [a, b] <;> rfl
    rw [e]
    exact hq _ _ _ _ _ h2 (Step.refl wr) (.bl _)
def isd (M : Mh) (p : Addr) : Prop := match M p with | some (.dct _) => True | some (.dlk _) => True | some (.dcT _) => True | some (.dlT _) => True | _ => False
theorem isd.at {P : Hp} {M : Mh} {H : Hp} {p : Addr} (h : isd M p) (wr : Wr K T P M H) : IsD H p := by
  unfold isd at h
  split at h
  · rename_i hm
    obtain ⟨o, ho, rm⟩ := wr.chg _ _ hm
    cases rm with | dct => exact .inl ⟨_, .inl ho⟩
  · rename_i hm
    obtain ⟨o, ho, rm⟩ := wr.chg _ _ hm
    cases rm with | dlk => exact .inl ⟨_, .inr ⟨_, ho⟩⟩
  · rename_i hm
    obtain ⟨o, ho, rm⟩ := wr.chg _ _ hm
    cases rm with | dcT => exact .inr ⟨_, .inl ho⟩
  · rename_i hm
    obtain ⟨o, ho, rm⟩ := wr.chg _ _ hm
    cases rm with | dlT => exact .inr ⟨_, .inr ⟨_, ho⟩⟩
  · exact h.elim
theorem isd_1 {M : Mh} {p : Addr} {kds : List (Key × D)} (h : M p = some (.dct kds)) : isd M p := by unfold isd; rw [h]; exact trivial
theorem isd_2 {M : Mh} {p : Addr} {kds : List (Key × D)} (h : M p = some (.dlk kds)) : isd M p := by unfold isd; rw [h]; exact trivial
theorem isd_3 {M : Mh} {p : Addr} {kds : List (List Key × D)} (h : M p = some (.dcT kds)) : isd M p := by unfold isd; rw [h]; exact trivial
theorem RepO.getD {P : Hp} {o : Option V} {r : Option D} {v : V} {d : D} (h : RepO K P o r) (rv : Rep K P v d) : Rep K P (o.getD v) (r.getD d) := by
  rcases h with ⟨rfl, rfl⟩ | ⟨a, b, rfl, rfl, q⟩
  · exact rv
  · exact q
theorem RepO.mono {P P' : Hp} {o : Option V} {r : Option D} (h : RepO K P o r) (e : Ex P P') : RepO K P' o r := by
  rcases h with h | ⟨a, b, h1, h2, q⟩
  · exact .inl h
  · exact .inr ⟨a, b, h1, h2, q.mono e⟩
def xDGet1 (o a : XE K T) : XE K T where
  t := fun W => tDGet1 (o.t W) (a.t W)
  w := fun ρ M Φ Ξ => o.w ρ M (fun x M1 => asR x fun p => isd M1 p ∧ a.w ρ M1 (fun y M2 => dget M2 p y fun r => Φ (r.getD .non) M2) Ξ) Ξ
  ok := fun h P σ H wr rs Q hq hx => o.ok h wr rs (fun v x P1 M1 H1 h1 s1 r1 => by
    obtain ⟨p, rfl, hd, h2⟩ := asR.get h1
    exact ⟨p, r1.toR, hd.at s1.wr, a.ok h2 s1.wr (rs.mono s1.ex) (fun u y P2 M2 H2 h3 s2 r2 => by
      obtain ⟨r, ov, h4, g, ro⟩ := h3.rd s2.wr r2
      exact ⟨ov, g, hq _ _ _ _ _ h4 (s1.trans s2) (ro.getD .non)⟩) (hx.mono s1)⟩) hx
def xDGet2 (o a b : XE K T) : XE K T where
  t := fun W => tDGet2 (o.t W) (a.t W) (b.t W)
  w := fun ρ M Φ Ξ => o.w ρ M (fun x M1 => asR x fun p => isd M1 p ∧ a.w ρ M1 (fun y M2 => b.w ρ M2 (fun z M3 => dget M3 p y fun r => Φ (r.getD z) M3) Ξ) Ξ) Ξ
  ok := fun h P σ H wr rs Q hq hx => o.ok h wr rs (fun v x P1 M1 H1 h1 s1 r1 => by
    obtain ⟨p, rfl, hd, h2⟩ := asR.get h1
    exact ⟨p, r1.toR, hd.at s1.wr, a.ok h2 s1.wr (rs.mono s1.ex) (fun u y P2 M2 H2 h3 s2 r2 => b.ok h3 s2.wr (rs.mono (s1.trans s2).ex) (fun w z P3 M3 H3 h4 s3 r3 => by
      obtain ⟨r, ov, h5, g, ro⟩ := h4.rd s3.wr (r2.mono s3.ex)
      exact ⟨ov, g, hq _ _ _ _ _ h5 ((s1.trans s2).trans s3) (ro.getD r3)⟩) (hx.mono (s1.trans s2))) (hx.mono s1)⟩) hx
def mD (M : Mh) (p : Addr) (k : List (Key × D) → Prop) : Prop := match M p with | some (.dct kds) => k kds | _ => False
theorem mD.get {M : Mh} {p : Addr} {k : List (Key × D) → Prop} (h : mD M p k) : ∃ kds, M p = some (.dct kds) ∧ k kds := by
  unfold mD at h
  split at h
  · exact ⟨_, by assumption, h⟩
  · exact h.elim
theorem mD_of {M : Mh} {p : Addr} {k : List (Key × D) → Prop} {kds : List (Key × D)} (h : M p = some (.dct kds)) : mD M p k = k kds := by unfold mD; rw [h]
theorem mD_um {M : Mh} {p : Addr} {k : List (Key × D) → Prop} {kds : List (Key × D)} : mD (um M p (.dct kds)) p k = k kds := mD_of um_same
/-- d.pop(k), there -/
def xDPop1 (o a : XE K T) : XE K T where
  t := fun W => tDPop1 (o.t W) (a.t W)
  w := fun ρ M Φ Ξ => o.w ρ M (fun x M1 => asR x fun p => isd M1 p ∧ a.w ρ M1 (fun y M2 => mD M2 p fun kds => asK y fun j => ∃ d, vK kds j = some d ∧ Φ d (um M2 p (.dct (dK kds j)))) Ξ) Ξ
  ok := fun h P σ H wr rs Q hq hx => o.ok h wr rs (fun v x P1 M1 H1 h1 s1 r1 => by
    obtain ⟨p, rfl, hd, h2⟩ := asR.get h1
    exact ⟨p, r1.toR, hd.at s1.wr, a.ok h2 s1.wr (rs.mono s1.ex) (fun u y P2 M2 H2 h3 s2 r2 => by
      obtain ⟨kds, hm, h4⟩ := h3.get
      obtain ⟨j, rfl, d, e, h5⟩ := h4.get
      obtain ⟨ob, ho, rm⟩ := s2.wr.chg _ _ hm
      cases rm with
      | @dct kvs _ hk hr =>
        have z1 : Zk K P2 kvs kds := ⟨hk, hr⟩
        have z2 := z1.drop (k := j)
        rcases z1.val j with ⟨_, z⟩ | ⟨w, d', ew, ed, rd⟩
        · rw [e] at z; cases z
        · rw [e] at ed; cases ed
          exact ⟨kvs, j, w, ho, r2.kd, ew, hq _ _ _ _ _ h5 ((s1.trans s2).trans (Step.put s2.wr hm (.dct z2.1 z2.2))) rd⟩) (hx.mono s1)⟩) hx
/-- d.pop(k, x) -/
def xDPop2 (o a b : XE K T) : XE K T where
  t := fun W => tDPop2 (o.t W) (a.t W) (b.t W)
  w := fun ρ M Φ Ξ => o.w ρ M (fun x M1 => asR x fun p => isd M1 p ∧ a.w ρ M1 (fun y M2 => b.w ρ M2 (fun z M3 => mD M3 p fun kds => asK y fun j => (∀ d, vK kds j = some d → Φ d (um M3 p (.dct (dK kds j)))) ∧ (vK kds j = none → Φ z M3)) Ξ) Ξ) Ξ
  ok := fun h P σ H wr rs Q hq hx => o.ok h wr rs (fun v x P1 M1 H1 h1 s1 r1 => by
    obtain ⟨p, rfl, hd, h2⟩ := asR.get h1
    exact ⟨p, r1.toR, hd.at s1.wr, a.ok h2 s1.wr (rs.mono s1.ex) (fun u y P2 M2 H2 h3 s2 r2 => b.ok h3 s2.wr (rs.mono (s1.trans s2).ex) (fun w z P3 M3 H3 h4 s3 r3 => by
      obtain ⟨kds, hm, h4⟩ := h4.get
      obtain ⟨j, rfl, h5, h6⟩ := h4.get
      obtain ⟨ob, ho, rm⟩ := s3.wr.chg _ _ hm
      cases rm with
      | @dct kvs _ hk hr =>
        have z1 : Zk K P3 kvs kds := ⟨hk, hr⟩
        have z2 := z1.drop (k := j)
        refine ⟨kvs, j, ho, r2.kd, fun v ev => ?_, fun ev => ?_⟩
        · rcases z1.val j with ⟨z, _⟩ | ⟨w, d', ew, ed, rd⟩
          · rw [ev] at z; cases z
          · rw [ev] at ew; cases ew
            exact hq _ _ _ _ _ (h5 _ ed) (((s1.trans s2).trans s3).trans (Step.put s3.wr hm (.dct z2.1 z2.2))) rd
        · rcases z1.val j with ⟨_, z⟩ | ⟨w, d', ew, ed, rd⟩
          · exact hq _ _ _ _ _ (h6 z) ((s1.trans s2).trans s3) r3
          · rw [ev] at ew; cases ew) (hx.mono (s1.trans s2))) (hx.mono s1)⟩) hx
/-- o[i] = v -/
def sDSt (o i v : XE K T) : XS K T where
  t := fun W => sDPut (o.t W) (i.t W) (v.t W)
  w := fun ρ M ε Ξ => v.w ρ M (fun z M1 => o.w ρ M1 (fun x M2 => i.w ρ M2 (fun y M3 => asR x fun p => dput M3 p y z fun M4 => ε.nx ρ M4) Ξ) Ξ) Ξ
  ok := fun {W ρ M ε Ξ} h P σ H wr rs Dn hd hx => v.ok h wr rs (fun vz z P1 M1 H1 h1 s1 r1 => o.ok h1 s1.wr (rs.mono s1.ex) (fun vx x P2 M2 H2 h2 s2 r2 => i.ok h2 s2.wr (rs.mono (s1.trans s2).ex) (fun vy y P3 M3 H3 h3 s3 r3 => by
    obtain ⟨p, rfl, h4⟩ := asR.get h3
    obtain ⟨M4, H4, h5, g, s4⟩ := h4.rd s3.wr r3 ((r1.mono s2.ex).mono s3.ex)
    have s14 := ((s1.trans s2).trans s3).trans s4
    exact ⟨p, H4, (r2.mono s3.ex).toR, g, hd.nx _ _ _ _ _ h5 s14 (rs.mono s14.ex)⟩) (hx.mono (s1.trans s2))) (hx.mono s1)) hx
/-! ### builtins -/
def bLenD : XB K T where
  r := fun xs H Q => ∃ a kvs, xs = [V.ref a] ∧ H a = some (.dK kvs) ∧ Q (.int kvs.length) H
  w := fun ds M Φ => arg1 ds fun d => asR d fun p => mD M p fun kds => Φ (.int kds.length) M
  ok := fun h P H vs wr r Q hq => by
    obtain ⟨d, rfl, h1⟩ := h.get
    obtain ⟨v, rfl, r1⟩ := r.one
    obtain ⟨p, rfl, h2⟩ := asR.get h1
    obtain ⟨kds, hm, h3⟩ := h2.get
    obtain ⟨ob, ho, rm⟩ := wr.chg _ _ hm
    cases rm with
    | @dct kvs _ hk hr =>
      have z1 : Zk K P kvs kds := ⟨hk, hr⟩
      exact ⟨p, kvs, by rw [r1.toR], ho, by rw [z1.len]; exact hq _ _ _ _ _ h3 (Step.refl wr) (.int _)⟩
/-- the pairs of a dict that is read -/
def mDr (M : Mh) (p : Addr) (k : List (Key × D) → Prop) : Prop := match M p with | some (.dct kds) => k kds | some (.dlk kds) => k kds | _ => False
theorem mDr_1 {M : Mh} {p : Addr} {k : List (Key × D) → Prop} {kds : List (Key × D)} (h : M p = some (.dct kds)) : mDr M p k = k kds := by unfold mDr; rw [h]
theorem mDr_2 {M : Mh} {p : Addr} {k : List (Key × D) → Prop} {kds : List (Key × D)} (h : M p = some (.dlk kds)) : mDr M p k = k kds := by unfold mDr; rw [h]
theorem mDr.rd {P : Hp} {M : Mh} {H : Hp} {p : Addr} {k : List (Key × D) → Prop} (h : mDr M p k) (wr : Wr K T P M H) : ∃ kds kvs, k kds ∧ Rd H p (.dK kvs) ∧ Zk K P kvs kds := by
  unfold mDr at h
  split at h
  · rename_i hm
    obtain ⟨ob, ho, rm⟩ := wr.chg _ _ hm
    cases rm with | dct hk hr => exact ⟨_, _, h, .inl ho, hk, hr⟩
  · rename_i hm
    obtain ⟨ob, ho, rm⟩ := wr.chg _ _ hm
    cases rm with | dlk hk hr => exact ⟨_, _, h, .inr ⟨_, ho⟩, hk, hr⟩
  · exact h.elim
/-- dict(d) -/
def bDict : XB K T where
  r := fun xs H Q => ∃ (a : Addr) (kvs : List (Key × V)), xs = [.ref a] ∧ Rd H a (.dK kvs) ∧ ∀ p, H p = none → Q (.ref p) (upd H p (.dK kvs))
  w := fun ds M Φ => arg1 ds fun d => asR d fun p => mDr M p fun kds => ∀ q, M q = none → Φ (.ref q) (um M q (.dct kds))
  ok := fun h P H vs wr r Q hq => by
    obtain ⟨d, rfl, h1⟩ := h.get
    obtain ⟨v, rfl, r1⟩ := r.one
    obtain ⟨p, rfl, h2⟩ := asR.get h1
    obtain ⟨kds, kvs, h3, ho, z⟩ := h2.rd wr
    exact ⟨p, kvs, by rw [r1.toR], ho, fun q hp => hq _ _ _ _ _ (h3 q (wr.mfree hp)) (Step.newM wr hp (.dct z.1 z.2)) (.ref q)⟩
theorem repL_keys {P : Hp} : ∀ {kvs : List (Key × V)} {kds : List (Key × D)}, Zk K P kvs kds → RepL K P (kvs.map fun kv => kV kv.1) (kds.map fun kv => kD kv.1)
  | [], kds, h => by rw [h.nil_inv]; exact .nil
  | p :: kvs, kds, h => by
    obtain ⟨d, r, rfl, rp, h2⟩ := h.uncons
    exact .cons (rep_kd _) (repL_keys h2)
/-- list(d) -/
def bListD : XB K T where
  r := fun xs H Q => ∃ (a : Addr) (kvs : List (Key × V)), xs = [.ref a] ∧ Rd H a (.dK kvs) ∧ ∀ p, H p = none → Q (.ref p) (upd H p (.lst (kvs.map fun kv => kV kv.1)))
  w := fun ds M Φ => arg1 ds fun d => asR d fun p => mDr M p fun kds => Φ (.lst (kds.map fun kv => kD kv.1)) M
  ok := fun h P H vs wr r Q hq => by
    obtain ⟨d, rfl, h1⟩ := h.get
    obtain ⟨v, rfl, r1⟩ := r.one
    obtain ⟨p, rfl, h2⟩ := asR.get h1
    obtain ⟨kds, kvs, h3, ho, z⟩ := h2.rd wr
    exact ⟨p, kvs, by rw [r1.toR], ho, fun q hp => let s := Step.newP wr (o := .lst (kvs.map fun kv => kV kv.1)) hp; hq _ _ _ _ _ h3 s (.lst upd_same (RepL.mono s.ex (repL_keys z)))⟩
/-- all are ints -/
def intsD : List D → Option (List Int)
  | [] => some []
  | .int s :: r => (intsD r).map (s :: ·)
  | _ :: _ => none
theorem intsD_rep {P : Hp} : ∀ {vs : List V} {ds : List D} {xs : List Int}, RepL K P vs ds → intsD ds = some xs → vs = xs.map V.int
  | _, _, _, .nil, h => by cases h; rfl
  | _, .int s :: ds, xs, .cons r t, h => by
    unfold intsD at h
    cases e : intsD ds with
    | none => rw [e] at h; cases h
    | some ys => rw [e] at h; cases h; rw [r.toI, intsD_rep t e]; rfl
theorem intsD_map : ∀ (xs : List Int), intsD (xs.map D.int) = some xs
  | [] => rfl
  | x :: xs => by show (intsD (xs.map D.int)).map (x :: ·) = _; rw [intsD_map xs]; rfl
def asIs (ds : List D) (k : List Int → Prop) : Prop := match intsD ds with | some xs => k xs | none => False
theorem asIs_ {xs : List Int} {k : List Int → Prop} : asIs (xs.map D.int) k = k xs := by unfold asIs; rw [intsD_map]
def bSum : XB K T where
  r := rSum K
  w := fun ds M Φ => arg1 ds fun d => asL d M fun es => asIs es fun xs => Φ (.int xs.sum) M
  ok := fun h P H vs wr r Q hq => by
    obtain ⟨d, rfl, h1⟩ := h.get
    obtain ⟨v, rfl, r1⟩ := r.one
    obtain ⟨es, a, us, h2, rfl, hs, hr⟩ := h1.rd wr r1
    unfold asIs at h2
    cases e : intsD es with
    | none => rw [e] at h2; exact h2.elim
    | some xs =>
      rw [e] at h2
      have e2 := intsD_rep hr e
      subst e2
      exact ⟨a, xs, rfl, hs, hq _ _ _ _ _ h2 (Step.refl wr) (.int _)⟩
def bMinI : XB K T where
  r := rMin K
  w := fun ds M Φ => arg1 ds fun d => asL d M fun es => asIs es fun xs => 0 < xs.length ∧ ∀ m, m ∈ xs → (∀ y, y ∈ xs → m ≤ y) → Φ (.int m) M
  ok := fun h P H vs wr r Q hq => by
    obtain ⟨d, rfl, h1⟩ := h.get
    obtain ⟨v, rfl, r1⟩ := r.one
    obtain ⟨es, a, us, h2, rfl, hs, hr⟩ := h1.rd wr r1
    unfold asIs at h2
    cases e : intsD es with
    | none => rw [e] at h2; exact h2.elim
    | some xs =>
      rw [e] at h2
      have e2 := intsD_rep hr e
      subst e2
      exact ⟨a, xs, rfl, hs, h2.1, fun m h3 h4 => hq _ _ _ _ _ (h2.2 m h3 h4) (Step.refl wr) (.int _)⟩
def bMaxI : XB K T where
  r := rMax K
  w := fun ds M Φ => arg1 ds fun d => asL d M fun es => asIs es fun xs => 0 < xs.length ∧ ∀ m, m ∈ xs → (∀ y, y ∈ xs → y ≤ m) → Φ (.int m) M
  ok := fun h P H vs wr r Q hq => by
    obtain ⟨d, rfl, h1⟩ := h.get
    obtain ⟨v, rfl, r1⟩ := r.one
    obtain ⟨es, a, us, h2, rfl, hs, hr⟩ := h1.rd wr r1
    unfold asIs at h2
    cases e : intsD es with
    | none => rw [e] at h2; exact h2.elim
    | some xs =>
      rw [e] at h2
      have e2 := intsD_rep hr e
      subst e2
      exact ⟨a, xs, rfl, hs, h2.1, fun m h3 h4 => hq _ _ _ _ _ (h2.2 m h3 h4) (Step.refl wr) (.int _)⟩
end
end Ab

set_option Elab.async false
set_option linter.all false
set_option maxRecDepth 100000
set_option maxHeartbeats 2000000
namespace Ab
open PySem PySem.Spec PyProof.Rows L2
section
variable {K : PySem.W.Frag} {T : Tt}
/-! ### locks -/
def lkd (M : Mh) (p : Addr) (k : MO → MO → Prop) : Prop := match M p with
  | some (.dct kds) => k (.dct kds) (.dlk kds)
  | some (.dcT kds) => k (.dcT kds) (.dlT kds)
  | _ => False
theorem lkd_1 {M : Mh} {p : Addr} {k : MO → MO → Prop} {kds : List (Key × D)} (h : M p = some (.dct kds)) : lkd M p k = k (.dct kds) (.dlk kds) := by unfold lkd; rw [h]
theorem lkd_3 {M : Mh} {p : Addr} {k : MO → MO → Prop} {kds : List (List Key × D)} (h : M p = some (.dcT kds)) : lkd M p k = k (.dcT kds) (.dlT kds) := by unfold lkd; rw [h]
theorem lkd.get {M : Mh} {p : Addr} {k : MO → MO → Prop} (h : lkd M p k) : ∃ m m', M p = some m ∧ k m m' ∧ m.lk = false ∧ ∀ P o, RepM K P o m → Mut (some o) ∧ ∀ od, RepM K P (.frz od o) m' := by
  unfold lkd at h
  split at h
  · exact ⟨_, _, by assumption, h, rfl, fun P o r => by cases r with | dct a b => exact ⟨trivial, fun od => .dlk a b⟩⟩
  · exact ⟨_, _, by assumption, h, rfl, fun P o r => by cases r with | dcT a b => exact ⟨trivial, fun od => .dlT a b⟩⟩
  · exact h.elim
/-- a statement while a dict is locked -/
def sLk (s : XS K T) : XS K T where
  t := fun W => tLock (s.t W)
  w := fun ρ M ε Ξ => ∃ p, lkd M p fun m m' => s.w ρ (um M p m') ⟨fun ρ' M' => M' p = some m' ∧ ε.nx ρ' (um M' p m), fun d M' => M' p = some m' ∧ ε.rt d (um M' p m), fun ρ' M' => M' p = some m' ∧ ε.bk ρ' (um M' p m), fun ρ' M' => M' p = some m' ∧ ε.ct ρ' (um M' p m)⟩ Ξ
  ok := fun {W ρ M ε Ξ} h P σ H wr rs Dn hd hx => by
    obtain ⟨p, h1⟩ := h
    obtain ⟨m, m', hm, h2, nl, hr⟩ := h1.get (K := K)
    obtain ⟨o, ho, rm⟩ := wr.chg _ _ hm
    refine ⟨p, o, ho, (hr _ _ rm).1, fun od => ?_⟩
    have s0 := Step.put wr hm ((hr _ _ rm).2 od) nl
    have un : ∀ {P' : Hp} {M' : Mh} {H' : Hp}, M' p = some m' → Step K T P (um M p m') (upd H p (.frz od o)) P' M' H' → H' p = some (.frz od o) ∧ Step K T P M H P' (um M' p m) (upd H' p o) :=
      fun e st => ⟨st.fz p od o upd_same, Step.unlock wr hm nl (s0.trans st) e (rm.mono (s0.trans st).ex)⟩
    exact s.ok h2 s0.wr rs ⟨fun ρ1 σ1 P1 M1 H1 q st rs1 => ⟨(un q.1 st).1, hd.nx _ _ _ _ _ q.2 (un q.1 st).2 rs1⟩, fun v d P1 M1 H1 q st r1 => ⟨(un q.1 st).1, hd.rt _ _ _ _ _ q.2 (un q.1 st).2 r1⟩,
      fun ρ1 σ1 P1 M1 H1 q st rs1 => ⟨(un q.1 st).1, hd.bk _ _ _ _ _ q.2 (un q.1 st).2 rs1⟩, fun ρ1 σ1 P1 M1 H1 q st rs1 => ⟨(un q.1 st).1, hd.ct _ _ _ _ _ q.2 (un q.1 st).2 rs1⟩⟩ (hx.mono s0)
/-- an expression while a dict is locked -/
def xLk (a : XE K T) : XE K T where
  t := fun W => tLockE (a.t W)
  w := fun ρ M Φ Ξ => ∃ p, lkd M p fun m m' => a.w ρ (um M p m') (fun d M' => M' p = some m' ∧ Φ d (um M' p m)) Ξ
  ok := fun {W ρ M Φ Ξ} h P σ H wr rs Q hq hx => by
    obtain ⟨p, h1⟩ := h
    obtain ⟨m, m', hm, h2, nl, hr⟩ := h1.get (K := K)
    obtain ⟨o, ho, rm⟩ := wr.chg _ _ hm
    refine ⟨p, o, ho, (hr _ _ rm).1, fun od => ?_⟩
    have s0 := Step.put wr hm ((hr _ _ rm).2 od) nl
    exact a.ok h2 s0.wr rs (fun v d P1 M1 H1 q st r1 => ⟨st.fz p od o upd_same, hq _ _ _ _ _ q.2 (Step.unlock wr hm nl (s0.trans st) q.1 (rm.mono (s0.trans st).ex)) r1⟩) (hx.mono s0)
/-! ### walks of a dict -/
def wlkK (M : Mh) (p : Addr) (k : List D → Prop) : Prop := match M p with
  | some (.dlk kds) => k (kds.map fun kv => kD kv.1)
  | some (.dlT kds) => k (kds.map fun kv => .tup (kv.1.map kD))
  | _ => False
def wlkI (M : Mh) (p : Addr) (f : Key × D → D) (k : List D → Prop) : Prop := match M p with
  | some (.dlk kds) => k (kds.map f)
  | _ => False
theorem wlkK_1 {M : Mh} {p : Addr} {k : List D → Prop} {kds : List (Key × D)} (h : M p = some (.dlk kds)) : wlkK M p k = k (kds.map fun kv => kD kv.1) := by unfold wlkK; rw [h]
theorem wlkK_2 {M : Mh} {p : Addr} {k : List D → Prop} {kds : List (List Key × D)} (h : M p = some (.dlT kds)) : wlkK M p k = k (kds.map fun kv => .tup (kv.1.map kD)) := by unfold wlkK; rw [h]
theorem wlkI_1 {M : Mh} {p : Addr} {f : Key × D → D} {k : List D → Prop} {kds : List (Key × D)} (h : M p = some (.dlk kds)) : wlkI M p f k = k (kds.map f) := by unfold wlkI; rw [h]
theorem map_get {α β : Type} {f : α → β} {l : List α} {i : Nat} {d : β} (h : (l.map f)[i]? = some d) : ∃ x, l[i]? = some x ∧ d = f x := by
  rw [List.getElem?_map] at h
  cases e : l[i]? with
  | none => rw [e] at h; cases h
  | some x => rw [e] at h; cases h; exact ⟨x, rfl, rfl⟩
theorem get_lt {α : Type} {l : List α} {i : Nat} {d : α} (h : l[i]? = some d) : i < l.length := (List.getElem?_eq_some_iff.mp h).1
def iDK (a : XE K T) : XI K T where
  t := fun W => iKeys (a.t W)
  w := fun ρ M Φ Ξ => a.w ρ M (fun d M1 => asR d fun p => wlkK M1 p fun ds => Φ ds (fun _ => True) M1) Ξ
  ok := fun h P σ H wr rs R hq hx => a.ok h wr rs (fun v d P1 M1 H1 h1 s1 r1 => by
    obtain ⟨p, rfl, h2⟩ := asR.get h1
    unfold wlkK at h2
    split at h2
    · rename_i kds hm
      obtain ⟨o, ho, rm⟩ := s1.wr.chg _ _ hm
      cases rm with
      | @dlk ob kvs _ hk hr =>
        have z : Zk K P1 kvs kds := ⟨hk, hr⟩
        refine ⟨p, ob, r1.toR, .inl ⟨kvs, ho, hq _ _ _ _ _ _ h2 s1 fun P2 M2 H2 s2 _ => ?_⟩⟩
        have e2 := s2.fz _ _ _ ho
        refine ⟨fun i d hi => ?_, ⟨e2, by rw [List.length_map, z.len]; exact Nat.le_refl _⟩⟩
        obtain ⟨kv, hi2, rfl⟩ := map_get hi
        obtain ⟨w, hw, rw'⟩ := z.getd (k := kv.1) (d := kv.2) hi2
        refine ⟨⟨e2, get_lt hw⟩, fun x H3 y => ?_⟩
        obtain ⟨rfl, k, v', e3, rfl⟩ := y
        rw [hw] at e3
        cases e3
        exact ⟨P2, Step.refl s2.wr, rep_kd _⟩
    · rename_i kds hm
      obtain ⟨o, ho, rm⟩ := s1.wr.chg _ _ hm
      cases rm with
      | @dlT ob kvs _ hk hr =>
        have z : Zk K P1 kvs kds := ⟨hk, hr⟩
        refine ⟨p, ob, r1.toR, .inr ⟨kvs, ho, hq _ _ _ _ _ _ h2 s1 fun P2 M2 H2 s2 _ => ?_⟩⟩
        have e2 := s2.fz _ _ _ ho
        refine ⟨fun i d hi => ?_, ⟨e2, by rw [List.length_map, z.len]; exact Nat.le_refl _⟩⟩
        obtain ⟨kv, hi2, rfl⟩ := map_get hi
        obtain ⟨w, hw, rw'⟩ := z.getd (k := kv.1) (d := kv.2) hi2
        refine ⟨⟨e2, get_lt hw⟩, fun x H3 y => ?_⟩
        obtain ⟨rfl, k, v', q, e3, rfl, hq'⟩ := y
        rw [hw] at e3
        cases e3
        refine ⟨_, Step.knowT s2.wr hq', .tup upd_same ?_⟩
        have : ∀ {P : Hp} (ks : List Key), RepL K P (ks.map kV) (ks.map kD) := fun {P} ks => by
          induction ks with
          | nil => exact .nil
          | cons k ks ih => exact .cons (rep_kd k) ih
        exact this _
    · exact h2.elim) hx
/-- the pairs -/
def pairD (kv : Key × D) : D := .tup [kD kv.1, kv.2]
def iDI (a : XE K T) : XI K T where
  t := fun W => iItems (a.t W)
  w := fun ρ M Φ Ξ => a.w ρ M (fun d M1 => asR d fun p => wlkI M1 p pairD fun ds => Φ ds (fun _ => True) M1) Ξ
  ok := fun h P σ H wr rs R hq hx => a.ok h wr rs (fun v d P1 M1 H1 h1 s1 r1 => by
    obtain ⟨p, rfl, h2⟩ := asR.get h1
    unfold wlkI at h2
    split at h2
    · rename_i kds hm
      obtain ⟨o, ho, rm⟩ := s1.wr.chg _ _ hm
      cases rm with
      | @dlk ob kvs _ hk hr =>
        have z : Zk K P1 kvs kds := ⟨hk, hr⟩
        refine ⟨p, ob, kvs, r1.toR, ho, hq _ _ _ _ _ _ h2 s1 fun P2 M2 H2 s2 _ => ?_⟩
        have e2 := s2.fz _ _ _ ho
        refine ⟨fun i d hi => ?_, ⟨e2, by rw [List.length_map, z.len]; exact Nat.le_refl _⟩⟩
        obtain ⟨kv, hi2, rfl⟩ := map_get hi
        obtain ⟨w, hw, rw'⟩ := z.getd (k := kv.1) (d := kv.2) hi2
        refine ⟨⟨e2, get_lt hw⟩, fun x H3 y => ?_⟩
        obtain ⟨t, k, v', e3, rfl, hn, rfl⟩ := y
        rw [hw] at e3
        cases e3
        have s3 := Step.newP s2.wr (o := .tup [kV kv.1, w]) hn
        exact ⟨_, s3, .tup upd_same (.cons (rep_kd _) (.cons (rw'.mono (s2.ex.trans s3.ex)) .nil))⟩
    · exact h2.elim) hx
def iDV (a : XE K T) : XI K T where
  t := fun W => iVals (a.t W)
  w := fun ρ M Φ Ξ => a.w ρ M (fun d M1 => asR d fun p => wlkI M1 p Prod.snd fun ds => Φ ds (fun _ => True) M1) Ξ
  ok := fun h P σ H wr rs R hq hx => a.ok h wr rs (fun v d P1 M1 H1 h1 s1 r1 => by
    obtain ⟨p, rfl, h2⟩ := asR.get h1
    unfold wlkI at h2
    split at h2
    · rename_i kds hm
      obtain ⟨o, ho, rm⟩ := s1.wr.chg _ _ hm
      cases rm with
      | @dlk ob kvs _ hk hr =>
        have z : Zk K P1 kvs kds := ⟨hk, hr⟩
        refine ⟨p, ob, kvs, r1.toR, ho, hq _ _ _ _ _ _ h2 s1 fun P2 M2 H2 s2 _ => ?_⟩
        have e2 := s2.fz _ _ _ ho
        refine ⟨fun i d hi => ?_, ⟨e2, by rw [List.length_map, z.len]; exact Nat.le_refl _⟩⟩
        obtain ⟨kv, hi2, rfl⟩ := map_get hi
        obtain ⟨w, hw, rw'⟩ := z.getd (k := kv.1) (d := kv.2) hi2
        refine ⟨⟨e2, get_lt hw⟩, fun x H3 y => ?_⟩
        obtain ⟨rfl, k, e3⟩ := y
        rw [hw] at e3
        cases e3
        exact ⟨P2, Step.refl s2.wr, rw'.mono s2.ex⟩
    · exact h2.elim) hx
/-! ### dict comprehensions -/
def dcW (it : XI K T) (g : CG) (q : XT K T) (ek ev : XE K T) (ρ : Sl) (M : Mh) (F : List (Key × D) → Mh → Prop) (Ξ : XP) : Prop :=
  it.w ρ M (fun ds St M1 => ds.length ≤ 100000 ∧ ∃ I : Nat → List (Key × D) → Mh → Prop, I 0 [] M1 ∧ (∀ i acc M', I i acc M' → St M') ∧
    (∀ i d acc M', ds[i]? = some d → I i acc M' → g.w d (wipeD ρ g.slots) fun ρ2 => q.w ρ2 M' (fun b M2 => if b = true then ek.w ρ2 M2 (fun y M3 => ev.w ρ2 M3 (fun z M4 => asK y fun j => I (i + 1) (pK acc j z) M4) (fun _ _ _ _ => False)) (fun _ _ _ _ => False) else I (i + 1) acc M2) (fun _ _ _ _ => False)) ∧
    (∀ acc M', I ds.length acc M' → F acc M')) Ξ
def xDc (it : XI K T) (g : CG) (q : XT K T) (ek ev : XE K T) : XE K T where
  t := fun W => tDc (it.t W) (g.t K) (q.t WX0) (ek.t WX0) (ev.t WX0) g.slots
  w := fun ρ M Φ Ξ => dcW it g q ek ev ρ M (fun acc M' => ∀ p, M' p = none → Φ (.ref p) (um M' p (.dct acc))) Ξ
  ok := fun {W ρ M Φ Ξ} h P σ H wr rs Q hq hx => by
    refine it.ok h wr rs (fun J ds St P1 M1 H1 h1 s1 hg => ?_) hx
    obtain ⟨hlen, I, h0, hst, hs, he⟩ := h1
    intro p hp
    have pf1 := s1.wr.pfree hp
    have mf1 := s1.wr.mfree hp
    have nt := s1.wr.tne hp
    have S0 : Step K T P1 M1 H1 P1 M1 (upd H1 p (.dK [])) := (Step.refl s1.wr).side hp pf1 mf1 nt
    refine ⟨fun i m H' => m = ds.length - i ∧ i ≤ ds.length ∧ ∃ acc vs P' M', I i acc M' ∧ acc.length ≤ i ∧ Step K T P1 M1 H1 P' M' H' ∧ H' p = some (.dK vs) ∧ Zk K P' vs acc ∧ P' p = none ∧ M' p = none,
      ⟨ds.length, by simp, Nat.zero_le _, [], [], P1, M1, h0, Nat.zero_le _, S0, upd_same, Zk.nil, pf1, mf1⟩, ?_⟩
    rintro i m H' ⟨rfl, hi, acc, vs, P', M', hI, hal, st, hp', hr, pp, mp⟩
    obtain ⟨g1, g2⟩ := hg P' M' H' st.w (hst i acc M' hI)
    by_cases hlt : i < ds.length
    · have ee : ds[i]? = some ds[i] := by simp [hlt]
      obtain ⟨k1, k2⟩ := g1 i _ ee
      refine .inr ⟨k1, fun H2 => ∃ acc vs P' M', I (i + 1) acc M' ∧ acc.length ≤ i + 1 ∧ Step K T P1 M1 H1 P' M' H2 ∧ H2 p = some (.dK vs) ∧ Zk K P' vs acc ∧ P' p = none ∧ M' p = none, fun H2 q => ⟨ds.length - (i + 1), by omega, rfl, hlt, q⟩, fun x H3 y => ?_⟩
      obtain ⟨P3, s3, r3⟩ := k2 x H3 y
      obtain ⟨hp3, pp3, mp3⟩ := s3.fr p _ hp' pp mp nt (fun _ z => nomatch z) (fun _ z => nomatch z)
      have st3 := st.trans s3
      have rs3 : RepS K P3 (L2.wipe σ g.slots) (wipeD ρ g.slots) := (rs.mono (s1.trans st3).ex).wipe _
      refine CG.ok (hs i _ acc M' ee hI) s3.wr rs3 r3 fun σ4 ρ4 h4 rs4 hl4 hk4 => ⟨?_, ?_⟩
      · have q1 : L2.wipe σ4 g.slots = L2.wipe (L2.wipe σ g.slots) g.slots := wipe_eq hl4 hk4
        have q2 : L2.wipe (L2.wipe σ g.slots) g.slots = L2.wipe σ g.slots := wipe_eq (wipe_length σ g.slots) fun k hk => wipe_out hk
        rw [q1, q2]
      · refine q.ok h4 s3.wr rs4 (fun b P5 M5 H5 h5 s5 => ?_) (fun _ _ _ _ _ _ _ z _ _ => z.elim)
        obtain ⟨hp5, pp5, mp5⟩ := s5.fr p _ hp3 pp3 mp3 nt (fun _ z => nomatch z) (fun _ z => nomatch z)
        cases b with
        | true =>
          refine ek.ok h5 s5.wr (rs4.mono s5.ex) (fun v d P6 M6 H6 h6 s6 r6 => ?_) (fun _ _ _ _ _ _ _ z _ _ => z.elim)
          obtain ⟨hp6, pp6, mp6⟩ := s6.fr p _ hp5 pp5 mp5 nt (fun _ z => nomatch z) (fun _ z => nomatch z)
          refine ev.ok h6 s6.wr (rs4.mono (s5.trans s6).ex) (fun v7 d7 P7 M7 H7 h7 s7 r7 => ?_) (fun _ _ _ _ _ _ _ z _ _ => z.elim)
          obtain ⟨hp7, pp7, mp7⟩ := s7.fr p _ hp6 pp6 mp6 nt (fun _ z => nomatch z) (fun _ z => nomatch z)
          have st7 := ((st3.trans s5).trans s6).trans s7
          obtain ⟨j, rfl, h8⟩ := h7.get
          have zz := (hr.mono (((s3.trans s5).trans s6).trans s7).ex).put (k := j) r7
          refine ⟨vs, j, r6.kd, hp7, ?_, _, _, P7, M7, h8, ?_, st7.side hp pp7 mp7 nt, upd_same, zz, pp7, mp7⟩
          · rw [hr.len]; exact sz_lt (by omega)
          · have := pK_len acc j d7; omega
        | false => exact ⟨acc, vs, P5, M5, h5, by omega, st3.trans s5, hp5, hr.mono (s3.trans s5).ex, pp5, mp5⟩
    · have e : i = ds.length := by omega
      subst e
      exact .inl ⟨g2, hq _ _ _ _ _ (he acc M' hI p mp) (s1.trans (st.adoptM hp pp mp nt hp' (.dct hr.1 hr.2))) (.ref p)⟩
/-! ### dicts compared: equal ones -/
def eqDs (ks ls : List (Key × D)) : Prop := ks.length = ls.length ∧ ∀ kd ∈ ks, (scD kd.2).isSome = true ∧ vK ls kd.1 = some kd.2
def oEqDc (neg : Bool) : XO K T where
  r := if neg then rNeDA else rEqDA
  w := fun x y M Φ => asR x fun p => asR y fun q => mD M p fun ks => mD M q fun ls => eqDs ks ls ∧ Φ (.bl (!neg)) M
  ok := fun {x y M Φ} h P H vx vy wr rx ry Q hq => by
    obtain ⟨p, rfl, h1⟩ := asR.get h
    obtain ⟨q, rfl, h2⟩ := asR.get h1
    obtain ⟨ks, hm, h3⟩ := h2.get
    obtain ⟨ls, hn, ⟨h4, h5⟩, h6⟩ := h3.get
    obtain ⟨o1, ho1, rm1⟩ := wr.chg _ _ hm
    obtain ⟨o2, ho2, rm2⟩ := wr.chg _ _ hn
    cases rm1 with
    | @dct kvs _ a1 a2 =>
      cases rm2 with
      | @dct lvs _ b1 b2 =>
        have z1 : Zk K P kvs ks := ⟨a1, a2⟩
        have z2 : Zk K P lvs ls := ⟨b1, b2⟩
        have hp : ∀ u ∈ kvs, valV lvs u.1 = some u.2 ∧ flatB u.2 = true := fun u hu => by
          obtain ⟨i, hi⟩ := List.getElem?_of_mem hu
          obtain ⟨d, hd, rd⟩ := z1.get hi
          obtain ⟨c1, c2⟩ := h5 _ (List.mem_of_getElem? hd)
          obtain ⟨s, hs⟩ := Option.isSome_iff_exists.mp c1
          have e1 := scD_rep rd hs
          rcases z2.val u.1 with ⟨_, e⟩ | ⟨v, d', e3, e4, r4⟩
          · rw [c2] at e; cases e
          · rw [c2] at e4; cases e4
            have e5 := scD_rep r4 hs
            rw [e3, e5, e1]
            exact ⟨rfl, by cases d <;> first | (cases hs; rfl) | cases hs⟩
        have fin : Q (.bl (!neg)) H := hq _ _ _ _ _ h6 (Step.refl wr) (.bl _)
        cases neg with
        | true => exact ⟨p, q, kvs, lvs, rx.toR, ry.toR, ho1, ho2, by rw [z1.len, z2.len]; exact h4, hp, fin⟩
        | false => exact ⟨p, q, kvs, lvs, rx.toR, ry.toR, ho1, ho2, by rw [z1.len, z2.len]; exact h4, hp, fin⟩
/-! ### isinstance -/
def xTy (n : String) : XE K T := ⟨fun _ => tC (.ty n), fun _ M Φ _ => Φ (.ty n) M, fun h _ _ _ wr _ _ hq _ => hq _ _ _ _ _ h (Step.refl wr) (.ty n)⟩
def tyM (M : Mh) (p : Addr) (k : String → Prop) : Prop := match M p with
  | some (.lst _) => k "list" | some (.dct _) => k "dict" | some (.dcT _) => k "dict" | some (.dlk _) => k "dict" | _ => False
def tyD (M : Mh) (d : D) (k : String → Prop) : Prop := match d with
  | .non => k "NoneType" | .bl _ => k "bool" | .int _ => k "int" | .str _ => k "str" | .tup _ => k "tuple" | .lst _ => k "list" | .ref p => tyM M p k
  | _ => False
theorem tyM_1 {M : Mh} {p : Addr} {k : String → Prop} {ds : List D} (h : M p = some (.lst ds)) : tyM M p k = k "list" := by unfold tyM; rw [h]
theorem tyM_2 {M : Mh} {p : Addr} {k : String → Prop} {ds : List (Key × D)} (h : M p = some (.dct ds)) : tyM M p k = k "dict" := by unfold tyM; rw [h]
theorem tyD_1 {M : Mh} {k : String → Prop} : tyD M .non k = k "NoneType" := rfl
theorem tyD_2 {M : Mh} {k : String → Prop} {b : Bool} : tyD M (.bl b) k = k "bool" := rfl
theorem tyD_3 {M : Mh} {k : String → Prop} {b : Int} : tyD M (.int b) k = k "int" := rfl
theorem tyD_4 {M : Mh} {k : String → Prop} {b : Str} : tyD M (.str b) k = k "str" := rfl
theorem tyD_5 {M : Mh} {k : String → Prop} {b : List D} : tyD M (.tup b) k = k "tuple" := rfl
theorem tyD_6 {M : Mh} {k : String → Prop} {b : List D} : tyD M (.lst b) k = k "list" := rfl
theorem tyD_7 {M : Mh} {k : String → Prop} {p : Addr} : tyD M (.ref p) k = tyM M p k := rfl
theorem tyD.rd {P : Hp} {M : Mh} {H : Hp} {d : D} {v : V} {k : String → Prop} (h : tyD M d k) (wr : Wr K T P M H) (r : Rep K P v d) : ∃ n, k n ∧ TyX K H v (.type n) := by
  cases d with
  | non => rw [r.toN]; exact ⟨_, h, .base .non⟩
  | bl b => rw [r.toB]; exact ⟨_, h, .base (.bl _)⟩
  | int b => rw [r.toI]; exact ⟨_, h, .base (.int _)⟩
  | str b => rw [r.toS]; exact ⟨_, h, .base (.str _)⟩
  | tup ds =>
    obtain ⟨a, vs, rfl, hs, hr⟩ := r.toTt
    exact ⟨_, h, .base (.tup (wr.tt hs))⟩
  | lst ds =>
    obtain ⟨a, vs, rfl, hs, hr⟩ := r.toL
    rcases wr.pure _ _ hs with q | ⟨_, _, z, _⟩
    · exact ⟨_, h, .base (.lst q)⟩
    · cases z
  | ref p =>
    rw [r.toR]
    rw [tyD_7] at h
    unfold tyM at h
    split at h
    · rename_i hm
      obtain ⟨o, ho, rm⟩ := wr.chg _ _ hm
      cases rm with | lst => exact ⟨_, h, .base (.lst ho)⟩
    · rename_i hm
      obtain ⟨o, ho, rm⟩ := wr.chg _ _ hm
      cases rm with | dct => exact ⟨_, h, .base (.dK ho)⟩
    · rename_i hm
      obtain ⟨o, ho, rm⟩ := wr.chg _ _ hm
      cases rm with | dcT => exact ⟨_, h, .base (.dT ho)⟩
    · rename_i hm
      obtain ⟨o, ho, rm⟩ := wr.chg _ _ hm
      cases rm with | dlk => exact ⟨_, h, .fDict ho⟩
    · exact h.elim
  | _ => exact h.elim
def isTy (d : D) (k : String → Prop) : Prop := match d with | .ty n => k n | _ => False
theorem isTy_ {n : String} {k : String → Prop} : isTy (.ty n) k = k n := rfl
def bIsi : XB K T where
  r := rIsi K
  w := fun ds M Φ => match ds with | [x, y] => tyD M x fun t => isTy y fun n => ∃ b, kitB t n = some b ∧ Φ (.bl b) M | _ => False
  ok := fun {ds M Φ} h P H vs wr r Q hq => by
    match ds, h, r with
    | [x, y], h, r =>
      obtain ⟨v, u, rfl, r1, r2⟩ := r.two
      obtain ⟨t, h1, ty⟩ := tyD.rd h wr r1
      cases y with
      | ty n =>
        obtain ⟨b, hb, h2⟩ := h1
        cases r2
        exact ⟨v, .ty n, .type t, .type n, b, rfl, .ty n, ty, kit_ty hb, hq _ _ _ _ _ h2 (Step.refl wr) (.bl _)⟩
      | _ => exact h1.elim
theorem bIsi_w {x y : D} {M : Mh} {Φ : D → Mh → Prop} : (bIsi (K := K) (T := T)).w [x, y] M Φ = tyD M x fun t => isTy y fun n => ∃ b, kitB t n = some b ∧ Φ (.bl b) M := rfl
/-- the classes of a tuple, from the left -/
def kitBs (t : String) : List String → Option Bool
  | [] => some false
  | n :: r => match kitB t n with | some true => some true | some false => kitBs t r | none => none
def tysD : List D → Option (List String)
  | [] => some []
  | .ty n :: r => (tysD r).map (n :: ·)
  | _ :: _ => none
theorem kitBs_ok {t : String} : ∀ {ns : List String} {b : Bool}, kitBs t ns = some b → PySem.W.kitAny K (.type t) (ns.map Value.type) = some b
  | [], b, h => by cases h; exact kitAny_nil
  | n :: r, b, h => by
    unfold kitBs at h
    cases e : kitB t n with
    | none => rw [e] at h; cases h
    | some c =>
      rw [e] at h
      cases c with
      | true => cases h; exact kitAny_cons (b := true) (r := true) (kit_ty e) (fun z => nomatch z) (fun _ => rfl)
      | false => exact kitAny_cons (kit_ty e) (fun _ => kitBs_ok h) (fun z => nomatch z)
theorem tysD_rep {P : Hp} : ∀ {vs : List V} {ds : List D} {ns : List String}, RepL K P vs ds → tysD ds = some ns → Paired ClsV vs (ns.map Value.type)
  | _, _, _, .nil, h => by cases h; exact .nil
  | _, .ty n :: ds, ns, .cons r t, h => by
    unfold tysD at h
    cases e : tysD ds with
    | none => rw [e] at h; cases h
    | some ms => rw [e] at h; cases h; cases r; exact .cons (.ty n) (tysD_rep t e)
def isTys (d : D) (k : List String → Prop) : Prop := match d with | .tup ds => (match tysD ds with | some ns => k ns | none => False) | _ => False
def bIsiT : XB K T where
  r := rIsiT K
  w := fun ds M Φ => match ds with | [x, y] => tyD M x fun t => isTys y fun ns => ∃ b, kitBs t ns = some b ∧ Φ (.bl b) M | _ => False
  ok := fun {ds M Φ} h P H vs wr r Q hq => by
    match ds, h, r with
    | [x, y], h, r =>
      obtain ⟨v, u, rfl, r1, r2⟩ := r.two
      obtain ⟨t, h1, ty⟩ := tyD.rd h wr r1
      cases y with
      | tup es =>
        unfold isTys at h1
        cases e : tysD es with
        | none => simp only [e] at h1
        | some ns =>
          simp only [e] at h1
          obtain ⟨b, hb, h2⟩ := h1
          obtain ⟨a, us, rfl, hs, hr⟩ := r2.toTt
          exact ⟨v, a, us, .type t, ns.map Value.type, b, rfl, wr.tt hs, tysD_rep hr e, ty, kitBs_ok hb, hq _ _ _ _ _ h2 (Step.refl wr) (.bl _)⟩
      | _ => exact h1.elim
theorem bIsiT_w {x y : D} {M : Mh} {Φ : D → Mh → Prop} : (bIsiT (K := K) (T := T)).w [x, y] M Φ = tyD M x fun t => isTys y fun ns => ∃ b, kitBs t ns = some b ∧ Φ (.bl b) M := rfl
theorem isTys_ {ds : List D} {ns : List String} {k : List String → Prop} (h : tysD ds = some ns) : isTys (.tup ds) k = k ns := by unfold isTys; simp only [h]
end
end Ab

set_option Elab.async false
set_option linter.all false
set_option maxRecDepth 100000
set_option maxHeartbeats 2000000
namespace Ab
open PySem PySem.Spec PyProof.Rows L2
section
variable {X : Cx}
/-! ### list.remove of a text -/
def rRemS : V → List V → Hp → VK → Prop := fun x xs H Q => ∃ (l : Addr) (ns : List Str) (k : Str) (j : Nat), x = .ref l ∧ xs = [.str k] ∧ H l = some (.lst (ns.map V.str)) ∧ ns[j]? = some k ∧ (∀ m : Nat, m < j → ns[m]? ≠ some k) ∧ Q .non (upd H l (.lst ((ns.eraseIdx j).map V.str)))
theorem erase_mapS : ∀ (l : List Str) (j : Nat), (l.map V.str).eraseIdx j = (l.eraseIdx j).map V.str
  | [], _ => rfl
  | _ :: _, 0 => rfl
  | x :: l, j + 1 => by simp only [List.map_cons, List.eraseIdx_cons_succ, erase_mapS l j]
theorem mt_removeS : MtR X "list.remove" rRemS := by
  intro pins s σ H x xs v us Q I rx rxs h
  obtain ⟨l, ns, k, j, rfl, rfl, hH, hj, hno, q⟩ := h
  cases rx
  obtain ⟨u, rfl, ru⟩ := rxs.one
  obtain ⟨t, rfl⟩ := ru
  obtain ⟨z, its, n, r, hl, e⟩ := I.lstM hH
  have hi := strs_of_vals r
  rw [List.length_map] at hl z
  have hjn : j < ns.length := (List.getElem?_eq_some_iff.mp hj).1
  have hjl : j < its.toArray.size := by rw [List.size_toArray]; omega
  refine call_meets PySem.F.slot_list_remove ⟨_, e, rfl⟩ PySem.F.entry_list_remove (PySem.F.args_list_remove_2 _ _)
    (MeetsSeq.list_remove l its.toArray n (.str k t) (isStrOf k) (fun y hy => eq_isStrOf k t hi y (by simpa using hy)) j hjl ?_ ?_ (by rw [List.size_toArray]; omega)) ⟨e, ?_⟩
  · obtain ⟨tj, hjt⟩ := hi.get j k hj
    obtain ⟨h1, h2⟩ := List.getElem?_eq_some_iff.mp hjt
    have e1 : its.toArray[j] = .str k tj := by simpa using h2
    rw [e1]
    exact beq_self_eq_true k
  · intro m hm hmj
    have hmn : m < ns.length := by omega
    obtain ⟨tm, hmt⟩ := hi.get m _ (List.getElem?_eq_getElem hmn)
    obtain ⟨h1, h2⟩ := List.getElem?_eq_some_iff.mp hmt
    have e1 : its.toArray[m] = .str ns[m] tm := by simpa using h2
    rw [e1]
    refine beq_eq_false_iff_ne.mpr fun e2 => hno m hmj ?_
    rw [List.getElem?_eq_getElem hmn, e2]
  · have rr := r.eraseIdx j
    rw [erase_mapS] at rr
    refine ⟨.non, _, I.lset (its' := its.eraseIdx j) (t' := s.toks) hH e ?_ rr ?_, rfl, q⟩
    · show its.toArray.eraseIdxIfInBounds j = (its.eraseIdx j).toArray
      rw [List.eraseIdxIfInBounds_toArray]
    · have z2 := len_erase ns j
      rw [List.length_map]
      omega
/-! ### min of a list of texts -/
theorem strs_lt {prog : Program} {w : World} {A : Around} {P : Nat → Value → Prop} (val : Nat → Str) (hval : ∀ i v, P i v → ∃ t, v = .str (val i) t) :
    CmpOf prog w A .Lt P (fun i j => decide ((val i).cps.toList < (val j).cps.toList)) := fun i j vi vj s Q E hi hj h => by
  obtain ⟨t, rfl⟩ := hval i vi hi
  obtain ⟨u, rfl⟩ := hval j vj hj
  exact richCompare_gives (op := .Lt) (typeIs_str s _ t) (typeIs_str s _ u) F.slot_str_lt F.entry_str_lt (F.args_str_lt_2 _ _) (gives_str_lt _ _ t u) (fun x => nomatch x) h
/-- the first of the best ones -/
theorem argBest_best {α : Type} (val : Nat → α) (lt : α → α → Bool) (irr : ∀ a, lt a a = false) (tr : ∀ a b c, lt a b = false → lt b c = false → lt a c = false) (as : ∀ a b, lt a b = true → lt b a = false) :
    ∀ k, argBest (fun i j => lt (val i) (val j)) k ≤ k ∧ (∀ j, j ≤ k → lt (val j) (val (argBest (fun i j => lt (val i) (val j)) k)) = false) ∧ ∀ j, j < argBest (fun i j => lt (val i) (val j)) k → lt (val (argBest (fun i j => lt (val i) (val j)) k)) (val j) = true
  | 0 => ⟨Nat.le_refl _, fun j hj => by have : j = 0 := by omega
                                        subst this; exact irr _, fun j hj => by simp [argBest] at hj⟩
  | k + 1 => by
    obtain ⟨h1, h2, h3⟩ := argBest_best val lt irr tr as k
    simp only [argBest]
    by_cases hc : lt (val (k + 1)) (val (argBest (fun i j => lt (val i) (val j)) k)) = true
    · rw [if_pos hc]
      refine ⟨Nat.le_refl _, fun j hj => ?_, fun j hj => ?_⟩
      · rcases Nat.lt_or_ge j (k + 1) with hlt | hge
        · exact tr _ _ _ (h2 j (by omega)) (as _ _ hc)
        · have : j = k + 1 := by omega
          subst this; exact irr _
      · cases e : lt (val (k + 1)) (val j) with
        | true => rfl
        | false =>
          have := tr _ _ _ e (h2 j (by omega))
          rw [hc] at this; cases this
    · have hc : lt (val (k + 1)) (val (argBest (fun i j => lt (val i) (val j)) k)) = false := by
        cases e : lt (val (k + 1)) (val (argBest (fun i j => lt (val i) (val j)) k)) with
        | false => rfl
        | true => exact absurd e hc
      rw [if_neg (by rw [hc]; simp)]
      refine ⟨by omega, fun j hj => ?_, h3⟩
      rcases Nat.lt_or_ge j (k + 1) with hlt | hge
      · exact h2 j (by omega)
      · have : j = k + 1 := by omega
        subst this; exact hc
def ltS (a b : Str) : Bool := decide (a.cps.toList < b.cps.toList)
theorem ltS_irr (a : Str) : ltS a a = false := decide_eq_false (List.lt_irrefl _)
theorem ltS_tr (a b c : Str) (h : ltS a b = false) (g : ltS b c = false) : ltS a c = false := by
  unfold ltS at *
  have h := of_decide_eq_false h
  have g := of_decide_eq_false g
  exact decide_eq_false (List.not_lt.mpr (List.le_trans (List.not_lt.mp g) (List.not_lt.mp h)))
theorem ltS_as (a b : Str) (h : ltS a b = true) : ltS b a = false := by
  unfold ltS at *
  exact decide_eq_false (List.lt_asymm (of_decide_eq_true h))
def rMinS (K : PySem.W.Frag) : List V → Hp → VK → Prop := fun vs H Q => ∃ (a : Addr) (ns : List Str), vs = [V.ref a] ∧ SqL K H a (ns.map V.str) ∧ 0 < ns.length ∧ ∀ m, m ∈ ns → (∀ y, y ∈ ns → ltS y m = false) → Q (.str m) H
theorem cr_minS (hc : X.calm = true) : CallR X (.builtin "min") (rMinS X.K) := by
  intro pins s σ H vs us Q I r h
  obtain ⟨a, ns, rfl, hs, hne, q⟩ := h
  obtain ⟨its, rv, hl, _⟩ := I.list hs
  rw [Vals.ref1 r]
  have hi := strs_of_vals rv
  have hlen : its.length = ns.length := by have := rv.length; simpa using this.symm
  have hll := hl.isList
  have hlt : a < s.heap.objs.size := by obtain ⟨_, e, _⟩ := hll; exact Heap.lt_size e
  refine call_min_walk (wpAny_pyIter_list hll ?_)
  refine ⟨s.heap.objs.size, [s.heap.objs.size, a], [s.heap.objs.size], its.toArray.size, _, _, (fun i j => ltS (ns.getD i ⟨#[]⟩) (ns.getD j ⟨#[]⟩)), rfl, Walks.list (A := X.A.in1) (I.ok.hd hc) _ a (Nat.ne_of_lt hlt) its.toArray, ⟨⟨_, Heap.get?_push_size _ rfl, rfl, rfl⟩, hll.push _⟩, ?_, by rw [List.size_toArray, hlen]; exact hne,
    strs_lt (fun i => ns.getD i ⟨#[]⟩) (fun i v hv => ?_), fun v h' tk hv hk => ?_⟩
  · intro b hb
    rw [Heap.size_push]
    rcases List.mem_cons.mp hb with rfl | hb
    · exact Nat.lt_succ_self _
    · rw [List.mem_singleton.mp hb]; exact Nat.lt_succ_of_lt hlt
  · have hv : its[i]? = some v := by simpa using hv
    have hin : i < ns.length := by rw [← hlen]; exact get_lt hv
    obtain ⟨t, ht⟩ := hi.get i _ (List.getElem?_eq_getElem hin)
    rw [hv] at ht
    cases ht
    exact ⟨t, by rw [List.getD_eq_getElem?_getD, List.getElem?_eq_getElem hin]; rfl⟩
  · obtain ⟨b1, b2, _⟩ := argBest_best (fun i => ns.getD i ⟨#[]⟩) ltS ltS_irr ltS_tr ltS_as (its.toArray.size - 1)
    have hb : argBest (fun i j => ltS (ns.getD i ⟨#[]⟩) (ns.getD j ⟨#[]⟩)) (its.toArray.size - 1) < ns.length := by
      rw [List.size_toArray] at b1; rw [List.size_toArray]; omega
    have hv : its[argBest (fun i j => ltS (ns.getD i ⟨#[]⟩) (ns.getD j ⟨#[]⟩)) (its.toArray.size - 1)]? = some v := by simpa using hv
    obtain ⟨t, ht⟩ := hi.get _ _ (List.getElem?_eq_getElem hb)
    rw [hv] at ht
    cases ht
    refine ⟨.str _, H, I.kept fun b o e => hk b o ?_ (Heap.get?_push_of_some _ e), ⟨t, rfl⟩, q _ (List.getElem_mem hb) fun y hy => ?_⟩
    · intro z
      have := Heap.lt_size e
      rw [List.mem_singleton.mp z] at this
      exact Nat.lt_irrefl _ this
    · obtain ⟨j, hj, rfl⟩ := List.getElem_of_mem hy
      have := b2 j (by rw [List.size_toArray]; omega)
      rw [List.getD_eq_getElem?_getD, List.getElem?_eq_getElem hj, List.getD_eq_getElem?_getD, List.getElem?_eq_getElem hb] at this
      exact this
/-! ### min(d.values()) -/
def valsO (p d : Addr) : HO := .ext fun h => h.IsValuesView p d
def rVals : V → List V → Hp → VK → Prop := fun x xs H Q => ∃ (a : Addr) (kvs : List (Key × V)), x = .ref a ∧ xs = [] ∧ H a = some (.dK kvs) ∧ ∀ p, H p = none → Q (.ref p) (upd H p (valsO p a))
theorem mt_valsK : MtR X "dict.values" rVals := by
  intro pins s σ H x xs v us Q I rx rxs h
  obtain ⟨a, kvs, rfl, rfl, ha, q⟩ := h
  cases rx
  cases rxs
  obtain ⟨z, hd, vs, rel, dd⟩ := dk_of I.hok ha
  have hf : H s.heap.objs.size = none := I.hok.fresh (Nat.le_refl _)
  refine call_meetsIn PySem.F.slot_dict_values dd.typeIs PySem.F.entry_dict_values (PySem.F.args_dict_values_1 _) (meets_dict_values (mixKind X.prog X.w) a hd) ⟨⟨vs, dd⟩, ?_⟩
  exact ⟨.ref s.heap.objs.size, upd H s.heap.objs.size (valsO s.heap.objs.size a), I.laid (t' := s.toks) (fun b u e => Heap.get?_push_of_some _ e) (Nat.le_refl _)
    ⟨⟨_, Heap.get?_push_size _ rfl, rfl, rfl⟩, ⟨_, Heap.get?_push_size _ rfl⟩, fun h1 h2 x k => let ⟨o, ho, r⟩ := x; ⟨o, k o ho, r⟩⟩, rfl, q _ hf⟩
def rMinV : List V → Hp → VK → Prop := fun xs H Q => ∃ (p a : Addr) (kvs : List (Key × V)) (ns : List Int), xs = [.ref p] ∧ H p = some (valsO p a) ∧ H a = some (.dK kvs) ∧ kvs.map (·.2) = ns.map V.int ∧ 0 < ns.length ∧ ∀ m, m ∈ ns → (∀ y, y ∈ ns → m ≤ y) → Q (.int m) H
theorem cr_minV (hc : X.calm = true) : CallR X (.builtin "min") rMinV := by
  intro pins s σ H vs us Q I r h
  obtain ⟨p, a, kvs, ns, rfl, hp, ha, hn, hne, q⟩ := h
  rw [Vals.ref1 r]
  obtain ⟨z, hd, vs, rel, dd⟩ := dk_of I.hok ha
  obtain ⟨ep, hat⟩ := dd.dictAt
  obtain ⟨hv, _⟩ := (show ObjOk X.prog X.w H s.heap p (valsO p a) from I.hok p _ hp)
  have hne2 : a ≠ s.heap.objs.size := Nat.ne_of_lt hat.lt_size
  have hl : kvs.length = vs.length := Paired.length rel
  have hln : kvs.length = ns.length := by have := congrArg List.length hn; simpa using this
  have at_ : ∀ i k v, vs[i]? = some (k, v) → ∃ t, v = Value.int (ns.getD i 0) t := fun i k v hi => by
    obtain ⟨kv, h1, h2⟩ := DX.pget rel hi
    have h3 : (kvs.map (·.2))[i]? = some kv.2 := by rw [List.getElem?_map, h1]; rfl
    rw [hn, List.getElem?_map] at h3
    cases e : ns[i]? with
    | none => rw [e] at h3; cases h3
    | some n =>
      rw [e] at h3
      have h4 : kv.2 = .int n := (Option.some.inj h3).symm
      have h5 := h2.2
      rw [h4] at h5
      obtain ⟨t, ht⟩ := h5
      exact ⟨t, by rw [List.getD_eq_getElem?_getD, e]; exact ht⟩
  refine call_min_walk (wpAny_pyIter_values hv hat ?_)
  refine ⟨s.heap.objs.size, [s.heap.objs.size, a], [s.heap.objs.size], vs.length, _, _, (fun i j => decide (ns.getD i 0 < ns.getD j 0)), rfl, Walks.dictValues (A := X.A.in1) (knd := mixKind X.prog X.w) (I.ok.hd hc) _ a hne2 vs ep, ⟨⟨_, Heap.get?_push_size _ rfl, rfl, rfl⟩, hat.push _⟩, ?_, by omega,
    CmpOf.ints_lt (fun i => ns.getD i 0) (fun i v hv => ?_), fun v h' tk hv hk => ?_⟩
  · intro b hb
    rw [Heap.size_push]
    rcases List.mem_cons.mp hb with rfl | hb
    · exact Nat.lt_succ_self _
    · rw [List.mem_singleton.mp hb]; exact Nat.lt_succ_of_lt hat.lt_size
  · obtain ⟨k, hk⟩ := hv
    exact at_ i k v hk
  · obtain ⟨b1, b2⟩ := argBest_lt (fun i => ns.getD i 0) (vs.length - 1)
    obtain ⟨k, hk2⟩ := hv
    obtain ⟨t, rfl⟩ := at_ _ k v hk2
    have hb : argBest (fun i j => decide (ns.getD i 0 < ns.getD j 0)) (vs.length - 1) < ns.length := by omega
    refine ⟨.int _, H, I.kept fun b o e => hk b o ?_ (Heap.get?_push_of_some _ e), ⟨t, rfl⟩, q _ ?_ fun y hy => ?_⟩
    · intro z
      have := Heap.lt_size e
      rw [List.mem_singleton.mp z] at this
      exact Nat.lt_irrefl _ this
    · rw [List.getD_eq_getElem?_getD, List.getElem?_eq_getElem hb]
      exact List.getElem_mem hb
    · obtain ⟨j, hj, rfl⟩ := List.getElem_of_mem hy
      have := b2 j (by omega)
      have e : ns.getD j 0 = ns[j] := by rw [List.getD_eq_getElem?_getD, List.getElem?_eq_getElem hj]; rfl
      rw [e] at this
      exact this
end
end Ab

set_option Elab.async false
set_option linter.all false
set_option maxRecDepth 100000
set_option maxHeartbeats 2000000
namespace Ab
open PySem PySem.Spec PyProof.Rows L2
section
variable {K : PySem.W.Frag} {T : Tt}
/-- xs.remove(k), a text -/
def remAt (xs : List Str) (k : Str) (f : List Str → Prop) : Prop := ∃ j, xs[j]? = some k ∧ (∀ m : Nat, m < j → xs[m]? ≠ some k) ∧ f (xs.eraseIdx j)
def xRemS (o a : XE K T) : XE K T where
  t := fun W => tBM K "list" rRemS (o.t W) (tCons (a.t W) tNil)
  w := fun ρ M Φ Ξ => o.w ρ M (fun x M1 => asR x fun p => mL M1 p fun _ => a.w ρ M1 (fun y M2 => asS y fun k => mL M2 p fun ds => asTx ds fun xs => remAt xs k fun ys => Φ .non (um M2 p (.lst (ys.map D.str)))) Ξ) Ξ
  ok := fun h _ _ _ wr rs _ hq hx => o.ok h wr rs (fun v x P1 M1 H1 h1 s1 r1 => by
    obtain ⟨p, rfl, h2⟩ := asR.get h1
    obtain ⟨ds0, hm0, h3⟩ := mL.get h2
    obtain ⟨o0, ho0, rm0⟩ := s1.wr.chg _ _ hm0
    rw [r1.toR]
    cases rm0 with
    | lst hr0 =>
      refine ⟨.inl ⟨rfl, _, SqL.of ho0⟩, a.ok h3 s1.wr (rs.mono s1.ex) (fun u y P2 M2 H2 h4 s2 r2 => ?_) (hx.mono s1)⟩
      obtain ⟨k, rfl, h5⟩ := asS.get h4
      obtain ⟨ds, hm, h6⟩ := mL.get h5
      obtain ⟨ob, ho, rm⟩ := s2.wr.chg _ _ hm
      unfold asTx at h6
      cases e : txts ds with
      | none => rw [e] at h6; exact h6.elim
      | some xs =>
        rw [e] at h6
        obtain ⟨j, hj, hno, h7⟩ := h6
        cases rm with
        | @lst vs _ hr =>
          have e2 := txts_rep hr e
          subst e2
          exact ⟨p, xs, k, j, rfl, by rw [r2.toS], ho, hj, hno, hq _ _ _ _ _ h7 ((s1.trans s2).trans (Step.put s2.wr hm (.lst (repL_txts _)))) .non⟩) hx
/-- min(d.values()) -/
def xMinV (a : XE K T) : XE K T where
  t := fun W => tCB rMinV (tCons (tBM0 K "dict" rVals (a.t W)) tNil)
  w := fun ρ M Φ Ξ => a.w ρ M (fun x M1 => asR x fun p => mD M1 p fun kds => asIs (kds.map Prod.snd) fun ns => 0 < ns.length ∧ ∀ m, m ∈ ns → (∀ y, y ∈ ns → m ≤ y) → Φ (.int m) M1) Ξ
  ok := fun h P σ H wr rs Q hq hx => a.ok h wr rs (fun v x P1 M1 H1 h1 s1 r1 => by
    obtain ⟨p, rfl, h2⟩ := asR.get h1
    obtain ⟨kds, hm, h3⟩ := h2.get
    obtain ⟨ob, ho, rm⟩ := s1.wr.chg _ _ hm
    rw [r1.toR]
    cases rm with
    | @dct kvs _ hk hr =>
      refine ⟨.inr (.inr (.inl ⟨rfl, .inl ⟨_, ho⟩⟩)), p, kvs, rfl, rfl, ho, fun q hn => ?_⟩
      unfold asIs at h3
      cases e : intsD (kds.map Prod.snd) with
      | none => rw [e] at h3; exact h3.elim
      | some ns =>
        rw [e] at h3
        have e2 := intsD_rep hr e
        have hne : p ≠ q := fun z => by rw [z, hn] at ho; cases ho
        have s2 : Step K T P1 M1 H1 P1 M1 (upd H1 q (valsO q p)) := (Step.refl s1.wr).side hn (s1.wr.pfree hn) (s1.wr.mfree hn) (s1.wr.tne hn)
        exact ⟨q, p, kvs, ns, rfl, upd_same, by rw [upd_ne hne]; exact ho, e2, h3.1, fun m h4 h5 => hq _ _ _ _ _ (h3.2 m h4 h5) (s1.trans s2) (.int _)⟩) hx
/-- min of a list of texts -/
def bMinS : XB K T where
  r := rMinS K
  w := fun ds M Φ => arg1 ds fun d => asL d M fun es => asTx es fun xs => 0 < xs.length ∧ ∀ m, m ∈ xs → (∀ y, y ∈ xs → ltS y m = false) → Φ (.str m) M
  ok := fun h P H vs wr r Q hq => by
    obtain ⟨d, rfl, h1⟩ := h.get
    obtain ⟨v, rfl, r1⟩ := r.one
    obtain ⟨es, a, us, h2, rfl, hs, hr⟩ := h1.rd wr r1
    unfold asTx at h2
    cases e : txts es with
    | none => rw [e] at h2; exact h2.elim
    | some xs =>
      rw [e] at h2
      have e2 := txts_rep hr e
      subst e2
      exact ⟨a, xs, rfl, hs, h2.1, fun m h3 h4 => hq _ _ _ _ _ (h2.2 m h3 h4) (Step.refl wr) (.str _)⟩
/-- a thing's truth, as a test -/
def trM (M : Mh) (p : Addr) (k : Bool → Prop) : Prop := match M p with
  | some (.lst ds) => k (!ds.isEmpty)
  | some (.dct kds) => k (!kds.isEmpty)
  | _ => False
theorem trM_1 {M : Mh} {p : Addr} {k : Bool → Prop} {ds : List D} (h : M p = some (.lst ds)) : trM M p k = k (!ds.isEmpty) := by unfold trM; rw [h]
theorem trM_2 {M : Mh} {p : Addr} {k : Bool → Prop} {ds : List (Key × D)} (h : M p = some (.dct ds)) : trM M p k = k (!ds.isEmpty) := by unfold trM; rw [h]
def trD (M : Mh) (d : D) (k : Bool → Prop) : Prop := match d with
  | .non => k false | .bl b => k b | .int i => k (i != 0) | .str s => s.length ≤ 100000 ∧ k ((s.length : Int) != 0) | .tup ds => k (!ds.isEmpty) | .lst ds => k (!ds.isEmpty) | .lsw ds => k (!ds.isEmpty) | .ref p => trM M p k
  | _ => False
theorem trD_1 {M : Mh} {k : Bool → Prop} : trD M .non k = k false := rfl
theorem trD_2 {M : Mh} {k : Bool → Prop} {ds : List D} : trD M (.lst ds) k = k (!ds.isEmpty) := rfl
theorem trD_3 {M : Mh} {k : Bool → Prop} {ds : List D} : trD M (.tup ds) k = k (!ds.isEmpty) := rfl
theorem trD_4 {M : Mh} {k : Bool → Prop} {p : Addr} : trD M (.ref p) k = trM M p k := rfl
theorem trD_5 {M : Mh} {k : Bool → Prop} {b : Bool} : trD M (.bl b) k = k b := rfl
theorem emp {α β : Type} {l : List α} {m : List β} (h : l.length = m.length) : l.isEmpty = m.isEmpty := by
  cases l <;> cases m <;> first | rfl | simp at h
theorem trD.rd {P : Hp} {M : Mh} {H : Hp} {d : D} {v : V} {k : Bool → Prop} (h : trD M d k) (wr : Wr K T P M H) (r : Rep K P v d) : ∃ b, k b ∧ TruV K v H b := by
  cases d with
  | non => rw [r.toN]; exact ⟨_, h, rfl⟩
  | bl b => rw [r.toB]; exact ⟨_, h, rfl⟩
  | int b => rw [r.toI]; exact ⟨_, h, rfl⟩
  | str b => rw [r.toS]; exact ⟨_, h.2, sz_of h.1, rfl⟩
  | tup ds =>
    obtain ⟨a, vs, rfl, hs, hr⟩ := r.toT
    exact ⟨_, h, .inr (.inl ⟨vs, wr.st hs, by rw [emp hr.len]⟩)⟩
  | lst ds =>
    obtain ⟨a, vs, rfl, hs, hr⟩ := r.toL
    exact ⟨_, h, .inl ⟨vs, wr.sl (SqL.of hs), by rw [emp hr.len]⟩⟩
  | lsw ds =>
    obtain ⟨a, vs, rfl, hs, hr⟩ := r.toLw
    exact ⟨_, h, .inl ⟨vs, wr.sl hs, by rw [emp hr.len]⟩⟩
  | ref p =>
    rw [r.toR]
    rw [trD_4] at h
    unfold trM at h
    split at h
    · rename_i hm
      obtain ⟨o, ho, rm⟩ := wr.chg _ _ hm
      cases rm with | lst hr => exact ⟨_, h, .inl ⟨_, SqL.of ho, by rw [emp hr.len]⟩⟩
    · rename_i kds hm
      obtain ⟨o, ho, rm⟩ := wr.chg _ _ hm
      cases rm with
      | @dct kvs _ hk hr =>
        have z : Zk K P kvs kds := ⟨hk, hr⟩
        exact ⟨_, h, .inr (.inr ⟨_, ho, by rw [emp z.len]⟩)⟩
    · exact h.elim
  | _ => exact h.elim
def qTr (a : XE K T) : XT K T where
  t := fun W σ H Q => a.t W σ H fun x H' => ∃ k, TruV K x H' k ∧ Q k H'
  w := fun ρ M Φ Ξ => a.w ρ M (fun d M1 => trD M1 d fun b => Φ b M1) Ξ
  ok := fun h P σ H wr rs Q hq hx => a.ok h wr rs (fun v d P1 M1 H1 h1 s1 r1 => by
    obtain ⟨b, h2, h3⟩ := h1.rd s1.wr r1
    exact ⟨b, h3, hq _ _ _ _ h2 s1⟩) hx
end
/-! ### derivations -/
section
variable {X : Cx} {W : WX} {T : Tt} {pos apos : Pos} {a b o xo v : XE X.K T} {ea eb eo ev : Expr} {st : Stmt} {s : XS X.K T}
theorem dDN : PE X (.Dict [] [] pos) ((xDN (K := X.K) (T := T)).t W) := pe_dnewK
theorem dDNT : PE X (.Dict [] [] pos) ((xDNT (K := X.K) (T := T)).t W) := pe_dnewT
theorem dDGet (hu : X.A.units + 1 < cLine) (ho : PE X eo (o.t W)) (ha : PE X ea (a.t W)) (hs : NoSl ea := by intro _ _; rfl) : PE X (.Subscript eo ea pos) ((xDGet o a).t W) := pe_dget hu ho ha hs
theorem op_inK (hu : X.A.units + 1 < cLine) : OpR X (compareOp .In) (oInK (K := X.K) (T := T) false).r := by
  intro pins s σ H x y v u Q I rx ry h
  obtain ⟨a, o, rfl, g, q⟩ := h
  obtain rfl : u = Value.ref a := ry
  exact d_in hu I g rx fun s3 I3 => ⟨V.bl o.isSome, H, I3, rfl, q⟩
theorem op_notInK (hu : X.A.units + 1 < cLine) : OpR X (compareOp .NotIn) (oInK (K := X.K) (T := T) true).r := by
  intro pins s σ H x y v u Q I rx ry h
  obtain ⟨a, o, rfl, g, q⟩ := h
  obtain rfl : u = Value.ref a := ry
  exact d_notIn hu I g rx fun s3 I3 => ⟨V.bl (!o.isSome), H, I3, rfl, q⟩
theorem op_eqDc (hu : X.A.units < cLine) : OpR X (compareOp .Eq) (oEqDc (K := X.K) (T := T) false).r := op_eq_dictA hu
theorem op_neDc (hu : X.A.units < cLine) : OpR X (compareOp .NotEq) (oEqDc (K := X.K) (T := T) true).r := op_ne_dictA hu
theorem un1 {A : Around} (h : A.units + 1 < cLine) : A.units < cLine := by omega
theorem dDGet1 (hu : X.A.units + 1 < cLine) (ho : PE X eo (o.t W)) (ha : PE X ea (a.t W)) (m : M1 X eo "get" apos ea pos := by exact ⟨rfl, rfl, rfl, rfl⟩) : PE X (.Call (.Attribute eo "get" apos) [ea] [] pos) ((xDGet1 o a).t W) := pe_dget1 hu ho ha m
theorem dDGet2 (hu : X.A.units + 1 < cLine) (ho : PE X eo (o.t W)) (ha : PE X ea (a.t W)) (hb : PE X eb (b.t W)) (m : M2 X eo "get" apos ea eb pos := by exact ⟨rfl, rfl, rfl, rfl⟩) : PE X (.Call (.Attribute eo "get" apos) [ea, eb] [] pos) ((xDGet2 o a b).t W) := pe_dget2 hu ho ha hb m
theorem dDPop1 (ho : PE X eo (o.t W)) (ha : PE X ea (a.t W)) (m : M1 X eo "pop" apos ea pos := by exact ⟨rfl, rfl, rfl, rfl⟩) : PE X (.Call (.Attribute eo "pop" apos) [ea] [] pos) ((xDPop1 o a).t W) := pe_dpop1 ho ha m
theorem dDPop2 (ho : PE X eo (o.t W)) (ha : PE X ea (a.t W)) (hb : PE X eb (b.t W)) (m : M2 X eo "pop" apos ea eb pos := by exact ⟨rfl, rfl, rfl, rfl⟩) : PE X (.Call (.Attribute eo "pop" apos) [ea, eb] [] pos) ((xDPop2 o a b).t W) := pe_dpop2 ho ha hb m
theorem dDSt {pos' : Pos} (hu : X.A.units + 1 < cLine) (ho : PE X eo (o.t W)) (ha : PE X ea (a.t W)) (hv : PE X ev (v.t W)) (hs : swapsWith ev (some (.Subscript eo ea pos')) pos.line X.env = pure false := by rfl) : PS X (.Assign [.Subscript eo ea pos'] ev pos) ((sDSt o a v).t W) := ps_dput hu ho ha hv hs
theorem dLkS (h : PS X st (s.t W)) : PS X st ((sLk s).t W) := ps_lock h
theorem dLkE (h : PE X ea (a.t W)) : PE X ea ((xLk a).t W) := pe_lock h
theorem diDK {tg : Expr} (h : PE X ea (a.t W)) : PI X tg ea ((iDK a).t W) := pi_keys h
theorem diDI {elts : List Expr} {kk : Nat} {tpos : Pos} (h : PE X ea (a.t W)) (hbase : attributeBase ea "items" X.env (eval ea X.env) = eval ea X.env := by rfl) (hline : (apos.endLine == pos.line) = true := by rfl) : PI X (.Tuple elts kk tpos) (.Call (.Attribute ea "items" apos) [] [] pos) ((iDI a).t W) := pi_items h hbase hline
theorem diDV {tg : Expr} (h : PE X ea (a.t W)) (hbase : attributeBase ea "values" X.env (eval ea X.env) = eval ea X.env := by rfl) (hline : (apos.endLine == pos.line) = true := by rfl) : PI X tg (.Call (.Attribute ea "values" apos) [] [] pos) ((iDV a).t W) := pi_values h hbase hline
variable {it : XI X.K T} {q : XT X.K T} {cg : CG}
theorem dDc {kx vx tg iter : Expr} {ifs : List Expr} {scope : Scope} {own : List (Str × Nat)} (hc : X.calm = true) (hN : X.N.Nodup) (ok : BlkOk X.N X.env.scope scope own) (hi : PI X tg iter (it.t W)) (ho : own.map (·.2) = cg.slots)
    (hg : ∀ (s : Shared) (H : Hp) (C : Addr) (cl : List (Str × Addr)) (fp : List Addr), PG (X.blk s H scope (compEnvC scope cl C X.env) fp) tg (cg.t X.K)) (ht : ∀ (s : Shared) (H : Hp) (C : Addr) (cl : List (Str × Addr)) (fp : List Addr), PTs (X.blk s H scope (compEnvC scope cl C X.env) fp) ifs (q.t WX0))
    (hk : ∀ (s : Shared) (H : Hp) (C : Addr) (cl : List (Str × Addr)) (fp : List Addr), PE (X.blk s H scope (compEnvC scope cl C X.env) fp) kx (a.t WX0))
    (he : ∀ (s : Shared) (H : Hp) (C : Addr) (cl : List (Str × Addr)) (fp : List Addr), PE (X.blk s H scope (compEnvC scope cl C X.env) fp) vx (b.t WX0)) (hs : ∀ x, foldedSetIterable iter X.env x = pure x := by intro _; rfl) :
    PE X (.DictComp kx vx [⟨tg, iter, ifs, 0⟩] scope pos) ((xDc it cg q a b).t W) := by
  have h := pe_dc (pos := pos) hc hN hi ok hg ht hk he hs
  rw [ho] at h
  exact h
theorem dTyV {n : String} {x : Str} (hm : X.mg x = none) (hv : bootBuiltins x = some (.type n)) (hg : Gl X x := by rfl) (hn : x ≠ "__name__" := by decide) (hd : (x == ("__debug__" : Str)) = false := by decide) : PE X (.Name x pos) ((xTy (K := X.K) (T := T) n).t W) := pe_bltn hg hm hv rfl hn hd
theorem dTr (ha : PE X ea (a.t W)) (he : ∀ whole, isTrue ea X.env whole = (do let v ← whole; standAt ea.pos; holding [v] (truthy v)) := by intro _; rfl) : PT X ea ((qTr a).t W) := pt_truth ha he
theorem dRemS {p : Pos} (ho : PE X eo (xo.t W)) (ha : PE X ea (a.t W)) (hbase : attributeBase eo "remove" X.env (eval eo X.env) = eval eo X.env := by rfl)
    (hfew : ((backTo pos (starEach [ea] X.env)).all (fun x => !x.1) && (backToKw pos (keywordEach [] X.env)).all (fun x => x.1.isSome) && decide ([ea].length + ([] : List Keyword).length + (if ([] : List Keyword).isEmpty then 0 else 1) < 30)) = true := by rfl)
    (hline : (p.endLine == pos.line) = true := by rfl) (hs : starEach [ea] X.env = (false, eval ea X.env) :: starEach [] X.env := by rfl) (hpl : (backTo pos (starEach [] X.env)).any (·.1) = false := by rfl) :
    PE X (.Call (.Attribute eo "remove" p) [ea] [] pos) ((xRemS xo a).t W) := pe_bm PySem.F.plainAttrs_list PySem.F.slot_list_remove PySem.F.type_list_remove mt_removeS ho (pa_cons ha pa_nil hs) hbase hfew hline hs hpl
theorem dMinV {p p2 : Pos} (hc : X.calm = true) (hm : X.mg "min" = none) (ha : PE X ea (a.t W)) (hbase : attributeBase ea "values" X.env (eval ea X.env) = eval ea X.env := by rfl) (hline : (apos.endLine == p2.line) = true := by rfl) (hg : Gl X "min" := by rfl)
    (he : starEach [.Call (.Attribute ea "values" apos) [] [] p2] X.env = (false, eval (.Call (.Attribute ea "values" apos) [] [] p2) X.env) :: starEach [] X.env := by rfl) (hpl : (backTo pos (starEach [] X.env)).any (·.1) = false := by rfl) :
    PE X (.Call (.Name "min" p) [.Call (.Attribute ea "values" apos) [] [] p2] [] pos) ((xMinV a).t W) :=
  pe_callB (cr_minV hc) hg hm (by decide +kernel) (pa_cons (pe_bm0 PySem.F.plainAttrs_dict PySem.F.slot_dict_values PySem.F.type_dict_values mt_valsK ha hbase hline) pa_nil he) (by decide) (by decide) he hpl
end
end Ab

set_option Elab.async false
set_option linter.all false
set_option maxRecDepth 100000
set_option maxHeartbeats 2000000
namespace Ab
section
variable {κ : Type} [DecidableEq κ]
/-! ### the best of a list -/
noncomputable def best {α : Type} [Inhabited α] (le : α → α → Prop) (xs : List α) : α := Classical.epsilon fun m => m ∈ xs ∧ ∀ y ∈ xs, le m y
theorem best_eq {α : Type} [Inhabited α] {le : α → α → Prop} (anti : ∀ a b, le a b → le b a → a = b) {xs : List α} {m : α} (h1 : m ∈ xs) (h2 : ∀ y ∈ xs, le m y) : m = best le xs := by
  have h : best le xs ∈ xs ∧ ∀ y ∈ xs, le (best le xs) y := Classical.epsilon_spec (p := fun m => m ∈ xs ∧ ∀ y ∈ xs, le m y) ⟨m, h1, h2⟩
  exact anti _ _ (h2 _ h.1) (h.2 _ h1)
theorem best_of {α : Type} [Inhabited α] {le : α → α → Prop} (tot : ∀ a b, le a b ∨ le b a) (tr : ∀ a b c, le a b → le b c → le a c) : ∀ {xs : List α}, xs ≠ [] → best le xs ∈ xs ∧ ∀ y ∈ xs, le (best le xs) y := by
  intro xs hx
  have ex : ∃ m, m ∈ xs ∧ ∀ y ∈ xs, le m y := by
    induction xs with
    | nil => exact absurd rfl hx
    | cons a l ih =>
      by_cases hl : l = []
      · subst hl; exact ⟨a, List.mem_cons_self, fun y hy => by rw [List.mem_singleton.mp hy]; exact (tot a a).elim id id⟩
      · obtain ⟨m, h1, h2⟩ := ih hl
        rcases tot a m with h | h
        · exact ⟨a, List.mem_cons_self, fun y hy => (List.mem_cons.mp hy).elim (fun e => e ▸ (tot y y).elim id id) fun q => tr _ _ _ h (h2 y q)⟩
        · exact ⟨m, List.mem_cons_of_mem _ h1, fun y hy => (List.mem_cons.mp hy).elim (fun e => e ▸ h) (h2 y)⟩
  exact Classical.epsilon_spec (p := fun m => m ∈ xs ∧ ∀ y ∈ xs, le m y) ex
/-! ### runs -/
section
variable {S T A : Type}
def runM (f : S → A → Option S) (s : S) (l : List A) : Option S := l.foldlM f s
theorem runM_nil {f : S → A → Option S} {s : S} : runM f s [] = some s := rfl
theorem runM_cons {f : S → A → Option S} {s : S} {a : A} {l : List A} : runM f s (a :: l) = (f s a).bind fun s' => runM f s' l := by
  unfold runM; rw [List.foldlM_cons]; rfl
theorem runM_app {f : S → A → Option S} {l1 l2 : List A} : ∀ {s : S}, runM f s (l1 ++ l2) = (runM f s l1).bind fun s' => runM f s' l2 := by
  induction l1 with
  | nil => intro s; rfl
  | cons a l ih =>
    intro s
    rw [List.cons_append, runM_cons, runM_cons]
    cases f s a with
    | none => rfl
    | some s' => exact ih
theorem runM_one {f : S → A → Option S} {s : S} {a : A} : runM f s [a] = f s a := by
  rw [runM_cons]; cases f s a <;> rfl
theorem take_at {l : List A} {i : Nat} {a : A} (h : l[i]? = some a) : l.take (i + 1) = l.take i ++ [a] := by
  rw [List.take_succ, h]; rfl
theorem runM_take {f : S → A → Option S} {s : S} {l : List A} {i : Nat} {a : A} (h : l[i]? = some a) : runM f s (l.take (i + 1)) = (runM f s (l.take i)).bind fun s' => f s' a := by
  rw [take_at h, runM_app]
  cases runM f s (l.take i) with
  | none => rfl
  | some s' => exact runM_one
theorem runM_none {f : S → A → Option S} {s : S} {l : List A} {i : Nat} (h : runM f s (l.take i) = none) : runM f s l = none := by
  have e := runM_app (f := f) (l1 := l.take i) (l2 := l.drop i) (s := s)
  rw [List.take_append_drop, h] at e
  exact e
theorem runM_bad {f : S → A → Option S} {s s' : S} {l : List A} {i : Nat} {a : A} (h : l[i]? = some a) (h1 : runM f s (l.take i) = some s') (h2 : f s' a = none) : runM f s l = none :=
  runM_none (i := i + 1) (by rw [runM_take h, h1]; exact h2)
theorem runM_pre {f : S → A → Option S} {s e : S} {l : List A} (h : runM f s l = some e) (i : Nat) : ∃ s', runM f s (l.take i) = some s' := by
  cases q : runM f s (l.take i) with
  | none => rw [runM_none q] at h; cases h
  | some s' => exact ⟨s', rfl⟩
theorem runM_nxt {f : S → A → Option S} {s e s1 : S} {l : List A} {i : Nat} {a : A} (h : runM f s l = some e) (ha : l[i]? = some a) (h1 : runM f s (l.take i) = some s1) : ∃ s2, f s1 a = some s2 ∧ runM f s (l.take (i + 1)) = some s2 := by
  obtain ⟨s2, h2⟩ := runM_pre h (i + 1)
  have h3 := runM_take (f := f) (s := s) ha
  rw [h1, h2] at h3
  exact ⟨s2, h3.symm, h2⟩
theorem runM_sim {f : S → A → Option S} {g : T → A → Option T} {R : S → T → Prop} (step : ∀ s t a s', R s t → f s a = some s' → ∃ t', g t a = some t' ∧ R s' t') : ∀ {l : List A} {s s' : S} {t : T}, R s t → runM f s l = some s' → ∃ t', runM g t l = some t' ∧ R s' t'
  | [], s, s', t, r, h => by cases h; exact ⟨t, rfl, r⟩
  | a :: l, s, s', t, r, h => by
    rw [runM_cons] at h
    cases e : f s a with
    | none => rw [e] at h; cases h
    | some s1 =>
      rw [e] at h
      obtain ⟨t1, h1, r1⟩ := step s t a s1 r e
      obtain ⟨t2, h2, r2⟩ := runM_sim step r1 h
      exact ⟨t2, by rw [runM_cons, h1]; exact h2, r2⟩
theorem fold_take {f : S → A → S} {s : S} {l : List A} {i : Nat} {a : A} (h : l[i]? = some a) : (l.take (i + 1)).foldl f s = f ((l.take i).foldl f s) a := by
  rw [take_at h, List.foldl_append]; rfl
end
/-! ### serving -/
def sstep (P : Nat) (st : List κ × Nat) (a : κ × Option κ) : Option (List κ × Nat) :=
  if a.1 ∈ st.1 then (if a.2 = none then some st else none)
  else if st.1.length = P then
    match a.2 with
    | none => none
    | some x => if x ∈ st.1 then some (st.1.erase x ++ [a.1], st.2 + 1) else none
  else if a.2 = none then some (st.1 ++ [a.1], st.2 + 1) else none
def fstep (st : List (κ × Unit) × List κ) (a : κ × Option κ) : Option (List (κ × Unit) × List κ) :=
  match a.2 with
  | none => some (pK st.1 a.1 (), if (vK st.1 a.1).isSome then st.2 else st.2 ++ [a.1])
  | some x => if (vK st.1 x).isSome then some (pK (dK st.1 x) a.1 (), if (vK st.1 a.1).isSome then st.2 else st.2 ++ [a.1]) else none
def kstep (cost : κ → Int) (st : List κ × Int) (a : κ × Option κ) : Option (List κ × Int) :=
  match a.2 with
  | none => some (if a.1 ∈ st.1 then st else (st.1 ++ [a.1], st.2 + cost a.1))
  | some x => if x ∈ st.1 then some (if a.1 ∈ st.1.erase x then (st.1.erase x, st.2) else (st.1.erase x ++ [a.1], st.2 + cost a.1)) else none
/-- the same keys are held -/
def Hs {α : Type} (hs : List κ) (c : List (κ × α)) : Prop := hs.Nodup ∧ ∀ s, s ∈ hs ↔ (vK c s).isSome = true
theorem Hs.old {α : Type} {hs : List κ} {c : List (κ × α)} (h : Hs hs c) {k : κ} (hk : k ∈ hs) (x : α) : Hs hs (pK c k x) := ⟨h.1, fun s => by
  rw [vK_put]
  by_cases e : s = k
  · subst e; rw [if_pos rfl]; simp [hk]
  · rw [if_neg e]; exact h.2 s⟩
theorem Hs.new {α : Type} {hs : List κ} {c : List (κ × α)} (h : Hs hs c) {k : κ} (hk : k ∉ hs) (x : α) : Hs (hs ++ [k]) (pK c k x) := ⟨List.nodup_append.mpr ⟨h.1, by simp, fun a ha b hb => by rw [List.mem_singleton.mp hb]; exact fun z => hk (z ▸ ha)⟩, fun s => by
  rw [vK_put, List.mem_append, List.mem_singleton]
  by_cases e : s = k
  · subst e; simp
  · rw [if_neg e, ← h.2 s]; simp [e]⟩
theorem Hs.drop {α : Type} {hs : List κ} {c : List (κ × α)} (h : Hs hs c) (x : κ) : Hs (hs.erase x) (dK c x) := ⟨h.1.erase x, fun s => by
  rw [vK_drop, List.Nodup.mem_erase_iff h.1]
  by_cases e : s = x
  · subst e; simp
  · rw [if_neg e, ← h.2 s]; simp [e]⟩
theorem Hs.nil {α : Type} : Hs ([] : List κ) ([] : List (κ × α)) := ⟨List.nodup_nil, fun s => by simp [vK]⟩
theorem nodup_sub {a : List κ} : ∀ {b : List κ}, a.Nodup → (∀ s ∈ a, s ∈ b) → a.length ≤ b.length := by
  induction a with
  | nil => intro b _ _; exact Nat.zero_le _
  | cons x a ih =>
    intro b nd h
    rw [List.nodup_cons] at nd
    have hx := h x List.mem_cons_self
    have := ih (b := b.erase x) nd.2 fun s hs => by
      have : s ≠ x := fun z => nd.1 (z ▸ hs)
      exact (List.mem_erase_of_ne this).mpr (h s (List.mem_cons_of_mem _ hs))
    rw [List.length_erase_of_mem hx] at this
    have : 0 < b.length := List.length_pos_of_mem hx
    simp only [List.length_cons]; omega
theorem Hs.len {α : Type} {hs : List κ} {c : List (κ × α)} (h : Hs hs c) (nd : (c.map Prod.fst).Nodup) : hs.length = c.length := by
  have m : ∀ s, s ∈ hs ↔ s ∈ c.map Prod.fst := fun s => by
    rw [h.2 s]
    cases e : vK c s with
    | none => simp only [Option.isSome_none, Bool.false_eq_true, false_iff]; exact vK_none.mp e
    | some v => simp only [Option.isSome_some, true_iff]; exact List.mem_map_of_mem (f := Prod.fst) (vK_mem e)
  have a := nodup_sub h.1 fun s hs => (m s).mp hs
  have b := nodup_sub nd fun s hs => (m s).mpr hs
  rw [List.length_map] at a b
  omega
/-- what a valid list fetches -/
structure Rs (cost : κ → Int) (K : κ → Prop) (s : List κ × Nat) (t : (List (κ × Unit) × List κ) × (List κ × Int)) : Prop where
  hs : Hs s.1 t.1.1
  eq : t.2.1 = s.1
  sum : t.2.2 = (t.1.2.map cost).sum
  len : t.1.2.length = s.2
  mem : ∀ x ∈ t.1.2, K x
def both {S T A : Type} (f : S → A → Option S) (g : T → A → Option T) (st : S × T) (a : A) : Option (S × T) := match f st.1 a, g st.2 a with | some s, some t => some (s, t) | _, _ => none
theorem both_run {S T A : Type} {f : S → A → Option S} {g : T → A → Option T} : ∀ {l : List A} {s : S} {t : T} {e : S × T}, runM (both f g) (s, t) l = some e → runM f s l = some e.1 ∧ runM g t l = some e.2
  | [], _, _, _, h => by cases h; exact ⟨rfl, rfl⟩
  | a :: l, s, t, e, h => by
    rw [runM_cons] at h ⊢
    rw [runM_cons]
    unfold both at h
    simp only at h
    cases e1 : f s a with
    | none => rw [e1] at h; cases h
    | some s1 =>
      cases e2 : g t a with
      | none => rw [e1, e2] at h; cases h
      | some t1 =>
        rw [e1, e2] at h
        exact both_run (l := l) h
theorem rs_step {P : Nat} {cost : κ → Int} {K : κ → Prop} {s s' : List κ × Nat} {t : (List (κ × Unit) × List κ) × (List κ × Int)} {a : κ × Option κ} (ka : K a.1) (r : Rs cost K s t) (h : sstep P s a = some s') : ∃ t', both fstep (kstep cost) t a = some t' ∧ Rs cost K s' t' := by
  obtain ⟨hs, n⟩ := s
  obtain ⟨⟨c, acc⟩, h2, tot⟩ := t
  obtain ⟨k, rr⟩ := a
  obtain ⟨h1, e1, e2, e3, hm⟩ := r
  have e1 : h2 = hs := e1
  simp only at h1 hm ka e2 e3 ⊢
  subst e2 e3
  subst e1
  have add : ∀ x ∈ acc ++ [k], K x := fun x hx => (List.mem_append.mp hx).elim (hm x) fun z => by rw [List.mem_singleton.mp z]; exact ka
  unfold sstep at h
  simp only at h
  unfold both fstep kstep
  simp only
  by_cases hk : k ∈ h2
  · rw [if_pos hk] at h
    cases rr with
    | some x => simp at h
    | none =>
      simp only [if_true] at h
      cases h
      refine ⟨_, rfl, ?_⟩
      rw [if_pos ((h1.2 k).mp hk), if_pos hk]
      exact ⟨h1.old hk (), rfl, rfl, rfl, hm⟩
  · rw [if_neg hk] at h
    have hv : ¬ (vK c k).isSome = true := fun z => hk ((h1.2 k).mpr z)
    by_cases hl : h2.length = P
    · rw [if_pos hl] at h
      cases rr with
      | none => cases h
      | some x =>
        simp only at h
        by_cases hx : x ∈ h2
        · rw [if_pos hx] at h
          cases h
          have hk2 : k ∉ h2.erase x := fun z => hk (List.mem_of_mem_erase z)
          refine ⟨((pK (dK c x) k (), acc ++ [k]), (h2.erase x ++ [k], (acc.map cost).sum + cost k)), ?_, ?_⟩
          · simp only [if_pos ((h1.2 x).mp hx), if_pos hx, if_neg hk2, if_neg hv]
          · exact ⟨(h1.drop x).new hk2 (), rfl, by simp, by simp, add⟩
        · rw [if_neg hx] at h; cases h
    · rw [if_neg hl] at h
      cases rr with
      | some x => simp at h
      | none =>
        simp only [if_true] at h
        cases h
        refine ⟨_, rfl, ?_⟩
        rw [if_neg hv, if_neg hk]
        exact ⟨h1.new hk (), rfl, by simp, by simp, add⟩
theorem rs_run {P : Nat} {cost : κ → Int} {K : κ → Prop} {l : List (κ × Option κ)} (hl : ∀ a ∈ l, K a.1) : ∀ {s e : List κ × Nat} {t : (List (κ × Unit) × List κ) × (List κ × Int)}, Rs cost K s t → runM (sstep P) s l = some e → ∃ t', runM (both fstep (kstep cost)) t l = some t' ∧ Rs cost K e t' := by
  induction l with
  | nil => intro s e t r h; cases h; exact ⟨t, rfl, r⟩
  | cons a l ih =>
    intro s e t r h
    rw [runM_cons] at h
    cases q : sstep P s a with
    | none => rw [q] at h; cases h
    | some s1 =>
      rw [q] at h
      obtain ⟨t1, h1, r1⟩ := rs_step (hl a List.mem_cons_self) r q
      obtain ⟨t2, h2, r2⟩ := ih (fun b hb => hl b (List.mem_cons_of_mem _ hb)) r1 h
      exact ⟨t2, by rw [runM_cons, h1]; exact h2, r2⟩
/-! ### credits -/
variable [Inhabited κ]
def iLe (a b : Int) : Prop := a ≤ b
noncomputable def least (c : List (κ × Int)) : Int := best iLe (c.map Prod.snd)
noncomputable def lessC (c : List (κ × Int)) : List (κ × Int) := c.map fun p => (p.1, p.2 - least c)
def zeros (c : List (κ × Int)) : List κ := (c.filter fun p => p.2 == 0).map Prod.fst
noncomputable def gone (le : κ → κ → Prop) (c : List (κ × Int)) : κ := best le (zeros (lessC c))
noncomputable def crStep (le : κ → κ → Prop) (P : Nat) (cost : κ → Int) (st : List (κ × Int) × List (Option κ)) (k : κ) : List (κ × Int) × List (Option κ) :=
  if (vK st.1 k).isSome = false ∧ st.1.length = P then (pK (dK (lessC st.1) (gone le st.1)) k (cost k), st.2 ++ [some (gone le st.1)])
  else (pK st.1 k (cost k), st.2 ++ [none])
theorem lessC_keys (c : List (κ × Int)) : (lessC c).map Prod.fst = c.map Prod.fst := by unfold lessC; rw [List.map_map]; rfl
theorem lessC_len (c : List (κ × Int)) : (lessC c).length = c.length := by unfold lessC; rw [List.length_map]
theorem vK_isSome_keys {α β : Type} {c : List (κ × α)} {d : List (κ × β)} (h : c.map Prod.fst = d.map Prod.fst) (k : κ) : (vK c k).isSome = (vK d k).isSome := by
  cases e1 : vK c k with
  | none => have := vK_none.mp e1; rw [h] at this; rw [vK_none.mpr this]; rfl
  | some v => cases e2 : vK d k with
    | none => have := vK_none.mp e2; rw [← h] at this; rw [vK_none.mpr this] at e1; cases e1
    | some u => rfl
variable {le : κ → κ → Prop} (tot : ∀ a b, le a b ∨ le b a) (tr : ∀ a b c, le a b → le b c → le a c)
theorem zeros_ne {c : List (κ × Int)} (hc : c ≠ []) : zeros (lessC c) ≠ [] := by
  have hm : c.map Prod.snd ≠ [] := fun z => hc (List.map_eq_nil_iff.mp z)
  obtain ⟨h1, h2⟩ := best_of (le := iLe) (fun a b => Int.le_total a b) (fun a b c => Int.le_trans) hm
  obtain ⟨p, hp, e⟩ := List.mem_map.mp h1
  have : p.1 ∈ zeros (lessC c) := by
    unfold zeros lessC
    refine List.mem_map.mpr ⟨(p.1, p.2 - least c), List.mem_filter.mpr ⟨List.mem_map.mpr ⟨p, hp, rfl⟩, ?_⟩, rfl⟩
    show (p.2 - least c == 0) = true
    have : p.2 = least c := e
    rw [this]; simp
  exact fun z => by rw [z] at this; cases this
include tot tr in
theorem gone_mem {c : List (κ × Int)} (hc : c ≠ []) : gone le c ∈ c.map Prod.fst := by
  have h := (best_of tot tr (zeros_ne hc)).1
  unfold gone
  obtain ⟨p, hp, e⟩ := List.mem_map.mp h
  rw [← lessC_keys, ← e]
  exact List.mem_map_of_mem (f := Prod.fst) (List.mem_filter.mp hp).1
theorem isSome_mem {α : Type} {c : List (κ × α)} {k : κ} (h : k ∈ c.map Prod.fst) : (vK c k).isSome = true := by
  cases e : vK c k with
  | none => exact absurd h (vK_none.mp e)
  | some v => rfl
theorem pK_len_new {α : Type} {c : List (κ × α)} {k : κ} (x : α) (h : vK c k = none) : (pK c k x).length = c.length + 1 := by rw [pK_new x h]; simp
theorem pK_len_old {α : Type} {c : List (κ × α)} {k : κ} (x : α) (h : (vK c k).isSome = true) : (pK c k x).length = c.length := by
  have := congrArg List.length (pK_keys c k x)
  rw [if_neg (fun z => by rw [z] at h; cases h), List.length_map, List.length_map] at this
  exact this
include tot tr in
theorem credits_ok {P : Nat} (hP : 0 < P) {cost : κ → Int} : ∀ (ks : List κ) {c : List (κ × Int)} {rems : List (Option κ)} {hs : List κ} {n : Nat}, Hs hs c → (c.map Prod.fst).Nodup → c.length ≤ P →
    ∃ new e, (ks.foldl (crStep le P cost) (c, rems)).2 = rems ++ new ∧ new.length = ks.length ∧ runM (sstep P) (hs, n) (ks.zip new) = some e
  | [], c, rems, hs, n, _, _, _ => ⟨[], (hs, n), by simp, rfl, rfl⟩
  | k :: ks, c, rems, hs, n, h, nd, hl => by
    have hlen := h.len nd
    rw [List.foldl_cons]
    by_cases hk : k ∈ hs
    · have hv := (h.2 k).mp hk
      have e1 : crStep le P cost (c, rems) k = (pK c k (cost k), rems ++ [none]) := by unfold crStep; rw [if_neg (fun z => by rw [hv] at z; cases z.1)]
      obtain ⟨new, e, q1, q2, q3⟩ := credits_ok hP ks (rems := rems ++ [none]) (n := n) (h.old hk (cost k)) (pK_nodup nd k _) (by rw [pK_len_old _ hv]; exact hl)
      refine ⟨none :: new, e, by rw [e1, q1]; simp, by simp [q2], ?_⟩
      rw [List.zip_cons_cons, runM_cons]
      have : sstep P (hs, n) (k, none) = some (hs, n) := by unfold sstep; simp [hk]
      rw [this]; exact q3
    · have hv : (vK c k).isSome = false := by
        cases e : (vK c k).isSome with
        | true => exact absurd ((h.2 k).mpr e) hk
        | false => rfl
      have hvn : vK c k = none := by cases e : vK c k with | none => rfl | some v => rw [e] at hv; cases hv
      by_cases hP2 : c.length = P
      · have hc : c ≠ [] := fun z => by rw [z] at hP2; simp at hP2; omega
        have hg := gone_mem (le := le) tot tr hc
        have hgh : gone le c ∈ hs := (h.2 _).mpr (isSome_mem hg)
        have hgk : gone le c ≠ k := fun z => hk (z ▸ hgh)
        have e1 : crStep le P cost (c, rems) k = (pK (dK (lessC c) (gone le c)) k (cost k), rems ++ [some (gone le c)]) := by unfold crStep; rw [if_pos ⟨hv, hP2⟩]
        have hls : Hs hs (lessC c) := ⟨h.1, fun s => by rw [h.2 s, vK_isSome_keys (lessC_keys c)]⟩
        have nd2 : ((lessC c).map Prod.fst).Nodup := by rw [lessC_keys]; exact nd
        have hk2 : k ∉ hs.erase (gone le c) := fun z => hk (List.mem_of_mem_erase z)
        have hs2 := (hls.drop (gone le c)).new hk2 (cost k)
        have nd3 := pK_nodup (dK_nodup nd2 (gone le c)) k (cost k)
        have hlen2 := hs2.len nd3
        have hlen3 : (hs.erase (gone le c) ++ [k]).length = hs.length := by
          rw [List.length_append, List.length_erase_of_mem hgh]
          have := List.length_pos_of_mem hgh
          simp; omega
        obtain ⟨new, e, q1, q2, q3⟩ := credits_ok hP ks (rems := rems ++ [some (gone le c)]) (n := n + 1) hs2 nd3 (by omega)
        refine ⟨some (gone le c) :: new, e, by rw [e1, q1]; simp, by simp [q2], ?_⟩
        rw [List.zip_cons_cons, runM_cons]
        have : sstep P (hs, n) (k, some (gone le c)) = some (hs.erase (gone le c) ++ [k], n + 1) := by unfold sstep; simp [hk, hgh, hlen, hP2]
        rw [this]; exact q3
      · have e1 : crStep le P cost (c, rems) k = (pK c k (cost k), rems ++ [none]) := by unfold crStep; rw [if_neg (fun z => hP2 z.2)]
        obtain ⟨new, e, q1, q2, q3⟩ := credits_ok hP ks (rems := rems ++ [none]) (n := n + 1) (h.new hk (cost k)) (pK_nodup nd k _) (by rw [pK_len_new _ hvn]; omega)
        refine ⟨none :: new, e, by rw [e1, q1]; simp, by simp [q2], ?_⟩
        rw [List.zip_cons_cons, runM_cons]
        have : sstep P (hs, n) (k, none) = some (hs ++ [k], n + 1) := by unfold sstep; simp [hk, hlen, hP2]
        rw [this]; exact q3
end
end Ab

set_option Elab.async false
set_option linter.all false
set_option maxRecDepth 100000
set_option maxHeartbeats 2000000
namespace Ab
open PySem PySem.Spec PyProof.Rows L2
/-! ### texts in order -/
def leS (a b : Str) : Prop := ltS b a = false
theorem leS_tot (a b : Str) : leS a b ∨ leS b a := by
  cases e : ltS b a with
  | false => exact .inl e
  | true => exact .inr (ltS_as b a e)
theorem leS_tr (a b c : Str) (h : leS a b) (g : leS b c) : leS a c := ltS_tr c b a g h
theorem leS_anti (a b : Str) (h : leS a b) (g : leS b a) : a = b := by
  have h := of_decide_eq_false h
  have g := of_decide_eq_false g
  have e : a.cps.toList = b.cps.toList := List.le_antisymm (List.not_lt.mp h) (List.not_lt.mp g)
  have e2 : a.cps = b.cps := by rw [← Array.toArray_toList (xs := a.cps), ← Array.toArray_toList (xs := b.cps), e]
  cases a; cases b; simp only at e2; rw [e2]
theorem leS_lt {a b : Str} : leS a b ↔ ¬ b.cps.toList < a.cps.toList := by unfold leS ltS; rw [decide_eq_false_iff_not]
theorem rising_all : ∀ (p : Str) (l : List Str), risingS p l = true → (∀ y ∈ l, leS p y) ∧ l.Pairwise leS
  | _, [], _ => ⟨by simp, .nil⟩
  | p, x :: r, h => by
    unfold risingS at h
    rw [Bool.and_eq_true, Bool.not_eq_true', ltCps_eq] at h
    obtain ⟨h1, h2⟩ := rising_all x r h.2
    have hx : leS p x := leS_lt.mpr (of_decide_eq_false h.1)
    exact ⟨fun y hy => (List.mem_cons.mp hy).elim (fun e => e ▸ hx) fun q => leS_tr _ _ _ hx (h1 y q), .cons h1 h2⟩
theorem sortedS_pw {l : List Str} (h : sortedS l = true) : l.Pairwise leS := by
  cases l with
  | nil => exact .nil
  | cons x r => obtain ⟨h1, h2⟩ := rising_all x r h; exact .cons h1 h2
/-! ### dicts by texts -/
def kd {α : Type} (f : α → D) (c : List (Str × α)) : List (Key × D) := c.map fun p => (.inr p.1, f p.2)
section
variable {α : Type} {f : α → D}
theorem kd_get (c : List (Str × α)) (k : Str) : vK (kd f c) (.inr k) = (vK c k).map f := by
  induction c with
  | nil => rfl
  | cons p c ih =>
    unfold kd at ih ⊢
    rw [List.map_cons]
    by_cases e : p.1 = k
    · rw [vK_pos (p := (Sum.inr p.1, f p.2)) (by rw [e]), vK_pos e]; rfl
    · rw [vK_neg (p := (Sum.inr p.1, f p.2)) (fun z => e (Sum.inr.inj z)), vK_neg e]; exact ih
theorem kd_some (c : List (Str × α)) (k : Str) : (vK (kd f c) (.inr k)).isSome = (vK c k).isSome := by rw [kd_get]; cases vK c k <;> rfl
theorem kd_drop (c : List (Str × α)) (k : Str) : dK (kd f c) (.inr k) = kd f (dK c k) := by
  unfold dK kd
  rw [List.filter_map]
  congr 1
  apply List.filter_congr
  intro p _
  simp
theorem kd_put (c : List (Str × α)) (k : Str) (x : α) : pK (kd f c) (.inr k) (f x) = kd f (pK c k x) := by
  unfold pK
  rw [vK_any, vK_any, kd_some]
  cases e : (vK c k).isSome with
  | true =>
    simp only [if_true]
    unfold kd
    rw [List.map_map, List.map_map]
    apply List.map_congr_left
    intro p _
    simp only [Function.comp]
    by_cases q : p.1 = k
    · simp [q]
    · simp [q]
  | false =>
    simp only [Bool.false_eq_true, if_false]
    unfold kd
    rw [List.map_append]; rfl
theorem kd_len (c : List (Str × α)) : (kd f c).length = c.length := by unfold kd; rw [List.length_map]
theorem kd_nil : kd f [] = [] := rfl
theorem kd_snd (c : List (Str × α)) : (kd f c).map Prod.snd = (c.map Prod.snd).map f := by unfold kd; rw [List.map_map, List.map_map]; rfl
theorem kd_keys (c : List (Str × α)) : (kd f c).map (fun kv => kD kv.1) = (c.map Prod.fst).map D.str := by unfold kd; rw [List.map_map, List.map_map]; rfl
end
/-! ### flat lists -/
def encR : Option Str → D | none => .non | some s => .str s
def vR : Option Str → V | none => .non | some s => .str s
theorem scL_str : ∀ xs : List Str, scL (xs.map D.str) = some (xs.map V.str)
  | [] => rfl
  | x :: xs => by show (match scD (.str x), scL (xs.map D.str) with | some v, some vs => some (v :: vs) | _, _ => none) = _; rw [scL_str xs]; rfl
theorem scL_opt : ∀ xs : List (Option Str), scL (xs.map encR) = some (xs.map vR)
  | [] => rfl
  | x :: xs => by
    show (match scD (encR x), scL (xs.map encR) with | some v, some vs => some (v :: vs) | _, _ => none) = _
    rw [scL_opt xs]; cases x <;> rfl
theorem scD_opt (x : Option Str) : scD (encR x) = some (vR x) := by cases x <;> rfl
theorem inV_str (s : Str) : ∀ xs : List Str, inV (.str s) (xs.map V.str) = decide (s ∈ xs)
  | [] => rfl
  | x :: xs => by
    have ih := inV_str s xs
    unfold inV at ih ⊢
    rw [List.map_cons, List.any_cons, ih]
    show ((x == s) || decide (s ∈ xs)) = decide (s ∈ x :: xs)
    by_cases e : x = s
    · subst e; simp
    · have : ¬ s = x := fun z => e z.symm
      simp [e, this]
theorem inV_non : ∀ xs : List Str, inV .non (xs.map V.str) = false
  | [] => rfl
  | x :: xs => by
    have ih := inV_non xs
    unfold inV at ih ⊢
    rw [List.map_cons, List.any_cons, ih]; rfl
theorem asSs_str {x : Str} {xs : List Str} {k : V → List V → Prop} : asSs (.str x) (xs.map D.str) k = k (.str x) (xs.map V.str) := asSs_of rfl (scL_str xs)
theorem asSs_non {xs : List Str} {k : V → List V → Prop} : asSs .non (xs.map D.str) k = k .non (xs.map V.str) := asSs_of rfl (scL_str xs)
theorem dPs_opt : ∀ xs : List (Option Str), ∃ ys, dPs (xs.map encR) = some ys ∧ ys = xs.map (fun o => match o with | none => PyData.none | some s => PyData.str s)
  | [] => ⟨[], rfl, rfl⟩
  | x :: xs => by
    obtain ⟨ys, h, e⟩ := dPs_opt xs
    refine ⟨(match x with | none => PyData.none | some s => PyData.str s) :: ys, ?_, by rw [e]; rfl⟩
    show (match dP (encR x), dPs (xs.map encR) with | some x, some xs => some (x :: xs) | _, _ => none) = _
    rw [h]; cases x <;> rfl
/-! ### what stays -/
def Kp (M M' : Mh) : Prop := ∀ a m, M a = some m → M' a = some m
theorem Kp.refl (M : Mh) : Kp M M := fun _ _ h => h
theorem Kp.trans {M M1 M2 : Mh} (a : Kp M M1) (b : Kp M1 M2) : Kp M M2 := fun x m h => b x m (a x m h)
theorem Kp.new {M : Mh} {p : Addr} {m : MO} (h : M p = none) : Kp M (um M p m) := fun a q e => by rw [um_ne (fun z => by rw [z, h] at e; cases e)]; exact e
theorem Kp.ch {M M' : Mh} {p : Addr} {m : MO} (h : M p = none) (k : Kp M M') : Kp M (um M' p m) := fun a q e => by rw [um_ne (fun z => by rw [z, h] at e; cases e)]; exact k a q e
theorem Kp.off {M M' : Mh} {p : Addr} (h : M p = none) (k : Kp M M') : Kp M (em M' p) := fun a q e => by
  have n : a ≠ p := fun z => by rw [z, h] at e; cases e
  unfold em; rw [if_neg n]; exact k a q e
theorem em_same {M : Mh} {p : Addr} : em M p p = none := by unfold em; rw [if_pos rfl]
theorem um_of {M : Mh} {a p : Addr} {m q : MO} (n : a ≠ p) (h : M a = some q) : um M p m a = some q := by rw [um_ne n]; exact h
theorem ne_nn {M : Mh} {a p : Addr} {q : MO} (h : M a = some q) (n : M p = none) : a ≠ p := fun z => by rw [z, n] at h; cases h
theorem lst_get {α : Type} {f : α → D} {l : List α} {i : Nat} {a : α} (h : l[i]? = some a) {k : D → Prop} : at_ (l.map f) (i : Int) k = k (f a) := at_nat (by rw [List.getElem?_map, h]; rfl)
theorem zipg {α β : Type} {a : List α} {b : List β} {i : Nat} {x : α} {y : β} (h1 : a[i]? = some x) (h2 : b[i]? = some y) : (a.zip b)[i]? = some (x, y) := by
  rw [List.getElem?_zip_eq_some]; exact ⟨h1, h2⟩
theorem rem_at {xs : List Str} {k : Str} {f : List Str → Prop} (h : k ∈ xs) (hf : f (xs.erase k)) : remAt xs k f := by
  induction xs generalizing f with
  | nil => cases h
  | cons x r ih =>
    by_cases e : x = k
    · subst e
      exact ⟨0, rfl, fun m hm => absurd hm (Nat.not_lt_zero _), by simpa using hf⟩
    · have hk : k ∈ r := (List.mem_cons.mp h).elim (fun z => absurd z.symm e) id
      rw [List.erase_cons_tail (by simpa using e)] at hf
      obtain ⟨j, h1, h2, h3⟩ := ih (f := fun ys => f (x :: ys)) hk hf
      refine ⟨j + 1, h1, fun m hm => ?_, h3⟩
      cases m with
      | zero => simp; exact e
      | succ m => exact h2 m (by omega)
end Ab

set_option Elab.async false
set_option linter.all false
set_option maxRecDepth 100000
set_option maxHeartbeats 2000000
namespace Ab
open PySem PySem.Spec PyProof.Rows L2
theorem um_none {M : Mh} {p q : Addr} {m : MO} (h : um M p m q = none) : q ≠ p ∧ p ≠ q ∧ M q = none := by
  have n : q ≠ p := fun z => by rw [z, um_same] at h; cases h
  exact ⟨n, n.symm, by rw [um_ne n] at h; exact h⟩
theorem em_ne {M : Mh} {a p : Addr} (h : a ≠ p) : em M p a = M a := by unfold em; rw [if_neg h]
theorem erase_mapD : ∀ (l : List Str) (j : Nat), (l.map D.str).eraseIdx j = (l.eraseIdx j).map D.str
  | [], _ => rfl
  | _ :: _, 0 => rfl
  | x :: l, j + 1 => by simp only [List.map_cons, List.eraseIdx_cons_succ, erase_mapD l j]
theorem eraseD_str {xs : List Str} {k : Int} {f : D → List D → Prop} (h0 : 0 ≤ k) (h1 : k < xs.length) (h : ∀ x, xs[k.toNat]? = some x → f (.str x) ((xs.eraseIdx k.toNat).map D.str)) : eraseD (xs.map D.str) k f := by
  unfold eraseD
  refine ⟨h0, by rw [List.length_map]; exact h1, ?_⟩
  have hk : k.toNat < xs.length := by omega
  have e : (xs.map D.str)[k.toNat]? = some (.str xs[k.toNat]) := by rw [List.getElem?_map, List.getElem?_eq_getElem hk]; rfl
  rw [e]
  have q := h _ (List.getElem?_eq_getElem hk)
  have e2 : (xs.map D.str).eraseIdx k.toNat = (xs.eraseIdx k.toNat).map D.str := erase_mapD xs k.toNat
  rw [e2]
  exact q
theorem eraseIdx_nodup {xs : List Str} (nd : xs.Nodup) {i : Nat} {x : Str} (h : xs[i]? = some x) : xs.eraseIdx i = xs.erase x := by
  induction xs generalizing i with
  | nil => cases h
  | cons a l ih =>
    rw [List.nodup_cons] at nd
    cases i with
    | zero => simp at h; subst h; simp
    | succ i =>
      have h2 : l[i]? = some x := h
      have : a ≠ x := fun z => nd.1 (z ▸ List.mem_of_getElem? h2)
      rw [List.eraseIdx_cons_succ, ih nd.2 h2, List.erase_cons_tail (by simpa using this)]
theorem sstep_nodup {P : Nat} {s e : List Str × Nat} {a : Str × Option Str} (nd : s.1.Nodup) (h : Ab.sstep P s a = some e) : e.1.Nodup := by
  obtain ⟨hs, n⟩ := s
  obtain ⟨k, r⟩ := a
  unfold Ab.sstep at h
  simp only at h nd
  have app : ∀ l : List Str, l.Nodup → k ∉ l → (l ++ [k]).Nodup := fun l hl hk => List.nodup_append.mpr ⟨hl, by simp, fun a ha b hb => by rw [List.mem_singleton.mp hb]; exact fun z => hk (z ▸ ha)⟩
  by_cases hk : k ∈ hs
  · rw [if_pos hk] at h
    by_cases hr : r = none
    · rw [if_pos hr] at h; cases h; exact nd
    · rw [if_neg hr] at h; cases h
  · rw [if_neg hk] at h
    by_cases hP : hs.length = P
    · rw [if_pos hP] at h
      cases r with
      | none => cases h
      | some x =>
        simp only at h
        by_cases hx : x ∈ hs
        · rw [if_pos hx] at h; cases h; exact app _ (nd.erase x) fun z => hk (List.mem_of_mem_erase z)
        · rw [if_neg hx] at h; cases h
    · rw [if_neg hP] at h
      by_cases hr : r = none
      · rw [if_pos hr] at h; cases h; exact app _ nd hk
      · rw [if_neg hr] at h; cases h
theorem zip_snoc {α β : Type} : ∀ {a : List α} {b : List β} {x : α} {y : β}, a.length = b.length → (a ++ [x]).zip (b ++ [y]) = a.zip b ++ [(x, y)]
  | [], [], _, _, _ => rfl
  | [], _ :: _, _, _, h => by cases h
  | _ :: _, [], _, _, h => by cases h
  | a :: l, b :: m, x, y, h => by rw [List.cons_append, List.cons_append, List.zip_cons_cons, List.zip_cons_cons, List.cons_append, zip_snoc (Nat.succ.inj h)]

theorem drop_at {α : Type} {l : List α} {i : Nat} {a : α} (h : l[i]? = some a) : l.drop i = a :: l.drop (i + 1) := by
  obtain ⟨hi, e⟩ := List.getElem?_eq_some_iff.mp h
  rw [← e]; exact List.drop_eq_getElem_cons hi
theorem pK_take {κ α : Type} [DecidableEq κ] {c : List (κ × α)} (nd : (c.map Prod.fst).Nodup) {i : Nat} {k : κ} {x : α} (h : c[i]? = some (k, x)) : pK (c.take i) k x = c.take (i + 1) := by
  have hn : vK (c.take i) k = none := by
    refine vK_none.mpr fun hm => ?_
    have e : c.map Prod.fst = (c.take i).map Prod.fst ++ (c.drop i).map Prod.fst := by rw [← List.map_append, List.take_append_drop]
    rw [e, List.nodup_append] at nd
    exact nd.2.2 k hm k (by rw [drop_at h]; exact List.mem_cons_self) rfl
  rw [pK_new x hn, take_at h]
theorem kd_putU {d : D} (c : List (Str × Unit)) (k : Str) : pK (kd (fun _ : Unit => d) c) (.inr k) d = kd (fun _ : Unit => d) (pK c k ()) := kd_put (f := fun _ : Unit => d) c k ()
theorem kd_take {α : Type} {f : α → D} {c : List (Str × α)} (nd : (c.map Prod.fst).Nodup) {i : Nat} {k : Str} {x : α} (h : c[i]? = some (k, x)) : pK (kd f (c.take i)) (.inr k) (f x) = kd f (c.take (i + 1)) := by rw [kd_put, pK_take nd h]
theorem kd_at {α : Type} {f : α → D} {c : List (Str × α)} {i : Nat} {kv : Key × D} (h : (kd f c)[i]? = some kv) : ∃ k x, c[i]? = some (k, x) ∧ kv = (.inr k, f x) := by
  unfold kd at h
  rw [List.getElem?_map] at h
  cases e : c[i]? with
  | none => rw [e] at h; cases h
  | some p => rw [e] at h; cases h; exact ⟨p.1, p.2, rfl, rfl⟩
theorem bt {b : Bool} (h : ¬ b = false) : b = true := by cases b <;> simp_all
theorem bf {b : Bool} (h : ¬ b = true) : b = false := by cases b <;> simp_all
theorem um_self {M : Mh} {a : Addr} {m : MO} (h : M a = some m) : um M a m = M := by
  funext b; unfold um; split
  · rename_i e; rw [e, h]
  · rfl
theorem um_lock {M : Mh} {a : Addr} {m n : MO} (h : M a = some m) : um (um M a n) a m = M := by rw [um_um, um_self h]
theorem dput_um {M : Mh} {p : Addr} {y z : D} {k : Mh → Prop} {kds : List (Key × D)} : dput (um M p (.dct kds)) p y z k = (kds.length < 100000 ∧ asK y fun j => k (um M p (.dct (pK kds j z)))) := by rw [dput_1 um_same]; simp only [um_um]
theorem dget_um {M : Mh} {p : Addr} {y : D} {k : Option D → Prop} {kds : List (Key × D)} : dget (um M p (.dct kds)) p y k = asK y fun j => k (vK kds j) := dget_1 um_same
theorem isd_um {M : Mh} {p : Addr} {kds : List (Key × D)} : isd (um M p (.dct kds)) p = True := eq_true (isd_1 um_same)
/-! ### the drawing state -/
def GV (m : MO) : Prop := ∃ (a : Int) (sc : List Int) (i c : Int), m = .lst [.int a, .lst (sc.map D.int), .int i, .int c] ∧ 0 ≤ a ∧ 0 ≤ i ∧ 0 ≤ c
def GS (M : Mh) (st : Addr) : Prop := ∃ m, M st = some m ∧ GV m
/-- but for st all is as it was -/
def Sam (st : Addr) (M M' : Mh) : Prop := ∀ a m, M a = some m → a ≠ st → M' a = some m
theorem Sam.refl {st : Addr} (M : Mh) : Sam st M M := fun _ _ h _ => h
theorem Sam.trans {st : Addr} {M M1 M2 : Mh} (a : Sam st M M1) (b : Sam st M1 M2) : Sam st M M2 := fun x m h n => b x m (a x m h n) n
theorem Sam.ch {st : Addr} {M : Mh} {m : MO} : Sam st M (um M st m) := fun a m h n => by rw [um_ne n]; exact h
theorem Kp.sam {st : Addr} {M M' : Mh} (k : Kp M M') : Sam st M M' := fun a m h _ => k a m h
theorem GS.ne {M : Mh} {st p : Addr} (g : GS M st) (h : M p = none) : p ≠ st := fun z => by obtain ⟨q, e, _⟩ := g; rw [z, e] at h; cases h
theorem GS.u {M : Mh} {st p : Addr} {m : MO} (n : p ≠ st) (g : GS M st) : GS (um M p m) st := let ⟨q, e, v⟩ := g; ⟨q, by rw [um_ne n.symm]; exact e, v⟩
theorem GS.e {M : Mh} {st p : Addr} (n : p ≠ st) (g : GS M st) : GS (em M p) st := let ⟨q, e, v⟩ := g; ⟨q, by rw [em_ne n.symm]; exact e, v⟩
theorem GS.kp {st : Addr} {M M' : Mh} (hg : GS M st) (k : Kp M M') : GS M' st := let ⟨q, e, v⟩ := hg; ⟨q, k _ _ e, v⟩
theorem Sam.u {st p : Addr} {M M' : Mh} {m : MO} (h : M p = none) (s : Sam st M M') : Sam st M (um M' p m) := fun a q e n => by rw [um_ne (ne_nn e h)]; exact s a q e n
theorem Sam.e {st p : Addr} {M M' : Mh} (h : M p = none) (s : Sam st M M') : Sam st M (em M' p) := fun a q e n => by rw [em_ne (ne_nn e h)]; exact s a q e n
theorem Sam.new {st p : Addr} {M M' : Mh} {m : MO} (hp : M p = none) (s : Sam st (um M p m) M') : Sam st M M' := fun a q e n => s a q (by rw [um_ne (ne_nn e hp)]; exact e) n
theorem map_get' {α : Type} {f : α → D} {l : List α} {i : Nat} {d : D} (h : (l.map f)[i]? = some d) : ∃ a, l[i]? = some a ∧ d = f a := by
  rw [List.getElem?_map] at h
  cases e : l[i]? with
  | none => rw [e] at h; cases h
  | some a => rw [e] at h; cases h; exact ⟨a, rfl, rfl⟩
/-- an item by an index within -/
theorem at_in' {α : Type} {f : α → D} {l : List α} {i : Int} (h0 : 0 ≤ i) (h1 : i < l.length) : ∃ a ∈ l, ∀ k : D → Prop, at_ (l.map f) i k = k (f a) := by
  obtain ⟨c, e1, e2⟩ := atI_in (l := l.map f) h0 (by rw [List.length_map]; exact h1)
  obtain ⟨a, e3, rfl⟩ := map_get' e2
  exact ⟨a, List.mem_of_getElem? e3, fun k => at_of e1⟩
end Ab

set_option Elab.async false
set_option linter.all false
set_option maxRecDepth 100000
set_option maxHeartbeats 2000000
namespace Ab
open PySem PySem.Spec PyProof.Rows L2
/-- its signs are signs -/
def Kk (x : Str) : Prop := PyData.strOk x = true
theorem kk_app {a b : Str} (h1 : Kk a) (h2 : Kk b) : Kk (a ++ b) := by
  unfold Kk PyData.strOk at *
  have e : (a ++ b).cps = a.cps ++ b.cps := rfl
  rw [e, Array.all_append, h1, h2]; rfl
theorem kk_iff {a : Str} : Kk a ↔ ∀ c ∈ a.cps.toList, c < 0x110000 := by
  unfold Kk PyData.strOk
  rw [← Array.all_toList, List.all_eq_true]
  constructor
  · exact fun h c hc => of_decide_eq_true (h c hc)
  · exact fun h c hc => decide_eq_true (h c hc)
theorem kk_one {s : Str} {c : Nat} (hs : Kk s) (h : c ∈ s.cps.toList) : Kk ⟨#[c]⟩ := kk_iff.mpr fun d hd => by
  have hd : d ∈ [c] := hd
  rw [List.mem_singleton.mp hd]
  exact kk_iff.mp hs c h
theorem kk_cut {z : Str} {lo hi : Option Int} (h : Kk z) : Kk (cutS z lo hi) := kk_iff.mpr fun c hc => by
  unfold cutS at hc
  have hc : c ∈ (z.cps.toList.drop (HT.sIx z.length 0 lo)).take (HT.sIx z.length z.length hi - HT.sIx z.length 0 lo) := by simpa using hc
  exact kk_iff.mp h c (List.mem_of_mem_drop (List.mem_of_mem_take hc))
theorem len_cut {z : Str} {lo hi : Option Int} : (cutS z lo hi).length ≤ z.length := by
  show (cutS z lo hi).cps.size ≤ z.cps.size
  unfold cutS
  simp only [List.size_toArray, List.length_take, List.length_drop, Array.length_toList]
  omega
theorem kk_join : ∀ {ys : List Str}, (∀ y ∈ ys, Kk y) → Kk (Txt.join "" ys) := by
  intro ys h
  show Kk (Builtin.Str.glued "" ys)
  rw [StrLaws.glued_eq_join]
  induction ys with
  | nil => exact (by decide +kernel : PyData.strOk Str.empty = true)
  | cons y ys ih =>
    cases ys with
    | nil => exact h y List.mem_cons_self
    | cons z r => exact kk_app (kk_app (h y List.mem_cons_self) (by decide +kernel : PyData.strOk "" = true)) (ih fun q hq => h q (List.mem_cons_of_mem _ hq))
theorem len_app (a b : Str) : (a ++ b).length = a.length + b.length := PySem.Str.length_append a b
/-- plain data, not deep -/
def LtN (n : Nat) (d : D) : Prop := ∃ x, dP d = some x ∧ x.canLay0 = true ∧ x.depth ≤ n
theorem LtN.mono {m n : Nat} {d : D} (h : LtN m d) (l : m ≤ n) : LtN n d := let ⟨x, a, b, c⟩ := h; ⟨x, a, b, Nat.le_trans c l⟩
theorem lt_int {n : Nat} {i : Int} : LtN n (.int i) := ⟨.int i, rfl, rfl, Nat.zero_le _⟩
theorem lt_bl {n : Nat} {i : Bool} : LtN n (.bl i) := ⟨.bool i, rfl, rfl, Nat.zero_le _⟩
theorem lt_non {n : Nat} : LtN n .non := ⟨.none, rfl, rfl, Nat.zero_le _⟩
theorem lt_str {n : Nat} {s : Str} (h : PyData.strOk s = true) : LtN n (.str s) := ⟨.str s, rfl, h, Nat.zero_le _⟩
theorem lt_all {n : Nat} : ∀ {ds : List D}, (∀ d ∈ ds, LtN n d) → ∃ xs, dPs ds = some xs ∧ PyData.canLayAll0 xs = true ∧ PyData.depthAll xs ≤ n
  | [], _ => ⟨[], rfl, rfl, Nat.zero_le _⟩
  | d :: ds, h => by
    obtain ⟨x, e1, c1, d1⟩ := h d List.mem_cons_self
    obtain ⟨xs, e2, c2, d2⟩ := lt_all fun q hq => h q (List.mem_cons_of_mem _ hq)
    refine ⟨x :: xs, by unfold dPs; rw [e1, e2], by show (x.canLay0 && PyData.canLayAll0 xs) = true; rw [c1, c2]; rfl, by show max x.depth (PyData.depthAll xs) ≤ n; omega⟩
theorem lt_tup {n : Nat} {ds : List D} (h : ∀ d ∈ ds, LtN n d) : LtN (n + 1) (.tup ds) := by
  obtain ⟨xs, e, c, d⟩ := lt_all h
  exact ⟨.tuple xs, by unfold dP; rw [e]; rfl, c, by show PyData.depthAll xs + 1 ≤ n + 1; omega⟩
theorem lt_sh {n : Nat} {x : PyData} (hn : n ≤ 60) (c : x.canLay0 = true) (d : x.depth ≤ n) : SeqAt.shaped x = true := by
  unfold SeqAt.shaped
  rw [c, decide_eq_true (by omega : x.depth ≤ 64)]; rfl
/-- compared with itself, not a list that changes -/
theorem neSame {n : Nat} {d : D} {M : Mh} {R : PyData → PyData → Prop} (hn : n ≤ 60) (hd : ∀ p, d ≠ .ref p) (h : LtN n d) (hR : ∀ x, PyData.eqv x x = true → R x x) : asPy d M fun a => asPy d M fun b => SeqAt.shaped a = true ∧ SeqAt.shaped b = true ∧ R a b := by
  obtain ⟨x, e, c, dd⟩ := h
  have s := lt_sh hn c dd
  have g : ∀ k : PyData → Prop, k x → asPy d M k := fun k hk => by
    cases d with
    | ref p => exact absurd rfl (hd p)
    | _ => exact ⟨x, e, hk⟩
  exact g _ (g _ ⟨s, s, hR x (PySem.SeqAt.eqv_refl x c)⟩)
/-- two lists that change, alike -/
theorem neList {n : Nat} {L : List D} {M : Mh} {p q : Addr} {R : PyData → PyData → Prop} (hn : n ≤ 50) (hp : M p = some (.lst L)) (hq : M q = some (.lst L)) (h : ∀ d ∈ L, LtN n d) (hR : ∀ x, PyData.eqv x x = true → R x x) :
    asPy (.ref p) M fun a => asPy (.ref q) M fun b => SeqAt.shaped a = true ∧ SeqAt.shaped b = true ∧ R a b := by
  obtain ⟨xs, e, c, dd⟩ := lt_all h
  have s : SeqAt.shaped (.list xs) = true := lt_sh (n := n + 1) (by omega) c (by show PyData.depthAll xs + 1 ≤ n + 1; omega)
  show mL M p fun ds => ∃ xs, dPs ds = some xs ∧ _
  rw [mL_of hp]
  refine ⟨xs, e, ?_⟩
  show mL M q fun ds => ∃ xs, dPs ds = some xs ∧ _
  rw [mL_of hq]
  exact ⟨xs, e, s, s, hR (.list xs) (PySem.SeqAt.eqv_refl (.list xs) c)⟩
theorem ac {α : Type} {p : α → Prop} {a : α} {l : List α} (h : p a) (t : ∀ x ∈ l, p x) : ∀ x ∈ a :: l, p x := fun x hx => by
  rcases List.mem_cons.mp hx with rfl | q
  · exact h
  · exact t x q
theorem an {α : Type} {p : α → Prop} : ∀ x ∈ ([] : List α), p x := fun _ h => nomatch h
theorem lt_lst {n : Nat} {ds : List D} (h : ∀ d ∈ ds, LtN n d) : LtN (n + 1) (.lst ds) := by
  obtain ⟨xs, e, c, d⟩ := lt_all h
  exact ⟨.list xs, by unfold dP; rw [e]; rfl, c, by show PyData.depthAll xs + 1 ≤ n + 1; omega⟩
theorem lt_opt {n : Nat} {x : Option Str} (h : ∀ s, x = some s → Kk s) : LtN n (encR x) := by
  cases x with
  | none => exact lt_non
  | some s => exact lt_str (h s rfl)
theorem lt_map {α : Type} {n : Nat} {f : α → D} {l : List α} (h : ∀ a ∈ l, LtN n (f a)) : ∀ d ∈ l.map f, LtN n d := fun d hd => by
  obtain ⟨a, ha, rfl⟩ := List.mem_map.mp hd
  exact h a ha
theorem vK_mid {κ α : Type} [DecidableEq κ] {A B : List (κ × α)} {k : κ} {x : α} (h : k ∉ A.map Prod.fst) : vK (A ++ (k, x) :: B) k = some x := by
  rw [vK_app, vK_none.mpr h]
  exact vK_pos (p := (k, x)) rfl
theorem pK_mid {κ α : Type} [DecidableEq κ] {A B : List (κ × α)} {k : κ} {x y : α} (h : k ∉ A.map Prod.fst) (h2 : k ∉ B.map Prod.fst) : pK (A ++ (k, x) :: B) k y = A ++ (k, y) :: B := by
  unfold pK
  rw [vK_any, vK_mid h]
  simp only [Option.isSome_some, if_true]
  have nochange : ∀ L : List (κ × α), k ∉ L.map Prod.fst → L.map (fun kv => if kv.1 = k then (kv.1, y) else kv) = L := fun L hL => by
    have : L.map (fun kv => if kv.1 = k then (kv.1, y) else kv) = L.map id := List.map_congr_left fun p hp => by
      have : ¬ p.1 = k := fun z => hL (z ▸ List.mem_map_of_mem (f := Prod.fst) hp)
      simp [this]
    rw [this, List.map_id]
  rw [List.map_append, List.map_cons, nochange A h, nochange B h2]
  simp
theorem nodup_mid {κ α : Type} [DecidableEq κ] {c : List (κ × α)} {j : Nat} {k : κ} {x : α} (nd : (c.map Prod.fst).Nodup) (h : c[j]? = some (k, x)) : k ∉ (c.take j).map Prod.fst ∧ k ∉ (c.drop (j + 1)).map Prod.fst := by
  have e : c.map Prod.fst = (c.take j).map Prod.fst ++ k :: (c.drop (j + 1)).map Prod.fst := by
    rw [← List.map_cons (f := Prod.fst) (a := (k, x)), ← drop_at h, ← List.map_append, List.take_append_drop]
  rw [e, List.nodup_append] at nd
  exact ⟨fun hm => nd.2.2 k hm k List.mem_cons_self rfl, (List.nodup_cons.mp nd.2.1).1⟩
end Ab
namespace Ab
open PySem PySem.Spec PyProof.Rows L2
theorem cr_mem {κ : Type} [DecidableEq κ] [Inhabited κ] {le : κ → κ → Prop} (tot : ∀ a b, le a b ∨ le b a) (tr : ∀ a b c, le a b → le b c → le a c) {P : Nat} (hP : 0 < P) {cost : κ → Int} {K : κ → Prop} : ∀ (ks : List κ) {c : List (κ × Int)} {rems : List (Option κ)}, (∀ k ∈ c.map Prod.fst, K k) → (∀ s, some s ∈ rems → K s) → (∀ k ∈ ks, K k) → ∀ s, some s ∈ (ks.foldl (Ab.crStep le P cost) (c, rems)).2 → K s
  | [], _, _, _, h2, _ => h2
  | k :: ks, c, rems, h1, h2, h3 => by
    rw [List.foldl_cons]
    have hk := h3 k List.mem_cons_self
    have put : ∀ (l : List (κ × Int)) (x : Int), (∀ j ∈ l.map Prod.fst, K j) → ∀ j ∈ (pK l k x).map Prod.fst, K j := fun l x hl j hj => by
      rw [pK_keys] at hj
      split at hj
      · exact (List.mem_append.mp hj).elim (hl j) fun z => by rw [List.mem_singleton.mp z]; exact hk
      · exact hl j hj
    unfold Ab.crStep
    by_cases hc : (vK c k).isSome = false ∧ c.length = P
    · simp only [if_pos hc]
      have hne : c ≠ [] := fun z => by have := hc.2; rw [z] at this; simp at this; omega
      have hg := h1 _ (gone_mem (le := le) tot tr hne)
      refine cr_mem tot tr hP ks (put _ _ fun j hj => ?_) (fun s hs => ?_) (fun j hj => h3 j (List.mem_cons_of_mem _ hj))
      · rw [dK_sub, lessC_keys] at hj
        exact h1 j (List.mem_filter.mp hj).1
      · rcases List.mem_append.mp hs with z | z
        · exact h2 s z
        · have := List.mem_singleton.mp z
          cases this; exact hg
    · simp only [if_neg hc]
      refine cr_mem tot tr hP ks (put _ _ h1) (fun s hs => ?_) (fun j hj => h3 j (List.mem_cons_of_mem _ hj))
      rcases List.mem_append.mp hs with z | z
      · exact h2 s z
      · have := List.mem_singleton.mp z
        cases this
end Ab
namespace Ab
theorem sstep_cnt {κ : Type} [DecidableEq κ] {P : Nat} {s e : List κ × Nat} {a : κ × Option κ} (h : Ab.sstep P s a = some e) : e.2 ≤ s.2 + 1 := by
  obtain ⟨hs, n⟩ := s
  obtain ⟨k, r⟩ := a
  unfold Ab.sstep at h
  simp only at h ⊢
  split at h
  · split at h
    · cases h; exact Nat.le_succ _
    · cases h
  · split at h
    · cases r with
      | none => cases h
      | some x =>
        simp only at h
        split at h
        · cases h; exact Nat.le_refl _
        · cases h
    · split at h
      · cases h; exact Nat.le_refl _
      · cases h
theorem srun_cnt {κ : Type} [DecidableEq κ] {P : Nat} : ∀ {l : List (κ × Option κ)} {s e : List κ × Nat}, runM (Ab.sstep P) s l = some e → e.2 ≤ s.2 + l.length
  | [], s, e, h => by cases h; exact Nat.le_refl _
  | a :: l, s, e, h => by
    rw [runM_cons] at h
    cases q : Ab.sstep P s a with
    | none => rw [q] at h; cases h
    | some s1 =>
      rw [q] at h
      have h1 := sstep_cnt q
      have h2 := srun_cnt (l := l) h
      rw [List.length_cons]; omega
end Ab

set_option Elab.async false
set_option linter.all false
set_option maxRecDepth 100000
set_option maxHeartbeats 2000000
namespace Ab
open PySem PySem.Spec PyProof.Rows L2
section
variable {K : PySem.W.Frag} {T : Tt}
/-- o.f += a, ints -/
def sAugF (f : Str) (o a : XE K T) : XS K T where
  t := fun W => L2.sFldAug K (o.t W) (a.t W) L2.rAdd f
  w := fun ρ M ε Ξ => o.w ρ M (fun x M1 => asR x fun p => mI M1 p fun C _ fs => Cls K C ∧ NoAttr K C f ∧ fldD fs f fun d => asI d fun i => a.w ρ M1 (fun y M2 => asI y fun j => mI M2 p fun C' dx' fs' => C' = C ∧ fs'.length < 999 ∧ ε.nx ρ (um M2 p (.ins C dx' (putD f (.int (i + j)) fs')))) Ξ) Ξ
  ok := fun {W ρ M ε Ξ} h P σ H wr rs Dn hd hx => o.ok h wr rs (fun u x P1 M1 H1 h1 s1 r1 => by
    obtain ⟨p, rfl, h2⟩ := asR.get h1
    obtain ⟨C, dx, fs, hm, c, n, h3⟩ := h2.get
    obtain ⟨o, ho, rm⟩ := s1.wr.chg _ _ hm
    unfold fldD at h3
    cases e : fs.lookup f with
    | none => rw [e] at h3; exact h3.elim
    | some d =>
      rw [e] at h3
      obtain ⟨i, rfl, h4⟩ := asI.get h3
      cases rm with
      | ins hk hr =>
        obtain ⟨u2, e2, r2⟩ := look_rep hk hr e
        refine ⟨p, C, dx, _, u2, r1.toR, ho, c, n, e2, a.ok h4 s1.wr (rs.mono s1.ex) (fun v y P2 M2 H2 h5 s2 r3 => ?_) (hx.mono s1)⟩
        obtain ⟨j, rfl, h6⟩ := asI.get h5
        obtain ⟨C', dx', fs', hm2, rfl, hl, h7⟩ := h6.get
        obtain ⟨o2, ho2, rm2⟩ := s2.wr.chg _ _ hm2
        cases rm2 with
        | @ins _ _ fv2 _ hk2 hr2 =>
          have r4 : Rep K P2 (.int (i + j)) (.int (i + j)) := .int _
          obtain ⟨q1, q2⟩ := put_rep (f := f) r4 hk2 hr2
          have hlen : fv2.length = fs'.length := by have := congrArg List.length hk2; simpa using this
          have s3 := Step.put (o := .ins C' dx' (putF f (.int (i + j)) fv2)) s2.wr hm2 (.ins (dx := dx') (C := C') q1 q2)
          exact ⟨i, j, r2.toI, r3.toI, dx', fv2, ho2, by rw [hlen]; omega, hd.nx _ _ _ _ _ h7 ((s1.trans s2).trans s3) (rs.mono ((s1.trans s2).trans s3).ex)⟩) hx
/-- an item of a list or a tuple -/
def rIxA (K : PySem.W.Frag) : R2 := fun x y H Q => rIxL K x y H Q ∨ rIxT K x y H Q
def oIxA : XO K T where
  r := rIxA K
  w := fun x y M Φ => asQ x M fun ds => asI y fun i => at_ ds i fun d => Φ d M
  ok := fun {x y M Φ} h P H vx vy wr rx ry Q hq => by
    obtain ⟨ds, a, vs, h1, rfl, hs, hr⟩ := h.rd wr rx
    obtain ⟨i, rfl, h2⟩ := asI.get h1
    obtain ⟨v, d, e, r, h3⟩ := atI_rep h2 hr
    rcases hs with hs | hs
    · exact .inl ⟨a, vs, i, v, rfl, ry.toI, hs, e, hq _ _ _ _ _ h3 (Step.refl wr) r⟩
    · exact .inr ⟨a, vs, i, v, rfl, ry.toI, hs, e, hq _ _ _ _ _ h3 (Step.refl wr) r⟩
end
section
variable {X : Cx} {W : WX} {T : Tt} {pos tpos : Pos} {o a : XE X.K T} {as : XA X.K T} {eo ea e : Expr} {es : List Expr} {f : Str}
theorem dAugF (ho : PE X eo (o.t W)) (ha : PE X ea (a.t W)) : PS X (.AugAssign (.Attribute eo f tpos) .Add ea pos) ((sAugF f o a).t W) := ps_fldaug ho ha in_add
theorem ix_any : IxR X (oIxA (K := X.K) (T := T)).r := by
  intro value slice pins s σ H x y v u Q I rx ry h e
  rcases h with h | h
  · exact ix_list value slice pins s σ H x y v u Q I rx ry h e
  · exact ix_tup value slice pins s σ H x y v u Q I rx ry h e
theorem dMake {k j : Nat} {x : Str} {C : Addr} {sp : Pm} {p : Pos} (c : Mc X.prog X.w X.K X.mg X.base T k x C sp) (hr : Room j X.A) (hk : k + 1 ≤ j) (ha : PA X (e :: es) (as.t W)) (hg : Gl X x := by rfl) (hdb : (x == ("__debug__" : Str)) = false := by decide)
    (he : starEach (e :: es) X.env = (false, eval e X.env) :: starEach es X.env := by rfl) (hpl : (backTo pos (starEach es X.env)).any (·.1) = false := by rfl) :
    PE X (.Call (.Name x p) (e :: es) [] pos) ((xMake C sp as).t W) := by
  obtain ⟨f, fd, ps, F, m, hm, b⟩ := c.ex
  exact pe_make m F (hr.mono hk) hg hm b .nil passF ha hdb he hpl
end
section
variable {P : Program} {w : World} {K : PySem.W.Frag} {mg : Str → Option Value} {base : Heap} {T : Tt}
abbrev spF : Pm := fun _ _ _ _ => False
/-- a def that is never called -/
theorem clF {x : Str} {st : Stmt} {N ps : List Str} (F : Df K mg x st) (S : FnScope N ps (defScope st))
    (hb : ∀ (kV doc pm : Value) (an : Option Addr) (cdv ct : Value) (us : List Value), us.length = ps.length → bindArgs (PySem.W.fnOf x x (defArgs st) (defBody st) (defScope st) .none kV doc pm an cdv ct) ⟨us, []⟩ = pure (ps.zip us)) : Cl P w K mg base T 1 x spF := by
  obtain ⟨f, fd, F, hm, hdf⟩ := F.ex
  exact ⟨f, fd, ps, F.okX (k := 0) S (fun vs H Q E h => by obtain ⟨_, _, _, _, _, _, _, h, _⟩ := h; exact h.elim) (fun cdv A outer s H vs Q E hr h => by obtain ⟨_, _, _, _, _, _, _, h, _⟩ := h; exact h.elim), hm, F.kp, F.binds hb⟩
end
/-! ### covers, questions, writes -/
def inC (x y k : Str) : Bool := !ltS k x && !ltS y k
def incl (x y a b : Str) : Bool := ltS b a || (inC x y a && inC x y b)
theorem ltS_anti {a b : Str} (h1 : ltS a b = false) (h2 : ltS b a = false) : a = b := leS_anti a b h2 h1
theorem ltS_trans {a b c : Str} (h1 : ltS a b = true) (h2 : ltS b c = true) : ltS a c = true := by
  cases e : ltS a c with
  | true => rfl
  | false =>
    have h3 := ltS_tr b a c (ltS_as a b h1) e
    rw [h2] at h3; cases h3
theorem ltS_tot {a b : Str} (h : a ≠ b) : ltS a b = true ∨ ltS b a = true := by
  cases e1 : ltS a b with
  | true => exact .inl rfl
  | false =>
    cases e2 : ltS b a with
    | true => exact .inr rfl
    | false => exact absurd (ltS_anti e1 e2) h
theorem inC_iff {x y k : Str} : inC x y k = true ↔ leS x k ∧ leS k y := by
  unfold inC leS
  rw [Bool.and_eq_true, Bool.not_eq_true', Bool.not_eq_true']
theorem incl_in {x y a b k : Str} (h : incl x y a b = true) (hk : inC a b k = true) : inC x y k = true := by
  obtain ⟨k1, k2⟩ := inC_iff.mp hk
  unfold incl at h
  rw [Bool.or_eq_true, Bool.and_eq_true, inC_iff, inC_iff] at h
  rcases h with h | ⟨⟨h1, h2⟩, h3, h4⟩
  · have := leS_tr _ _ _ k1 k2
    unfold leS at this
    rw [h] at this; cases this
  · exact inC_iff.mpr ⟨leS_tr _ _ _ h1 k1, leS_tr _ _ _ k2 h4⟩
abbrev Wt := Str × Option Int
abbrev Cm := Int × List Wt
abbrev Qn := Str × Str × Str
def encO : Option Int → D | none => .non | some i => .int i
def encW (p : Wt) : D := .tup [.str p.1, encO p.2]
def encG (g : List Wt) : D := .tup (g.map encW)
def encC (c : Cm) : D := .tup [.int c.1, encG c.2]
def encP (p : Str × Int) : D := .tup [.str p.1, .int p.2]
def encV (c : Str × Str) : D := .tup [.str c.1, .str c.2]
def encQ (q : Qn) : D := if q.1 = "get" then .tup [.str q.1, .str q.2.1] else .tup [.str q.1, .str q.2.1, .str q.2.2]
def covQ (q : Qn) : Str × Str := (q.2.1, if q.1 = "get" then q.2.1 else q.2.2)
/-! ### records -/
abbrev Rm := Str → Option Int
def setR (f : Rm) (w : Wt) : Rm := fun k => if k = w.1 then w.2 else f k
def recG (f : Rm) (ws : List Wt) : Rm := ws.foldl setR f
def recA (L : List Cm) : Rm := (L.flatMap (·.2)).foldl setR (fun _ => none)
theorem recA_snoc (L : List Cm) (c : Cm) : recA (L ++ [c]) = recG (recA L) c.2 := by
  unfold recA recG
  rw [List.flatMap_append, List.foldl_append]
  simp
/-- the records of a dict whose items may be None -/
def rmO (c : List (Str × Option Int)) : Rm := fun k => (vK c k).join
def rmI (c : List (Str × Int)) : Rm := fun k => vK c k
theorem rmO_put (c : List (Str × Option Int)) (w : Wt) : rmO (pK c w.1 w.2) = setR (rmO c) w := by
  funext k; unfold rmO setR; rw [vK_put]; split <;> rfl
def putI (c : List (Str × Int)) (w : Wt) : List (Str × Int) := match w.2 with | none => dK c w.1 | some v => pK c w.1 v
theorem rmI_put (c : List (Str × Int)) (w : Wt) : rmI (putI c w) = setR (rmI c) w := by
  obtain ⟨k0, v⟩ := w
  funext k
  unfold rmI setR putI
  cases v with
  | none => simp only; rw [vK_drop]
  | some v => simp only; rw [vK_put]
theorem putI_nodup {c : List (Str × Int)} (nd : (c.map Prod.fst).Nodup) (w : Wt) : ((putI c w).map Prod.fst).Nodup := by
  unfold putI
  cases w.2 with
  | none => exact dK_nodup nd _
  | some v => exact pK_nodup nd _ _
theorem putI_len (c : List (Str × Int)) (w : Wt) : (putI c w).length ≤ c.length + 1 := by
  unfold putI
  cases w.2 with
  | none => have := dK_len c w.1; simp only; omega
  | some v => exact pK_len c _ _
def cutR (x y : Str) (f : Rm) : Rm := fun k => if inC x y k = true then f k else none
theorem cutR_set (x y : Str) (f : Rm) (w : Wt) : cutR x y (setR f w) = if inC x y w.1 = true then setR (cutR x y f) w else cutR x y f := by
  funext k
  unfold cutR setR
  by_cases h : inC x y w.1 = true
  · rw [if_pos h]
    by_cases e : k = w.1
    · subst e; rw [if_pos h, if_pos rfl, if_pos rfl]
    · rw [if_neg e, if_neg e]
  · rw [if_neg h]
    by_cases e : k = w.1
    · subst e; rw [if_neg h, if_neg h]
    · rw [if_neg e]
theorem cutR_G (x y : Str) : ∀ (ws : List Wt) (f : Rm), cutR x y (recG f ws) = recG (cutR x y f) (ws.filter fun w => inC x y w.1)
  | [], f => rfl
  | w :: ws, f => by
    unfold recG
    rw [List.foldl_cons]
    have ih := cutR_G x y ws (setR f w)
    unfold recG at ih
    rw [ih, cutR_set]
    by_cases h : inC x y w.1 = true
    · rw [if_pos h, List.filter_cons_of_pos (p := fun w : Wt => inC x y w.1) h, List.foldl_cons]
    · rw [if_neg h, List.filter_cons_of_neg (p := fun w : Wt => inC x y w.1) h]
/-- the rows of a cover -/
structure Rows (f : Rm) (x y : Str) (L : List (Str × Int)) : Prop where
  asc : L.Pairwise fun a b => ltS a.1 b.1 = true
  mem : ∀ k v, (k, v) ∈ L ↔ f k = some v ∧ inC x y k = true
theorem sorted_ext {α : Type} {lt : α → α → Prop} (as : ∀ a b, lt a b → ¬ lt b a) : ∀ {L M : List α}, L.Pairwise lt → M.Pairwise lt → (∀ a, a ∈ L ↔ a ∈ M) → L = M
  | [], [], _, _, _ => rfl
  | [], m :: M, _, _, h => absurd ((h m).mpr List.mem_cons_self) (by simp)
  | l :: L, [], _, _, h => absurd ((h l).mp List.mem_cons_self) (by simp)
  | l :: L, m :: M, hL, hM, h => by
    have hL := List.pairwise_cons.mp hL
    have hM := List.pairwise_cons.mp hM
    have e : l = m := by
      rcases List.mem_cons.mp ((h l).mp List.mem_cons_self) with e | e
      · exact e
      · rcases List.mem_cons.mp ((h m).mpr List.mem_cons_self) with e2 | e2
        · exact e2.symm
        · exact absurd (hL.1 m e2) (as _ _ (hM.1 l e))
    subst e
    have irr : ¬ lt l l := fun z => as _ _ z z
    rw [sorted_ext as hL.2 hM.2 fun a => ⟨fun ha => ?_, fun ha => ?_⟩]
    · rcases List.mem_cons.mp ((h a).mp (List.mem_cons_of_mem _ ha)) with e | e
      · subst e; exact absurd (hL.1 a ha) irr
      · exact e
    · rcases List.mem_cons.mp ((h a).mpr (List.mem_cons_of_mem _ ha)) with e | e
      · subst e; exact absurd (hM.1 a ha) irr
      · exact e
theorem Rows.uniq {f g : Rm} {x y : Str} {L L' : List (Str × Int)} (h : Rows f x y L) (h' : Rows g x y L') (e : ∀ k, inC x y k = true → f k = g k) : L = L' :=
  sorted_ext (lt := fun a b : Str × Int => ltS a.1 b.1 = true) (fun a b q z => by rw [ltS_as _ _ q] at z; cases z) h.asc h'.asc fun ⟨k, v⟩ => by
    rw [h.mem, h'.mem]
    constructor
    · rintro ⟨a, b⟩; exact ⟨by rw [← e k b]; exact a, b⟩
    · rintro ⟨a, b⟩; exact ⟨by rw [e k b]; exact a, b⟩
noncomputable def rowsR (f : Rm) (x y : Str) : List (Str × Int) := Classical.epsilon fun L => Rows f x y L
theorem Rows.eq {f : Rm} {x y : Str} {L : List (Str × Int)} (h : Rows f x y L) : L = rowsR f x y :=
  h.uniq (Classical.epsilon_spec (p := fun L => Rows f x y L) ⟨L, h⟩) fun _ _ => rfl
theorem rowsR_congr {f g : Rm} {x y : Str} (e : ∀ k, inC x y k = true → f k = g k) : rowsR f x y = rowsR g x y := by
  have : (fun L => Rows f x y L) = fun L => Rows g x y L := by
    funext L
    apply propext
    constructor
    · intro h; exact ⟨h.asc, fun k v => by rw [h.mem]; exact ⟨fun ⟨a, b⟩ => ⟨by rw [← e k b]; exact a, b⟩, fun ⟨a, b⟩ => ⟨by rw [e k b]; exact a, b⟩⟩⟩
    · intro h; exact ⟨h.asc, fun k v => by rw [h.mem]; exact ⟨fun ⟨a, b⟩ => ⟨by rw [e k b]; exact a, b⟩, fun ⟨a, b⟩ => ⟨by rw [← e k b]; exact a, b⟩⟩⟩
  unfold rowsR; rw [this]
/-- the sorted keys give the rows -/
def pick (f : Rm) (x y : Str) (ys : List Str) : List (Str × Int) := ys.filterMap fun k => if inC x y k = true then (f k).map (fun v => (k, v)) else none
theorem pick_mem {f : Rm} {x y : Str} {ys : List Str} {k : Str} {v : Int} : (k, v) ∈ pick f x y ys ↔ k ∈ ys ∧ f k = some v ∧ inC x y k = true := by
  unfold pick
  rw [List.mem_filterMap]
  constructor
  · rintro ⟨j, hj, e⟩
    by_cases h : inC x y j = true
    · rw [if_pos h] at e
      cases q : f j with
      | none => rw [q] at e; cases e
      | some u => rw [q] at e; cases e; exact ⟨hj, q, h⟩
    · rw [if_neg h] at e; cases e
  · rintro ⟨hj, q, h⟩
    exact ⟨k, hj, by rw [if_pos h, q]; rfl⟩
theorem pick_rows {f : Rm} {x y : Str} {ys : List Str} (hs : sortedS ys = true) (nd : ys.Nodup) (hm : ∀ k v, f k = some v → k ∈ ys) : Rows f x y (pick f x y ys) := by
  have pw : ys.Pairwise fun a b => ltS a b = true := by
    have h1 := sortedS_pw hs
    have h2 : ys.Pairwise fun a b => a ≠ b := nd
    exact (h1.and h2).imp fun {a b} ⟨p, q⟩ => (ltS_tot q).elim id fun z => by
      have p : ltS b a = false := p
      rw [p] at z; cases z
  refine ⟨?_, fun k v => by rw [pick_mem]; exact ⟨fun h => h.2, fun h => ⟨hm k v h.1, h⟩⟩⟩
  unfold pick
  rw [List.pairwise_filterMap]
  refine pw.imp fun {a b} h p hp q hq => ?_
  have ka : p.1 = a := by
    by_cases z : inC x y a = true
    · rw [if_pos z] at hp
      cases e : f a with
      | none => rw [e] at hp; cases hp
      | some u => rw [e] at hp; cases hp; rfl
    · rw [if_neg z] at hp; cases hp
  have kb : q.1 = b := by
    by_cases z : inC x y b = true
    · rw [if_pos z] at hq
      cases e : f b with
      | none => rw [e] at hq; cases hq
      | some u => rw [e] at hq; cases hq; rfl
    · rw [if_neg z] at hq; cases hq
  rw [ka, kb]; exact h
theorem Rows.nodup {f : Rm} {x y : Str} {L : List (Str × Int)} (h : Rows f x y L) : (L.map Prod.fst).Nodup := by
  unfold List.Nodup
  rw [List.pairwise_map]
  exact h.asc.imp fun {a b} q z => by rw [z, ltS_irr] at q; cases q
theorem Rows.look {f : Rm} {x y : Str} {L : List (Str × Int)} (h : Rows f x y L) : rmI L = cutR x y f := by
  funext k
  unfold rmI cutR
  cases e : vK L k with
  | some v =>
    obtain ⟨a, b⟩ := (h.mem k v).mp (vK_mem e)
    rw [if_pos b, a]
  | none =>
    by_cases z : inC x y k = true
    · rw [if_pos z]
      cases q : f k with
      | none => rfl
      | some v => have := vK_of h.nodup ((h.mem k v).mpr ⟨q, z⟩); rw [e] at this; cases this
    · rw [if_neg z]
theorem same_len {α : Type} {c d : List (Str × α)} (n1 : (c.map Prod.fst).Nodup) (n2 : (d.map Prod.fst).Nodup) (h : ∀ k, vK c k = vK d k) : c.length = d.length := by
  have m : ∀ k, k ∈ c.map Prod.fst ↔ k ∈ d.map Prod.fst := fun k => by
    have a := vK_none (l := c) (k := k)
    have b := vK_none (l := d) (k := k)
    rw [h k] at a
    exact Decidable.not_iff_not.mp (a.symm.trans b)
  have a := nodup_sub n1 fun s hs => (m s).mp hs
  have b := nodup_sub n2 fun s hs => (m s).mpr hs
  rw [List.length_map, List.length_map] at a b
  omega
/-! ### answers -/
def bestL (L : List (Str × Int)) : Option (Str × Int) := L.foldl (fun b p => match b with | none => some p | some q => if p.2 < q.2 then some p else some q) none
def encB : Option (Str × Int) → D | none => .non | some p => encP p
def askL (k : Str) (L : List (Str × Int)) : D :=
  if k = "get" then (match L with | [] => .non | p :: _ => .int p.2) else if k = "count" then .int L.length else if k = "sum" then .int (L.map Prod.snd).sum else if k = "list" then .tup (L.map encP) else encB (bestL L)
noncomputable def ansR (f : Rm) (q : Qn) : D := askL q.1 (rowsR f (covQ q).1 (covQ q).2)
theorem ansR_congr {f g : Rm} {q : Qn} (e : ∀ k, inC (covQ q).1 (covQ q).2 k = true → f k = g k) : ansR f q = ansR g q := by unfold ansR; rw [rowsR_congr e]
/-- plain data of a depth -/
def Pl : Nat → D → Prop
  | 0, _ => False
  | n + 1, d => (d = .non ∨ (∃ i, d = .int i) ∨ ∃ s, d = .str s) ∨ ∃ ds : List D, (d = .tup ds ∨ d = .lst ds) ∧ ds.length ≤ 1000 ∧ ∀ x ∈ ds, Pl n x
theorem pl_non {n : Nat} : Pl (n + 1) .non := .inl (.inl rfl)
theorem pl_int {n : Nat} {i : Int} : Pl (n + 1) (.int i) := .inl (.inr (.inl ⟨i, rfl⟩))
theorem pl_str {n : Nat} {i : Str} : Pl (n + 1) (.str i) := .inl (.inr (.inr ⟨i, rfl⟩))
theorem pl_tup {n : Nat} {ds : List D} (hl : ds.length ≤ 1000) (h : ∀ x ∈ ds, Pl n x) : Pl (n + 1) (.tup ds) := .inr ⟨ds, .inl rfl, hl, h⟩
theorem pl_P {n : Nat} (p : Str × Int) : Pl (n + 2) (encP p) := pl_tup (by simp) fun x hx => by
  rcases List.mem_cons.mp hx with rfl | hx
  · exact pl_str
  · rw [List.mem_singleton.mp hx]; exact pl_int
theorem pl_ask {k : Str} {L : List (Str × Int)} (hl : L.length ≤ 1000) : Pl 3 (askL k L) := by
  unfold askL
  split
  · cases L with
    | nil => exact pl_non
    | cons p _ => exact pl_int
  · split
    · exact pl_int
    · split
      · exact pl_int
      · split
        · exact pl_tup (by rw [List.length_map]; exact hl) fun x hx => by
            obtain ⟨p, _, rfl⟩ := List.mem_map.mp hx
            exact pl_P p
        · unfold encB
          cases bestL L with
          | none => exact pl_non
          | some p => exact pl_P p
end Ab
namespace Ab
open PySem PySem.Spec PyProof.Rows L2
section
variable {f g : Str} {d x : D} {r : List (Str × D)} {k : D → Prop}
theorem fld_hd : fldD ((f, d) :: r) f k = k d := by
  unfold fldD
  have e : List.lookup f ((f, d) :: r) = some d := by rw [List.lookup_cons]; simp
  rw [e]
theorem fld_tl (h : f ≠ g) : fldD ((g, d) :: r) f k = fldD r f k := by
  unfold fldD
  have e : List.lookup f ((g, d) :: r) = List.lookup f r := by
    rw [List.lookup_cons]
    have : (f == g) = false := beq_eq_false_iff_ne.mpr h
    rw [this]
  rw [e]
theorem putD_nil : putD f d [] = [(f, d)] := rfl
theorem putD_hd : putD f d ((f, x) :: r) = (f, d) :: r := by unfold putD; rw [if_pos rfl]
theorem putD_tl (h : g ≠ f) : putD f d ((g, x) :: r) = (g, x) :: putD f d r := by
  conv => lhs; unfold putD
  rw [if_neg h]
end
end Ab
namespace Ab
open PySem PySem.Spec PyProof.Rows L2
theorem encW_ {k : Str} {v : Option Int} : encW (k, v) = .tup [.str k, encO v] := rfl
theorem encO_n : encO none = .non := rfl
theorem encO_s {i : Int} : encO (some i) = .int i := rfl
theorem encP_ {k : Str} {v : Int} : encP (k, v) = .tup [.str k, .int v] := rfl
theorem encV_ {k v : Str} : encV (k, v) = .tup [.str k, .str v] := rfl
theorem encC_ {t : Int} {g : List Wt} : encC (t, g) = .tup [.int t, encG g] := rfl
theorem encG_ {g : List Wt} : encG g = .tup (g.map encW) := rfl
theorem encV_e (c : Str × Str) : encV c = .tup [.str c.1, .str c.2] := rfl
theorem encQ_g {q : Qn} (h : q.1 = "get") : encQ q = .tup [.str q.1, .str q.2.1] := if_pos h
theorem encQ_n {q : Qn} (h : ¬ q.1 = "get") : encQ q = .tup [.str q.1, .str q.2.1, .str q.2.2] := if_neg h
theorem ite_c {p : Prop} [Decidable p] {q : Bool → Prop} (h1 : p → q true) (h2 : ¬ p → q false) : q (decide p) := by
  by_cases h : p
  · rw [decide_eq_true h]; exact h1 h
  · rw [decide_eq_false h]; exact h2 h
end Ab
namespace Ab
open PySem PySem.Spec PyProof.Rows L2
theorem mI_um {M : Mh} {p C dx : Addr} {fs : List (Str × D)} {k : Addr → Addr → List (Str × D) → Prop} : mI (um M p (.ins C dx fs)) p k = k C dx fs := mI_of um_same
theorem Sam.pu {p : Addr} {M M' : Mh} {m : MO} (s : Sam p M M') : Sam p M (um M' p m) := fun a q e n => by rw [um_ne n]; exact s a q e n
end Ab
namespace Ab
open PySem PySem.Spec PyProof.Rows L2
theorem cut_map {α β : Type} (f : α → β) (l : List α) (lo hi : Option Int) : Ab.cutD (l.map f) lo hi = (Ab.cutD l lo hi).map f := by
  unfold Ab.cutD
  rw [List.length_map, List.map_take, List.map_drop]
theorem cut_to {α : Type} (l : List α) {m : Int} (h0 : 0 ≤ m) (h1 : m ≤ l.length) : Ab.cutD l none (some m) = l.take m.toNat := by
  unfold Ab.cutD
  have e1 : HT.sIx l.length 0 none = 0 := rfl
  have e2 : HT.sIx l.length l.length (some m) = m.toNat := by
    simp only [HT.sIx]
    repeat' split
    all_goals omega
  rw [e1, e2]; simp
theorem ents_str {α : Type} (c : List (Str × α)) (f : α → D) : (kd f c).map (fun kv => kD kv.1) = (c.map Prod.fst).map D.str := kd_keys c
theorem kd_int (c : List (Str × Int)) : kd D.int c = kd encO (c.map fun p => (p.1, some p.2)) := by unfold kd; rw [List.map_map]; rfl
theorem vK_mapsome (c : List (Str × Int)) (k : Str) : vK (c.map fun p => (p.1, some p.2)) k = (vK c k).map some := by
  induction c with
  | nil => rfl
  | cons p c ih =>
    rw [List.map_cons]
    by_cases e : p.1 = k
    · rw [vK_pos (p := (p.1, some p.2)) e, vK_pos e]; rfl
    · rw [vK_neg (p := (p.1, some p.2)) e, vK_neg e]; exact ih
theorem rmO_int (c : List (Str × Int)) : rmO (c.map fun p => (p.1, some p.2)) = rmI c := by
  funext k; unfold rmO rmI; rw [vK_mapsome]; cases vK c k <;> rfl
theorem keys_mapsome (c : List (Str × Int)) : (c.map fun p => (p.1, some p.2)).map Prod.fst = c.map Prod.fst := by rw [List.map_map]; rfl
theorem take_flat {L : List Cm} {i : Nat} {c : Cm} (h : L[i]? = some c) : recA (L.take (i + 1)) = recG (recA (L.take i)) c.2 := by rw [take_at h, recA_snoc]
theorem recG_take {f : Rm} {ws : List Wt} {i : Nat} {w : Wt} (h : ws[i]? = some w) : recG f (ws.take (i + 1)) = setR (recG f (ws.take i)) w := by unfold recG; exact fold_take h
theorem pick_take {f : Rm} {x y : Str} {ys : List Str} {i : Nat} {k : Str} (h : ys[i]? = some k) : pick f x y (ys.take (i + 1)) = pick f x y (ys.take i) ++ pick f x y [k] := by
  rw [take_at h]; unfold pick; rw [List.filterMap_append]
theorem pick_in {f : Rm} {x y k : Str} {v : Int} (h : inC x y k = true) (e : f k = some v) : pick f x y [k] = [(k, v)] := by unfold pick; simp [h, e]
theorem pick_out {f : Rm} {x y k : Str} (h : ¬ inC x y k = true) : pick f x y [k] = [] := by unfold pick; simp [h]
theorem pick_no {f : Rm} {x y k : Str} (h : f k = none) : pick f x y [k] = [] := by unfold pick; simp [h]
theorem pick_len (f : Rm) (x y : Str) (ys : List Str) : (pick f x y ys).length ≤ ys.length := List.length_filterMap_le _ _
end Ab
namespace Ab
open PySem PySem.Spec PyProof.Rows L2
theorem inC_lt {x y k : Str} : inC x y k = true ↔ ¬ k.cps.toList < x.cps.toList ∧ ¬ y.cps.toList < k.cps.toList := by
  rw [inC_iff, leS_lt, leS_lt]
theorem bestL_snoc (L : List (Str × Int)) (p : Str × Int) : bestL (L ++ [p]) = (match bestL L with | none => some p | some q => if p.2 < q.2 then some p else some q) := by unfold bestL; rw [List.foldl_append]; rfl
end Ab

set_option Elab.async false
set_option linter.all false
set_option maxRecDepth 100000
set_option maxHeartbeats 2000000
namespace Ab
open PySem PySem.Spec PyProof.Rows L2
/-- {k: v}, the key a tuple -/
def tDisp1T (tk tv : TE) : TE := fun σ H Q => ∀ p, H p = none → tk σ (upd H p (.dT [])) fun x H1 => tv σ H1 fun y H2 => H2 p = some (.dT []) ∧ ∃ b k, x = .ref b ∧ H2 b = some (.tup (k.map kV)) ∧ Q (.ref p) (upd H2 p (.dT (putK [] k y)))
theorem pe_disp1T {X : Cx} {ek ev : Expr} {tk tv : TE} {pos : Pos} (hu : X.A.units + 1 < cLine) (hk : PE X ek tk) (hv : PE X ev tv) : PE X (.Dict [some ek] [ev] pos) (tDisp1T tk tv) := by
  refine ⟨fun pins s σ H Q I q => ?_⟩
  have hn := I.hok.fresh (Nat.le_refl s.heap.objs.size)
  have I1 := I.laid (a := s.heap.objs.size) (o := .dT []) (h' := s.heap.push { cls := .type "dict", data := .dict #[] }) (t' := s.toks) (fun _ _ q => Heap.get?_push_of_some _ q) (Nat.le_refl _) (dt_empty s.heap I.big)
  have hl : (pairTrees [some ek] [ev] X.env pos).length = 1 := pairTrees_length _ _ _ _ rfl rfl
  rw [arm_eval_Dict, zip_pairTrees [some ek] [ev] _ _ rfl rfl, dictDisplay_pairs _ (fun z => by rw [z] at hl; cases hl) (by rw [hl]; decide)]
  refine wpAny_bind (wpAny_standAt (wpAny_bind (wpAny_subDictH (knd := tupleKind (mixKind X.prog X.w)) (Q := fun d s' => wpAny (model X.prog X.w) X.A (pure (Value.ref d)) _ X.xe s') (show X.A.units < cLine by omega) (by rw [hl]; decide) ?_)))
  refine pairTrees_cons_walk (thn (hk.run pins _ σ _ _ I1 (q _ hn)) fun kv s1 ⟨x, H1, I2, rx, q1⟩ => thn (hv.run pins s1 σ H1 _ I2 q1) fun vv s2 ⟨y, H2, I3, ry, e, b, k, ex, eb, q2⟩ => ?_)
  subst ex
  cases (show kv = Value.ref b from rx)
  obtain ⟨z, hd, xs, rel, dd⟩ := dt_of I3.hok e
  cases rel
  refine pairTrees_nil_walk ⟨[(k, b, vv)], ⟨rfl, rfl, key_of I3.hok eb, trivial⟩, dd, fun h' tk dd' hs => wpAny_pure ⟨.ref s.heap.objs.size, _, ?_, rfl, q2⟩⟩
  obtain ⟨qo, es, ep, hq, h2, h3, h4, _, h5⟩ := dd'
  have r0 : KT H2 ([] : List (List Key × V)) [] := .nil
  have hl1 := length_putK ([] : List (List Key × V)) k y
  refine d_write I3 (by rw [e]; exact True.intro) hs ⟨qo, hq⟩ ⟨Nat.le_trans hl1 (by rw [sizeLine_eq]; decide), hd, _, (r0.put k eb ry).keeps fun c ys ec => ?_, qo, es, ep, hq, h2, h3, h4, h5⟩
  rw [upd_ne (ne_of ec e (fun z => nomatch z))]
  exact ec
section
variable {K : PySem.W.Frag} {T : Tt}
def xD1T (a v : XE K T) : XE K T where
  t := fun W => tDisp1T (a.t W) (v.t W)
  w := fun ρ M Φ Ξ => ∀ p, M p = none → a.w ρ (um M p (.dcT [])) (fun x M1 => v.w ρ M1 (fun y M2 => M2 p = some (.dcT []) ∧ asTK x fun j => Φ (.ref p) (um M2 p (.dcT [(j, y)]))) Ξ) Ξ
  ok := fun h P σ H wr rs Q hq hx => fun p hp => by
    have s0 := Step.newM wr hp (RepM.dcT (K := K) (P := P) (kvs := []) (kds := []) rfl .nil)
    refine a.ok (h p (wr.mfree hp)) s0.wr (rs.mono s0.ex) (fun vx x P1 M1 H1 h1 s1 r1 => v.ok h1 s1.wr (rs.mono (s0.trans s1).ex) (fun vy y P2 M2 H2 h2 s2 r2 => ?_) (hx.mono (s0.trans s1))) (hx.mono s0)
    obtain ⟨hm, h3⟩ := h2
    obtain ⟨ks, rfl, h4⟩ := h3.get
    obtain ⟨b, rfl, hb⟩ := tkey s2.wr (r1.mono s2.ex)
    obtain ⟨o, ho, rm⟩ := s2.wr.chg _ _ hm
    cases rm with
    | @dcT kvs _ hk hr =>
      have e : kvs = [] := by simpa using hk
      subst e
      exact ⟨ho, b, ks, rfl, hb, hq _ _ _ _ _ h4 (((s0.trans s1).trans s2).trans (Step.put s2.wr hm (.dcT (kvs := [(ks, vy)]) rfl (.cons r2 .nil)))) (.ref p)⟩
def bMin2 : XB K T where
  r := fun xs H Q => ∃ i j, xs = [.int i, .int j] ∧ Q (.int (if j < i then j else i)) H
  w := fun ds M Φ => arg2 ds fun x y => asI x fun a => asI y fun b => Φ (.int (if b < a then b else a)) M
  ok := fun h P H vs wr r Q hq => by
    obtain ⟨x, y, rfl, h1⟩ := h.get
    obtain ⟨v, u, rfl, r1, r2⟩ := RepL.two r
    obtain ⟨a, rfl, h2⟩ := asI.get h1
    obtain ⟨b, rfl, h3⟩ := asI.get h2
    exact ⟨a, b, by rw [r1.toI, r2.toI], hq _ _ _ _ _ h3 (Step.refl wr) (.int _)⟩
end
section
variable {X : Cx} {W : WX} {T : Tt} {a v : XE X.K T} {ek ev : Expr} {pos : Pos}
theorem dD1T (hu : X.A.units + 1 < cLine) (hk : PE X ek (a.t W)) (hv : PE X ev (v.t W)) : PE X (.Dict [some ek] [ev] pos) ((xD1T a v).t W) := pe_disp1T hu hk hv
end
end Ab

set_option Elab.async false
set_option linter.all false
set_option maxRecDepth 100000
set_option maxHeartbeats 2000000
namespace Ab
section
variable {κ : Type} [DecidableEq κ]
/-! ### sums -/
def sumG (g : κ → Int) (t : List κ) : Int := (t.map g).sum
theorem sumG_nil {g : κ → Int} : sumG g [] = 0 := rfl
theorem sumG_cons {g : κ → Int} {a : κ} {t : List κ} : sumG g (a :: t) = g a + sumG g t := by unfold sumG; simp
theorem sumG_erase {g : κ → Int} {a : κ} : ∀ {t : List κ}, a ∈ t → sumG g t = g a + sumG g (t.erase a)
  | b :: t, h => by
    by_cases e : b = a
    · subst e; rw [List.erase_cons_head, sumG_cons]
    · have h2 : a ∈ t := (List.mem_cons.mp h).resolve_left (Ne.symm e)
      rw [List.erase_cons_tail (by simpa using e), sumG_cons, sumG_cons, sumG_erase h2]; omega
theorem sumG_pos {g : κ → Int} (hg : ∀ a, 0 ≤ g a) : ∀ (t : List κ), 0 ≤ sumG g t
  | [] => by rw [sumG_nil]; exact Int.le_refl _
  | a :: t => by rw [sumG_cons]; have := hg a; have := sumG_pos hg t; omega
theorem sumG_sub {g : κ → Int} (hg : ∀ a, 0 ≤ g a) : ∀ {a b : List κ}, a.Nodup → (∀ s ∈ a, s ∈ b) → sumG g a ≤ sumG g b
  | [], b, _, _ => by rw [sumG_nil]; exact sumG_pos hg b
  | x :: a, b, nd, h => by
    rw [List.nodup_cons] at nd
    have hx := h x List.mem_cons_self
    have := sumG_sub hg (a := a) (b := b.erase x) nd.2 fun s hs => by
      have : s ≠ x := fun z => nd.1 (z ▸ hs)
      exact (List.mem_erase_of_ne this).mpr (h s (List.mem_cons_of_mem _ hs))
    rw [sumG_cons, sumG_erase hx]; omega
theorem sumG_congr {g h : κ → Int} : ∀ {t : List κ}, (∀ a ∈ t, g a = h a) → sumG g t = sumG h t
  | [], _ => rfl
  | a :: t, e => by rw [sumG_cons, sumG_cons, e a List.mem_cons_self, sumG_congr fun b hb => e b (List.mem_cons_of_mem _ hb)]
/-- one value changes -/
theorem sumG_one {g h : κ → Int} {k : κ} : ∀ {t : List κ}, t.Nodup → k ∈ t → (∀ a, a ≠ k → g a = h a) → sumG g t = sumG h t - h k + g k
  | b :: t, nd, hk, e => by
    rw [List.nodup_cons] at nd
    rw [sumG_cons, sumG_cons]
    by_cases q : b = k
    · subst q
      have : sumG g t = sumG h t := sumG_congr fun a ha => e a fun z => nd.1 (z ▸ ha)
      omega
    · have h2 : k ∈ t := (List.mem_cons.mp hk).resolve_left (Ne.symm q)
      have := sumG_one nd.2 h2 e
      rw [e b q]; omega
/-! ### credits -/
def cr (c : List (κ × Int)) (k : κ) : Int := (vK c k).getD 0
def sumV (c : List (κ × Int)) : Int := (c.map Prod.snd).sum
theorem sumV_cons {p : κ × Int} {c : List (κ × Int)} : sumV (p :: c) = p.2 + sumV c := by unfold sumV; simp
theorem sumV_app {c d : List (κ × Int)} : sumV (c ++ d) = sumV c + sumV d := by unfold sumV; simp
theorem sumV_mp {k : κ} {v : Int} : ∀ {c : List (κ × Int)}, (c.map Prod.fst).Nodup → (vK c k).isSome = true → sumV (c.map fun kv => if kv.1 = k then (kv.1, v) else kv) = sumV c - cr c k + v
  | [], _, h => by cases h
  | p :: c, nd, h => by
    rw [List.map_cons, List.nodup_cons] at nd
    rw [List.map_cons, sumV_cons, sumV_cons]
    unfold cr
    by_cases e : p.1 = k
    · rw [if_pos e, vK_pos e]
      have hn : vK c k = none := vK_none.mpr (e ▸ nd.1)
      have : (c.map fun kv => if kv.1 = k then (kv.1, v) else kv) = c := by
        conv => rhs; rw [← List.map_id c]
        refine List.map_congr_left fun q hq => ?_
        have n : q.1 ≠ k := fun z => vK_none.mp hn (z ▸ List.mem_map_of_mem (f := Prod.fst) hq)
        rw [if_neg n]; rfl
      rw [this]
      show v + sumV c = p.2 + sumV c - p.2 + v
      omega
    · rw [if_neg e, vK_neg e]
      rw [vK_neg e] at h
      have := sumV_mp (v := v) nd.2 h
      unfold cr at this
      omega
theorem sumV_put {c : List (κ × Int)} (nd : (c.map Prod.fst).Nodup) (k : κ) (v : Int) : sumV (pK c k v) = sumV c - cr c k + v := by
  cases e : vK c k with
  | none =>
    rw [pK_new v e, sumV_app]
    unfold cr; rw [e]
    show sumV c + (v + 0) = sumV c - 0 + v
    omega
  | some u =>
    have h : (vK c k).isSome = true := by rw [e]; rfl
    unfold pK
    rw [if_pos (by rw [vK_any]; exact h)]
    exact sumV_mp nd h
theorem sumV_drop : ∀ {c : List (κ × Int)} {k : κ}, (c.map Prod.fst).Nodup → sumV (dK c k) = sumV c - cr c k
  | [], k, _ => by unfold cr; rfl
  | p :: c, k, nd => by
    rw [List.map_cons, List.nodup_cons] at nd
    have ih := sumV_drop (k := k) nd.2
    unfold cr at ih ⊢
    unfold dK at ih ⊢
    by_cases e : p.1 = k
    · have hn : vK c k = none := vK_none.mpr (e ▸ nd.1)
      rw [List.filter_cons_of_neg (by simpa using e), vK_pos e, sumV_cons, ih, hn]
      show sumV c - 0 = p.2 + sumV c - p.2
      omega
    · rw [List.filter_cons_of_pos (by simpa using e), vK_neg e, sumV_cons, sumV_cons, ih]; omega
theorem cr_put (c : List (κ × Int)) (k j : κ) (v : Int) : cr (pK c k v) j = if j = k then v else cr c j := by
  unfold cr; rw [vK_put]; split <;> rfl
theorem cr_drop (c : List (κ × Int)) (k j : κ) : cr (dK c k) j = if j = k then 0 else cr c j := by
  unfold cr; rw [vK_drop]; split <;> rfl
variable [Inhabited κ]
theorem vK_less (c : List (κ × Int)) (k : κ) : vK (lessC c) k = (vK c k).map fun x => x - least c := by
  unfold lessC
  generalize least c = m
  induction c with
  | nil => rfl
  | cons p c ih =>
    rw [List.map_cons]
    by_cases e : p.1 = k
    · rw [vK_pos (p := (p.1, p.2 - m)) e, vK_pos e]; rfl
    · rw [vK_neg (p := (p.1, p.2 - m)) e, vK_neg e]; exact ih
theorem sumV_less (c : List (κ × Int)) : sumV (lessC c) = sumV c - c.length * least c := by
  unfold lessC
  generalize least c = m
  induction c with
  | nil => simp [sumV]
  | cons p c ih =>
    rw [List.map_cons, sumV_cons, sumV_cons, ih, List.length_cons]
    show p.2 - m + (sumV c - c.length * m) = p.2 + sumV c - ((c.length + 1 : Nat) : Int) * m
    grind
/-- the credits are from 0 to the costs -/
structure Cv (P : Nat) (cost : κ → Int) (c : List (κ × Int)) : Prop where
  nd : (c.map Prod.fst).Nodup
  len : c.length ≤ P
  val : ∀ k v, vK c k = some v → 0 ≤ v ∧ v ≤ cost k
theorem Cv.cr {P : Nat} {cost : κ → Int} {c : List (κ × Int)} (h : Cv P cost c) (hc : ∀ k, 0 ≤ cost k) (k : κ) : 0 ≤ cr c k ∧ cr c k ≤ cost k := by
  unfold Ab.cr
  cases e : vK c k with
  | none => exact ⟨Int.le_refl _, hc k⟩
  | some v => exact h.val k v e
theorem least_le {c : List (κ × Int)} {k : κ} {v : Int} (h : vK c k = some v) : least c ≤ v := by
  have hm : v ∈ c.map Prod.snd := List.mem_map_of_mem (f := Prod.snd) (vK_mem h)
  have := (best_of (le := iLe) (fun a b => Int.le_total a b) (fun a b c => Int.le_trans) (xs := c.map Prod.snd) (fun z => by rw [z] at hm; cases hm)).2 v hm
  exact this
theorem least_ge {P : Nat} {cost : κ → Int} {c : List (κ × Int)} (h : Cv P cost c) (hc : c ≠ []) : 0 ≤ least c := by
  have hm : c.map Prod.snd ≠ [] := fun z => hc (List.map_eq_nil_iff.mp z)
  have h1 := (best_of (le := iLe) (fun a b => Int.le_total a b) (fun a b c => Int.le_trans) hm).1
  obtain ⟨p, hp, e⟩ := List.mem_map.mp h1
  have := (h.val p.1 p.2 (vK_of h.nd hp)).1
  have e : p.2 = least c := e
  omega
theorem Cv.less {P : Nat} {cost : κ → Int} {c : List (κ × Int)} (h : Cv P cost c) (hc : c ≠ []) : Cv P cost (lessC c) := by
  refine ⟨by rw [lessC_keys]; exact h.nd, by rw [lessC_len]; exact h.len, fun k v e => ?_⟩
  rw [vK_less] at e
  cases q : vK c k with
  | none => rw [q] at e; cases e
  | some u =>
    rw [q] at e; cases e
    have := least_le q
    have := least_ge h hc
    have := h.val k u q
    dsimp only
    omega
theorem Cv.drop {P : Nat} {cost : κ → Int} {c : List (κ × Int)} (h : Cv P cost c) (r : κ) : Cv P cost (dK c r) := by
  refine ⟨dK_nodup h.nd r, Nat.le_trans (dK_len c r) h.len, fun k v e => ?_⟩
  rw [vK_drop] at e
  split at e
  · cases e
  · exact h.val k v e
theorem Cv.put {P : Nat} {cost : κ → Int} {c : List (κ × Int)} (h : Cv P cost c) (hc : ∀ k, 0 ≤ cost k) (k : κ) (hl : (pK c k (cost k)).length ≤ P) : Cv P cost (pK c k (cost k)) := by
  refine ⟨pK_nodup h.nd k _, hl, fun j v e => ?_⟩
  rw [vK_put] at e
  split at e
  · rename_i z; cases e; subst z; exact ⟨hc _, Int.le_refl _⟩
  · exact h.val j v e
/-! ### the potential -/
def Phi (P : Nat) (cost : κ → Int) (c : List (κ × Int)) (t : List κ) : Int := ((P : Int) - 1) * sumV c + P * sumG (fun f => cost f - cr c f) t
theorem phi_put {P : Nat} {cost : κ → Int} {c : List (κ × Int)} {t : List κ} {k : κ} (nd : (c.map Prod.fst).Nodup) (nt : t.Nodup) (hk : k ∈ t) : Phi P cost (pK c k (cost k)) t = Phi P cost c t - (cost k - cr c k) := by
  unfold Phi
  rw [sumV_put nd, sumG_one (g := fun f => cost f - cr (pK c k (cost k)) f) (h := fun f => cost f - cr c f) nt hk fun a ha => by show cost a - cr (pK c k (cost k)) a = cost a - cr c a; rw [cr_put, if_neg ha]]
  have : cr (pK c k (cost k)) k = cost k := by rw [cr_put, if_pos rfl]
  simp only [this]
  grind
theorem phi_drop {P : Nat} {cost : κ → Int} {c : List (κ × Int)} {t : List κ} {r : κ} (nd : (c.map Prod.fst).Nodup) (h0 : cr c r = 0) : Phi P cost (dK c r) t = Phi P cost c t := by
  unfold Phi
  rw [sumV_drop nd, h0]
  have : sumG (fun f => cost f - cr (dK c r) f) t = sumG (fun f => cost f - cr c f) t := sumG_congr fun a _ => by
    rw [cr_drop]
    split
    · rename_i z; subst z; rw [h0]
    · rfl
  rw [this]; grind
/-- how many of t are in c -/
def cnt (c : List (κ × Int)) (t : List κ) : Nat := (t.filter fun f => (vK c f).isSome).length
theorem sumG_less {c : List (κ × Int)} {cost : κ → Int} : ∀ {t : List κ}, sumG (fun f => cost f - cr (lessC c) f) t = sumG (fun f => cost f - cr c f) t + least c * (cnt c t : Int)
  | [] => by simp [sumG, cnt]
  | a :: t => by
    have ih := sumG_less (c := c) (cost := cost) (t := t)
    rw [sumG_cons, sumG_cons, ih]
    unfold cnt
    have e : cr (lessC c) a = if (vK c a).isSome = true then cr c a - least c else cr c a := by
      unfold cr; rw [vK_less]; cases vK c a <;> rfl
    by_cases h : (vK c a).isSome = true
    · rw [List.filter_cons_of_pos (p := fun f => (vK c f).isSome) h, List.length_cons, e, if_pos h]
      grind
    · rw [List.filter_cons_of_neg (p := fun f => (vK c f).isSome) h, e, if_neg h]
      grind
theorem cnt_lt {c : List (κ × Int)} {t : List κ} {k : κ} (hk : k ∈ t) (hn : (vK c k).isSome = false) : cnt c t < t.length := by
  unfold cnt
  exact List.length_filter_lt_length_iff_exists.mpr ⟨k, hk, by simp [hn]⟩
theorem phi_less {P : Nat} {cost : κ → Int} {c : List (κ × Int)} {t : List κ} {k : κ} (h : Cv P cost c) (hc : c ≠ []) (hl : c.length = P) (ht : t.length ≤ P) (hk : k ∈ t) (hn : (vK c k).isSome = false) : Phi P cost (lessC c) t ≤ Phi P cost c t := by
  have h1 := cnt_lt hk hn
  have h2 := least_ge h hc
  unfold Phi
  rw [sumV_less, sumG_less, hl]
  have h3 : (cnt c t : Int) ≤ (P : Int) - 1 := by omega
  have h4 : least c * (cnt c t : Int) ≤ least c * ((P : Int) - 1) := Int.mul_le_mul_of_nonneg_left h3 h2
  have h5 : (P : Int) * (least c * (cnt c t : Int)) ≤ P * (least c * ((P : Int) - 1)) := Int.mul_le_mul_of_nonneg_left h4 (by omega)
  grind
variable {le : κ → κ → Prop} (tot : ∀ a b, le a b ∨ le b a) (tr : ∀ a b c, le a b → le b c → le a c)
include tot tr in
theorem gone_zero {c : List (κ × Int)} (nd : (c.map Prod.fst).Nodup) (hc : c ≠ []) : cr (lessC c) (gone le c) = 0 := by
  have h := (best_of tot tr (zeros_ne hc)).1
  obtain ⟨p, hp, e⟩ := List.mem_map.mp h
  have hp2 := List.mem_filter.mp hp
  have hv := vK_of (by rw [lessC_keys]; exact nd) (show (p.1, p.2) ∈ lessC c from hp2.1)
  have e : p.1 = gone le c := e
  unfold cr
  rw [← e, hv]
  simpa using hp2.2
noncomputable def acS (le : κ → κ → Prop) (P : Nat) (cost : κ → Int) (st : List (κ × Int) × Int) (k : κ) : List (κ × Int) × Int := ((crStep le P cost (st.1, []) k).1, st.2 + if (vK st.1 k).isSome then 0 else cost k)
theorem crStep_fst {P : Nat} {cost : κ → Int} {c : List (κ × Int)} {r : List (Option κ)} {k : κ} : (crStep le P cost (c, r) k).1 = (crStep le P cost (c, []) k).1 := by
  unfold crStep; simp only; split <;> rfl
include tot tr in
/-- one key: what it costs, and the potential -/
theorem pot_step {P : Nat} {cost : κ → Int} (hP : 0 < P) (hcost : ∀ k, 0 ≤ cost k) {c : List (κ × Int)} (h : Cv P cost c) {t : List κ} {k : κ} (nt : t.Nodup) (ht : t.length ≤ P) (hk : k ∈ t) :
    Cv P cost (crStep le P cost (c, []) k).1 ∧ Phi P cost (crStep le P cost (c, []) k).1 t + (if (vK c k).isSome then 0 else cost k) ≤ Phi P cost c t := by
  unfold crStep
  simp only
  by_cases hf : (vK c k).isSome = false ∧ c.length = P
  · rw [if_pos hf]
    simp only
    have hc : c ≠ [] := fun z => by rw [z] at hf; have := hf.2; simp at this; omega
    have h1 := h.less hc
    have h2 := h1.drop (gone le c)
    have hg := gone_mem (le := le) tot tr hc
    have lenn : (pK (dK (lessC c) (gone le c)) k (cost k)).length ≤ P := by
      have q1 := pK_len (dK (lessC c) (gone le c)) k (cost k)
      have q2 : (dK (lessC c) (gone le c)).length < (lessC c).length := by
        unfold dK
        obtain ⟨p0, hp0, e0⟩ := List.mem_map.mp (show gone le c ∈ (lessC c).map Prod.fst by rw [lessC_keys]; exact hg)
        exact List.length_filter_lt_length_iff_exists.mpr ⟨p0, hp0, by simp [e0]⟩
      have := lessC_len c
      omega
    refine ⟨h2.put hcost k lenn, ?_⟩
    rw [phi_put h2.nd nt hk, phi_drop h1.nd (gone_zero tot tr h.nd hc), hf.1]
    have p1 := phi_less h hc hf.2 ht hk hf.1
    have e : cr (dK (lessC c) (gone le c)) k = 0 := by
      rw [cr_drop]
      split
      · rfl
      · have hv : vK c k = none := by cases e : vK c k with | none => rfl | some v => have := hf.1; rw [e] at this; cases this
        unfold cr; rw [vK_less, hv]; rfl
    rw [e]
    simp only [Bool.false_eq_true, if_false]
    omega
  · rw [if_neg hf]
    simp only
    have hcr := h.cr hcost k
    cases e : vK c k with
    | some v =>
      refine ⟨h.put hcost k (by rw [pK_len_old _ (by rw [e]; rfl)]; exact h.len), ?_⟩
      rw [phi_put h.nd nt hk]
      simp only [Option.isSome_some, if_true]
      omega
    | none =>
      have hlen : c.length ≠ P := fun z => hf ⟨by rw [e]; rfl, z⟩
      have := h.len
      refine ⟨h.put hcost k (by rw [pK_len_new _ e]; omega), ?_⟩
      rw [phi_put h.nd nt hk]
      have e0 : cr c k = 0 := by unfold cr; rw [e]; rfl
      rw [e0]
      simp only [Option.isSome_none, Bool.false_eq_true, if_false]
      omega
/-- what any way of holding keys costs -/
inductive Tr (P : Nat) (cost : κ → Int) : List κ → List κ → Int → Prop
  | nil : Tr P cost [] [] 0
  | step {w t k t' v v'} : Tr P cost w t v → t'.Nodup → t'.length ≤ P → k ∈ t' → (∀ y ∈ t', y = k ∨ y ∈ t) → v' = v + (if k ∈ t then 0 else cost k) → Tr P cost (w ++ [k]) t' v'
include tot tr in
theorem pot {P : Nat} {cost : κ → Int} (hP : 0 < P) (hcost : ∀ k, 0 ≤ cost k) {w t : List κ} {v : Int} (h : Tr P cost w t v) :
    Cv P cost (w.foldl (acS le P cost) ([], 0)).1 ∧ (w.foldl (acS le P cost) ([], 0)).2 + Phi P cost (w.foldl (acS le P cost) ([], 0)).1 t ≤ P * v := by
  induction h with
  | nil => refine ⟨⟨List.nodup_nil, Nat.zero_le _, fun k v e => by cases e⟩, ?_⟩; simp [Phi, sumV, sumG]
  | @step w t k t' v v' _ nt ht hk hs ev ih =>
    obtain ⟨i1, i2⟩ := ih
    rw [List.foldl_append]
    generalize List.foldl (acS le P cost) ([], 0) w = st at i1 i2
    obtain ⟨c, A⟩ := st
    simp only at i1 i2
    obtain ⟨s1, s2⟩ := pot_step (le := le) tot tr hP hcost i1 nt ht hk
    refine ⟨s1, ?_⟩
    show A + (if (vK c k).isSome then 0 else cost k) + Phi P cost (crStep le P cost (c, []) k).1 t' ≤ P * v'
    have hgap : ∀ f, 0 ≤ cost f - cr c f := fun f => by have := i1.cr hcost f; omega
    have hT : sumG (fun f => cost f - cr c f) t' ≤ sumG (fun f => cost f - cr c f) t + (if k ∈ t then 0 else cost k) := by
      by_cases q : k ∈ t
      · rw [if_pos q]
        have := sumG_sub hgap nt fun s hs' => (hs s hs').elim (fun e => e ▸ q) id
        omega
      · rw [if_neg q]
        have := sumG_sub (b := k :: t) hgap nt fun s hs' => List.mem_cons.mpr (hs s hs')
        rw [sumG_cons] at this
        have := i1.cr hcost k
        omega
    have hT2 : (P : Int) * sumG (fun f => cost f - cr c f) t' ≤ P * (sumG (fun f => cost f - cr c f) t + (if k ∈ t then 0 else cost k)) := Int.mul_le_mul_of_nonneg_left hT (by omega)
    have e1 : Phi P cost c t' = ((P : Int) - 1) * sumV c + P * sumG (fun f => cost f - cr c f) t' := rfl
    have e2 : Phi P cost c t = ((P : Int) - 1) * sumV c + P * sumG (fun f => cost f - cr c f) t := rfl
    rw [Int.mul_add] at hT2
    rw [ev, Int.mul_add]
    omega
include tot tr in
theorem pot_le {P : Nat} {cost : κ → Int} (hP : 0 < P) (hcost : ∀ k, 0 ≤ cost k) {w t : List κ} {v : Int} (h : Tr P cost w t v) : (w.foldl (acS le P cost) ([], 0)).2 ≤ P * v := by
  obtain ⟨i1, i2⟩ := pot (le := le) tot tr hP hcost h
  have h1 : 0 ≤ sumV (w.foldl (acS le P cost) ([], 0)).1 := by
    generalize (w.foldl (acS le P cost) ([], 0)).1 = c at i1
    have : ∀ {l : List (κ × Int)}, (∀ p ∈ l, 0 ≤ p.2) → 0 ≤ sumV l := by
      intro l
      induction l with
      | nil => intro _; exact Int.le_refl _
      | cons p l ih => intro hp; rw [sumV_cons]; have := hp p List.mem_cons_self; have := ih fun q hq => hp q (List.mem_cons_of_mem _ hq); omega
    exact this fun p hp => (i1.val p.1 p.2 (vK_of i1.nd hp)).1
  have h2 : 0 ≤ sumG (fun f => cost f - cr (w.foldl (acS le P cost) ([], 0)).1 f) t := sumG_pos (fun f => by have := i1.cr hcost f; omega) t
  have h3 : 0 ≤ ((P : Int) - 1) * sumV (w.foldl (acS le P cost) ([], 0)).1 := Int.mul_nonneg (by omega) h1
  have h4 : 0 ≤ (P : Int) * sumG (fun f => cost f - cr (w.foldl (acS le P cost) ([], 0)).1 f) t := Int.mul_nonneg (by omega) h2
  unfold Phi at i2
  omega
/-! ### the lists -/
theorem tr_run {P : Nat} {cost : κ → Int} : ∀ {ks : List κ} {rs : List (Option κ)} {w hs : List κ} {n : Nat} {t : Int} {e : List κ × Nat}, Tr P cost w hs t → hs.Nodup → hs.length ≤ P → rs.length = ks.length → runM (sstep P) (hs, n) (ks.zip rs) = some e →
    ∃ t', runM (kstep cost) (hs, t) (ks.zip rs) = some (e.1, t') ∧ Tr P cost (w ++ ks) e.1 t'
  | [], [], w, hs, n, t, e, h, _, _, _, hr => by cases hr; exact ⟨t, rfl, by rw [List.append_nil]; exact h⟩
  | k :: ks, r :: rs, w, hs, n, t, e, h, nd, hl, hlen, hr => by
    rw [List.zip_cons_cons, runM_cons] at hr
    rw [List.zip_cons_cons, runM_cons]
    have go : ∀ {hs' : List κ} {n' : Nat} {t' : Int}, sstep P (hs, n) (k, r) = some (hs', n') → kstep cost (hs, t) (k, r) = some (hs', t') → hs'.Nodup → hs'.length ≤ P → k ∈ hs' → (∀ y ∈ hs', y = k ∨ y ∈ hs) → t' = t + (if k ∈ hs then 0 else cost k) →
        ∃ t', ((kstep cost (hs, t) (k, r)).bind fun s' => runM (kstep cost) s' (ks.zip rs)) = some (e.1, t') ∧ Tr P cost (w ++ k :: ks) e.1 t' := fun {hs' n' t'} q1 q2 q3 q4 q5 q6 q7 => by
      rw [q1] at hr
      obtain ⟨t2, a, b⟩ := tr_run (ks := ks) (rs := rs) (Tr.step h q3 q4 q5 q6 q7) q3 q4 (by simpa using hlen) hr
      rw [q2]
      exact ⟨t2, a, by rw [List.append_assoc] at b; exact b⟩
    by_cases hk : k ∈ hs
    · cases r with
      | some x => rw [show sstep P (hs, n) (k, some x) = none by unfold sstep; simp [hk]] at hr; cases hr
      | none => exact go (hs' := hs) (n' := n) (t' := t) (by unfold sstep; simp [hk]) (by unfold kstep; simp [hk]) nd hl hk (fun y hy => .inr hy) (by rw [if_pos hk]; omega)
    · by_cases hP : hs.length = P
      · cases r with
        | none => rw [show sstep P (hs, n) (k, none) = none by unfold sstep; simp [hk, hP]] at hr; cases hr
        | some x =>
          by_cases hx : x ∈ hs
          · have hk2 : k ∉ hs.erase x := fun z => hk (List.mem_of_mem_erase z)
            refine go (hs' := hs.erase x ++ [k]) (n' := n + 1) (t' := t + cost k) (by unfold sstep; simp [hk, hP, hx]) (by unfold kstep; simp [hx, hk2]) (List.nodup_append.mpr ⟨nd.erase x, by simp, fun a ha b hb => by rw [List.mem_singleton.mp hb]; exact fun z => hk2 (z ▸ ha)⟩) ?_ (by simp) (fun y hy => ?_) (by rw [if_neg hk])
            · have := List.length_erase_of_mem hx
              have := List.length_pos_of_mem hx
              simp; omega
            · rcases List.mem_append.mp hy with z | z
              · exact .inr (List.mem_of_mem_erase z)
              · exact .inl (List.mem_singleton.mp z)
          · rw [show sstep P (hs, n) (k, some x) = none by unfold sstep; simp [hk, hP, hx]] at hr; cases hr
      · cases r with
        | some x => rw [show sstep P (hs, n) (k, some x) = none by unfold sstep; simp [hk, hP]] at hr; cases hr
        | none =>
          refine go (hs' := hs ++ [k]) (n' := n + 1) (t' := t + cost k) (by unfold sstep; simp [hk, hP]) (by unfold kstep; simp [hk]) (List.nodup_append.mpr ⟨nd, by simp, fun a ha b hb => by rw [List.mem_singleton.mp hb]; exact fun z => hk (z ▸ ha)⟩) (by simp; omega) (by simp) (fun y hy => ?_) (by rw [if_neg hk])
          rcases List.mem_append.mp hy with z | z
          · exact .inr z
          · exact .inl (List.mem_singleton.mp z)
include tot tr in
theorem cr_cost {P : Nat} (hP : 0 < P) {cost : κ → Int} : ∀ (ks : List κ) {c : List (κ × Int)} {rems : List (Option κ)} {hs : List κ} {n : Nat} {A : Int}, Hs hs c → (c.map Prod.fst).Nodup → c.length ≤ P →
    ∃ new e, (ks.foldl (crStep le P cost) (c, rems)).2 = rems ++ new ∧ new.length = ks.length ∧ runM (sstep P) (hs, n) (ks.zip new) = some e ∧ runM (kstep cost) (hs, A) (ks.zip new) = some (e.1, (ks.foldl (acS le P cost) (c, A)).2)
  | [], c, rems, hs, n, A, _, _, _ => ⟨[], (hs, n), by simp, rfl, rfl, rfl⟩
  | k :: ks, c, rems, hs, n, A, h, nd, hl => by
    have hlen := h.len nd
    rw [List.foldl_cons, List.foldl_cons]
    have hac : acS le P cost (c, A) k = ((crStep le P cost (c, rems) k).1, A + if (vK c k).isSome then 0 else cost k) := by unfold acS; rw [crStep_fst (r := rems)]
    by_cases hk : k ∈ hs
    · have hv := (h.2 k).mp hk
      have e1 : crStep le P cost (c, rems) k = (pK c k (cost k), rems ++ [none]) := by unfold crStep; rw [if_neg (fun z => by rw [hv] at z; cases z.1)]
      obtain ⟨new, e, q1, q2, q3, q4⟩ := cr_cost hP ks (rems := rems ++ [none]) (n := n) (A := A) (h.old hk (cost k)) (pK_nodup nd k _) (by rw [pK_len_old _ hv]; exact hl)
      rw [hac, e1, hv]
      simp only [if_true, Int.add_zero]
      refine ⟨none :: new, e, by rw [q1]; simp, by simp [q2], ?_, ?_⟩
      · rw [List.zip_cons_cons, runM_cons, show sstep P (hs, n) (k, none) = some (hs, n) by unfold sstep; simp [hk]]; exact q3
      · rw [List.zip_cons_cons, runM_cons, show kstep cost (hs, A) (k, none) = some (hs, A) by unfold kstep; simp [hk]]; exact q4
    · have hv : (vK c k).isSome = false := by
        cases e : (vK c k).isSome with
        | true => exact absurd ((h.2 k).mpr e) hk
        | false => rfl
      have hvn : vK c k = none := by cases e : vK c k with | none => rfl | some v => rw [e] at hv; cases hv
      by_cases hP2 : c.length = P
      · have hc : c ≠ [] := fun z => by rw [z] at hP2; simp at hP2; omega
        have hg := gone_mem (le := le) tot tr hc
        have hgh : gone le c ∈ hs := (h.2 _).mpr (isSome_mem hg)
        have e1 : crStep le P cost (c, rems) k = (pK (dK (lessC c) (gone le c)) k (cost k), rems ++ [some (gone le c)]) := by unfold crStep; rw [if_pos ⟨hv, hP2⟩]
        have hls : Hs hs (lessC c) := ⟨h.1, fun s => by rw [h.2 s, vK_isSome_keys (lessC_keys c)]⟩
        have nd2 : ((lessC c).map Prod.fst).Nodup := by rw [lessC_keys]; exact nd
        have hk2 : k ∉ hs.erase (gone le c) := fun z => hk (List.mem_of_mem_erase z)
        have hs2 := (hls.drop (gone le c)).new hk2 (cost k)
        have nd3 := pK_nodup (dK_nodup nd2 (gone le c)) k (cost k)
        have hlen2 := hs2.len nd3
        have hlen3 : (hs.erase (gone le c) ++ [k]).length = hs.length := by
          rw [List.length_append, List.length_erase_of_mem hgh]
          have := List.length_pos_of_mem hgh
          simp; omega
        obtain ⟨new, e, q1, q2, q3, q4⟩ := cr_cost hP ks (rems := rems ++ [some (gone le c)]) (n := n + 1) (A := A + cost k) hs2 nd3 (by omega)
        rw [hac, e1, hv]
        simp only [Bool.false_eq_true, if_false]
        refine ⟨some (gone le c) :: new, e, by rw [q1]; simp, by simp [q2], ?_, ?_⟩
        · rw [List.zip_cons_cons, runM_cons, show sstep P (hs, n) (k, some (gone le c)) = some (hs.erase (gone le c) ++ [k], n + 1) by unfold sstep; simp [hk, hgh, hlen, hP2]]; exact q3
        · rw [List.zip_cons_cons, runM_cons, show kstep cost (hs, A) (k, some (gone le c)) = some (hs.erase (gone le c) ++ [k], A + cost k) by unfold kstep; simp [hgh, hk2]]; exact q4
      · have e1 : crStep le P cost (c, rems) k = (pK c k (cost k), rems ++ [none]) := by unfold crStep; rw [if_neg (fun z => hP2 z.2)]
        obtain ⟨new, e, q1, q2, q3, q4⟩ := cr_cost hP ks (rems := rems ++ [none]) (n := n + 1) (A := A + cost k) (h.new hk (cost k)) (pK_nodup nd k _) (by rw [pK_len_new _ hvn]; omega)
        rw [hac, e1, hv]
        simp only [Bool.false_eq_true, if_false]
        refine ⟨none :: new, e, by rw [q1]; simp, by simp [q2], ?_, ?_⟩
        · rw [List.zip_cons_cons, runM_cons, show sstep P (hs, n) (k, none) = some (hs ++ [k], n + 1) by unfold sstep; simp [hk, hlen, hP2]]; exact q3
        · rw [List.zip_cons_cons, runM_cons, show kstep cost (hs, A) (k, none) = some (hs ++ [k], A + cost k) by unfold kstep; simp [hk]]; exact q4
end
end Ab

set_option Elab.async false
set_option linter.all false
set_option maxRecDepth 100000
set_option maxHeartbeats 2000000
namespace Ab
open PySem PySem.Spec PyProof.Rows L2
section
variable {κ κ' α β : Type} [DecidableEq κ] [DecidableEq κ']
theorem vK_inj {f : κ → κ'} (hf : ∀ a b, f a = f b → a = b) (g : α → β) : ∀ (l : List (κ × α)) (k : κ), vK (l.map fun p => (f p.1, g p.2)) (f k) = (vK l k).map g
  | [], k => rfl
  | p :: l, k => by
    rw [List.map_cons]
    by_cases e : p.1 = k
    · rw [vK_pos (p := (f p.1, g p.2)) (congrArg f e), vK_pos e]; rfl
    · rw [vK_neg (p := (f p.1, g p.2)) (fun z => e (hf _ _ z)), vK_neg e]; exact vK_inj hf g l k
theorem pK_inj {f : κ → κ'} (hf : ∀ a b, f a = f b → a = b) (g : α → β) (l : List (κ × α)) (k : κ) (v : α) : pK (l.map fun p => (f p.1, g p.2)) (f k) (g v) = (pK l k v).map fun p => (f p.1, g p.2) := by
  unfold pK
  rw [vK_any, vK_any, vK_inj hf, Option.isSome_map]
  by_cases h : (vK l k).isSome = true
  · rw [if_pos h, if_pos h, List.map_map, List.map_map]
    refine List.map_congr_left fun p _ => ?_
    show (if f p.1 = f k then (f p.1, g v) else (f p.1, g p.2)) = (fun p : κ × α => (f p.1, g p.2)) (if p.1 = k then (p.1, v) else p)
    by_cases e : p.1 = k
    · rw [if_pos (congrArg f e), if_pos e]
    · rw [if_neg (fun z => e (hf _ _ z)), if_neg e]
  · rw [if_neg h, if_neg h, List.map_append]; rfl
/-- all lists of at most n of ks -/
def allL : Nat → List κ → List (List κ)
  | 0, _ => [[]]
  | n + 1, ks => [] :: ks.flatMap fun x => (allL n ks).map (x :: ·)
theorem mem_allL {ks : List κ} : ∀ {n : Nat} {t : List κ}, t.length ≤ n → (∀ y ∈ t, y ∈ ks) → t ∈ allL n ks
  | 0, [], _, _ => List.mem_singleton.mpr rfl
  | n + 1, [], _, _ => List.mem_cons_self
  | n + 1, x :: t, h, hk => List.mem_cons_of_mem _ (List.mem_flatMap.mpr ⟨x, hk x List.mem_cons_self, List.mem_map.mpr ⟨t, mem_allL (by simpa using h) (fun y hy => hk y (List.mem_cons_of_mem _ hy)), rfl⟩⟩)
theorem flat_len (A : List (List κ)) : ∀ l : List κ, (l.flatMap fun x => A.map (x :: ·)).length = l.length * A.length
  | [] => by simp
  | x :: l => by rw [List.flatMap_cons, List.length_append, flat_len A l, List.length_map, List.length_cons, Nat.add_mul]; omega
theorem len_allL (n : Nat) (ks : List κ) : (allL (n + 1) ks).length = 1 + ks.length * (allL n ks).length := by
  show ([] :: _).length = _
  rw [List.length_cons, flat_len]; omega
theorem few_lists {ks : List κ} (hk : ks.length ≤ 12) {L : List (List κ)} (nd : L.Nodup) (h : ∀ t ∈ L, t.length ≤ 3 ∧ ∀ y ∈ t, y ∈ ks) : L.length ≤ 1885 := by
  have h1 := nodup_sub nd fun t ht => mem_allL (n := 3) (h t ht).1 (h t ht).2
  rw [len_allL, len_allL, len_allL] at h1
  have h0 : (allL 0 ks).length = 1 := rfl
  rw [h0] at h1
  have a1 : ks.length * 1 ≤ 12 := by omega
  have a2 : ks.length * (1 + ks.length * 1) ≤ 12 * 13 := Nat.mul_le_mul hk (by omega)
  have a3 : ks.length * (1 + ks.length * (1 + ks.length * 1)) ≤ 12 * 157 := Nat.mul_le_mul hk (by omega)
  omega
end
section
variable {P : Nat} {cost : Str → Int}
theorem tr_ok {w t : List Str} {v : Int} (h : Tr P cost w t v) : t.Nodup ∧ t.length ≤ P ∧ ∀ y ∈ t, y ∈ w := by
  induction h with
  | nil => exact ⟨List.nodup_nil, Nat.zero_le _, fun y hy => by cases hy⟩
  | step _ nt ht hk hs _ ih =>
    refine ⟨nt, ht, fun y hy => List.mem_append.mpr ?_⟩
    rcases hs y hy with e | e
    · exact .inr (List.mem_singleton.mpr e)
    · exact .inl (ih.2.2 y e)
theorem tr_hit {w t : List Str} {v : Int} {k : Str} (h : Tr P cost w t v) (hk : k ∈ t) : Tr P cost (w ++ [k]) t v :=
  have := tr_ok h
  Tr.step h this.1 this.2.1 hk (fun y hy => .inr hy) (by rw [if_pos hk]; omega)
theorem filt_len {α : Type} [DecidableEq α] {t : List α} {r : α} (nt : t.Nodup) (hr : r ∈ t) : (t.filter fun y => decide (some r ≠ some y)).length + 1 = t.length := by
  induction t with
  | nil => cases hr
  | cons a t ih =>
    rw [List.nodup_cons] at nt
    by_cases e : a = r
    · subst e
      rw [List.filter_cons_of_neg (by simp), List.length_cons]
      have : t.filter (fun y => decide (some a ≠ some y)) = t := List.filter_eq_self.mpr fun y hy => by
        have : y ≠ a := fun z => nt.1 (z ▸ hy)
        simpa using fun z => this z.symm
      rw [this]
    · have h2 : r ∈ t := (List.mem_cons.mp hr).resolve_left (Ne.symm e)
      rw [List.filter_cons_of_pos (by simpa using fun z => e z.symm), List.length_cons, List.length_cons]
      have := ih nt.2 h2
      omega
theorem tr_miss {w t : List Str} {v : Int} {k : Str} {rem : Option Str} {ys : List Str} (h : Tr P cost w t v) (hk : k ∉ t) (hr : (rem = none ∧ t.length < P) ∨ ∃ r, r ∈ t ∧ rem = some r) (pm : ys.Perm (t.filter (fun y => decide (rem ≠ some y)) ++ [k])) : Tr P cost (w ++ [k]) ys (v + cost k) := by
  obtain ⟨nt, lt, _⟩ := tr_ok h
  have hn : (t.filter (fun y => decide (rem ≠ some y)) ++ [k]).Nodup := List.nodup_append.mpr ⟨nt.filter _, by simp, fun a ha b hb => by rw [List.mem_singleton.mp hb]; exact fun z => hk (z ▸ (List.mem_filter.mp ha).1)⟩
  refine Tr.step h (pm.symm.nodup hn) ?_ (pm.mem_iff.mpr (by simp)) (fun y hy => ?_) (by rw [if_neg hk])
  · rw [pm.length_eq, List.length_append, List.length_singleton]
    rcases hr with ⟨_, z⟩ | ⟨r, hr, rfl⟩
    · have := List.length_filter_le (fun y => decide (rem ≠ some y)) t
      omega
    · have := filt_len nt hr
      omega
  · rcases List.mem_append.mp (pm.mem_iff.mp hy) with z | z
    · exact .inr (List.mem_filter.mp z).1
    · exact .inl (List.mem_singleton.mp z)
structure Dp (P : Nat) (cost : Str → Int) (w : List Str) (l : List (List Str × Int)) : Prop where
  nd : (l.map Prod.fst).Nodup
  tr : ∀ p ∈ l, Tr P cost w p.1 p.2
theorem Dp.nil {w : List Str} : Dp P cost w [] := ⟨List.nodup_nil, fun p hp => by cases hp⟩
theorem Dp.len {w : List Str} {l : List (List Str × Int)} (h : Dp P cost w l) (hP : P ≤ 3) (hw : w.length ≤ 12) : l.length ≤ 1885 := by
  have := few_lists hw h.nd fun t ht => by
    obtain ⟨p, hp, e⟩ := List.mem_map.mp ht
    have q := tr_ok (h.tr p hp)
    rw [e] at q
    exact ⟨by omega, q.2.2⟩
  rwa [List.length_map] at this
def mnV (l : List (List Str × Int)) (t : List Str) (v : Int) : Int := if (vK l t).getD v < v then (vK l t).getD v else v
theorem pK_mem {κ α : Type} [DecidableEq κ] {l : List (κ × α)} {k : κ} {v : α} {p : κ × α} (h : p ∈ pK l k v) : p = (k, v) ∨ p ∈ l := by
  unfold pK at h
  split at h
  · obtain ⟨q, hq, e⟩ := List.mem_map.mp h
    by_cases z : q.1 = k
    · rw [if_pos z] at e; subst z; exact .inl e.symm
    · rw [if_neg z] at e; exact .inr (e ▸ hq)
  · rcases List.mem_append.mp h with z | z
    · exact .inr z
    · exact .inl (List.mem_singleton.mp z)
theorem Dp.put {w : List Str} {l : List (List Str × Int)} (h : Dp P cost w l) {t : List Str} {v : Int} (ht : Tr P cost w t v) : Dp P cost w (pK l t (mnV l t v)) := by
  refine ⟨pK_nodup h.nd _ _, fun p hp => ?_⟩
  rcases pK_mem hp with e | e
  · subst e
    unfold mnV
    show Tr P cost w t _
    cases q : vK l t with
    | none => simp; exact ht
    | some u =>
      simp only [Option.getD_some]
      split
      · exact h.tr (t, u) (vK_mem q)
      · exact ht
  · exact h.tr p e
theorem pK_ne {κ α : Type} [DecidableEq κ] {l : List (κ × α)} {k : κ} {v : α} : pK l k v ≠ [] := fun z => by
  have := vK_put l k k v
  rw [z, if_pos rfl] at this; cases this
end
/-! ### dicts by lists of texts -/
def tkd (l : List (List Str × Int)) : List (List Key × D) := l.map fun p => (p.1.map Sum.inr, .int p.2)
theorem inr_inj : ∀ a b : List Str, a.map (Sum.inr (α := Int)) = b.map Sum.inr → a = b
  | [], [], _ => rfl
  | [], _ :: _, h => by cases h
  | _ :: _, [], h => by cases h
  | x :: a, y :: b, h => by
    rw [List.map_cons, List.map_cons] at h
    cases h1 : (List.cons.inj h).1
    rw [inr_inj a b (List.cons.inj h).2]
theorem tkd_get (l : List (List Str × Int)) (t : List Str) : vK (tkd l) (t.map Sum.inr) = (vK l t).map D.int := vK_inj (f := fun t : List Str => t.map (Sum.inr (α := Int))) inr_inj D.int l t
theorem tkd_put (l : List (List Str × Int)) (t : List Str) (v : Int) : pK (tkd l) (t.map Sum.inr) (.int v) = tkd (pK l t v) := pK_inj (f := fun t : List Str => t.map (Sum.inr (α := Int))) inr_inj D.int l t v
theorem tkd_len (l : List (List Str × Int)) : (tkd l).length = l.length := List.length_map _
theorem kD_inr : ∀ t : List Str, (t.map Sum.inr).map kD = t.map D.str
  | [] => rfl
  | x :: t => by rw [List.map_cons, List.map_cons, List.map_cons, kD_inr t]; rfl
theorem tkd_keys (l : List (List Str × Int)) : (tkd l).map (fun kv => D.tup (kv.1.map kD)) = l.map fun p => D.tup (p.1.map D.str) := by
  unfold tkd; rw [List.map_map]
  refine List.map_congr_left fun p _ => ?_
  show D.tup ((p.1.map Sum.inr).map kD) = _
  rw [kD_inr]
theorem keysD_str : ∀ t : List Str, keysD (t.map D.str) = some (t.map Sum.inr)
  | [] => rfl
  | x :: t => by
    rw [List.map_cons, List.map_cons]
    unfold keysD
    rw [keysD_str t]; rfl
theorem asTK_str {t : List Str} {k : List Key → Prop} : asTK (.tup (t.map D.str)) k = k (t.map Sum.inr) := asTK_of (keysD_str t)
def encO2 (p : List Str × Int) : D := .tup [.tup (p.1.map D.str), .int p.2]
end Ab
namespace Ab
open PySem PySem.Spec PyProof.Rows L2
theorem cut_take {α : Type} (l : List α) {m : Nat} : Ab.cutD l none (some (m : Int)) = l.take m := by
  unfold Ab.cutD
  have e1 : HT.sIx l.length 0 none = 0 := rfl
  have e2 : HT.sIx l.length l.length (some (m : Int)) = min m l.length := by
    simp only [HT.sIx]
    repeat' split
    all_goals omega
  rw [e1, e2]
  simp
end Ab

set_option Elab.async false
set_option linter.all false
set_option maxRecDepth 100000
set_option maxHeartbeats 4000000
namespace Ab
open PySem PySem.Spec PyProof.Rows L2 LamX
/-! ### a lambda with one parameter -/
structure Lam1 (sc scope : Scope) (x : Str) : Prop where
  kind : scope.kind = .function
  co : scope.isCoroutine = false
  gen : scope.isGenerator = false
  nocell : ∀ y ∈ scope.names, y.2 ≠ .cell
  own : ∀ y ∈ scope.names, y.2 = .local → y.1 = x
  par : scope.names.lookup x = some .local
  free : ∀ y ∈ scope.names, y.2 = .free → sc.names.lookup y.1 = some .cell ∨ sc.names.lookup y.1 = some .free
def lam1B (sc scope : Scope) (x : Str) : Bool :=
  decide (scope.kind = .function) && !scope.isCoroutine && !scope.isGenerator && decide (scope.names.lookup x = some .local) && scope.names.all fun y => !decide (y.2 = .cell) && (!decide (y.2 = .local) || decide (y.1 = x)) && (!decide (y.2 = .free) || decide (sc.names.lookup y.1 = some .cell) || decide (sc.names.lookup y.1 = some .free))
theorem lam1_by {sc scope : Scope} {x : Str} (h : lam1B sc scope x = true) : Lam1 sc scope x := by
  unfold lam1B at h
  simp only [Bool.and_eq_true, Bool.or_eq_true, Bool.not_eq_true', decide_eq_true_eq, decide_eq_false_iff_not, List.all_eq_true] at h
  obtain ⟨⟨⟨⟨h1, h2⟩, h3⟩, hp⟩, h4⟩ := h
  refine ⟨h1, h2, h3, fun y hy => (h4 y hy).1.1, fun y hy e => ?_, hp, fun y hy e => ?_⟩
  · rcases (h4 y hy).1.2 with z | z
    · exact absurd e z
    · exact z
  · rcases (h4 y hy).2 with (z | z) | z
    · exact absurd e z
    · exact .inl z
    · exact .inr z
theorem Lam1.has {X : Cx} {scope : Scope} {x : Str} (L : Lam1 X.env.scope scope x) (ok : X.Ok) : ∀ y ∈ scope.names, y.2 = .free → ∃ c, X.env.cells.lookup y.1 = some c := fun y hy e => by
  rcases L.free y hy e with k | k
  · exact ok.has _ (.inl k)
  · exact ok.has _ (.inr k)
theorem nodup_idx {α : Type} {y : α} : ∀ {l : List α} {a b : Nat}, l.Nodup → l[a]? = some y → l[b]? = some y → a = b
  | [], _, _, _, h, _ => by simp at h
  | z :: l, 0, 0, _, _, _ => rfl
  | z :: l, 0, b + 1, nd, h1, h2 => by
    simp only [List.getElem?_cons_zero, Option.some.injEq, List.getElem?_cons_succ] at h1 h2
    exact absurd (h1 ▸ List.mem_of_getElem? h2) (List.nodup_cons.mp nd).1
  | z :: l, a + 1, 0, nd, h1, h2 => by
    simp only [List.getElem?_cons_zero, Option.some.injEq, List.getElem?_cons_succ] at h1 h2
    exact absurd (h2 ▸ List.mem_of_getElem? h1) (List.nodup_cons.mp nd).1
  | z :: l, a + 1, b + 1, nd, h1, h2 => by
    simp only [List.getElem?_cons_succ] at h1 h2
    rw [nodup_idx (List.nodup_cons.mp nd).2 h1 h2]
section
variable {X : Cx} {pins : List (Addr × Obj)} {σ : L2.St} {H HZ : Hp} {s s1 : Shared}
theorem lam_start1 {A : Around} {outer : List Env} {E : XK} {scope : Scope} {x : Str} {i f c' : Addr} {h₁ : Heap} {tk : Nat} {u : Value} {v : V} (I : Inv X pins σ H s) (L : Lam1 X.env.scope scope x) (e0 : Env0 X.prog X.w X.K X.mg X.base A outer s1 HZ) (hd : A.handled = none)
    (hN : X.N[i]? = some x) (hnd : X.N.Nodup) (rv : RelV v u)
    (un : Un (frs X.stack) [] H HZ s.heap s1.heap) (hns : h₁.Ns s1.heap.objs.size fun y => [(x, u)].reverse.lookup y) (kp : ∀ b o, s1.heap.get? b = some o → h₁.get? b = some o) :
    Inv (lamCx X A outer s1 HZ E scope f c') [] (σ.set i (some v)) HZ { s1 with heap := h₁, toks := tk } := by
  have hfree := L.has I.ok
  have cm : ∀ {y c}, (cloFrom X.env.cells scope.names []).lookup y = some c → X.env.cells.lookup y = some c := fun {y c} e => by
    rcases cloFrom_mem (PySem.mem_of_lookup e) with hm | ⟨h1, h2⟩
    · cases hm
    · obtain ⟨c1, hc⟩ := hfree _ h1 rfl
      have hc : X.env.cells.lookup y = some c1 := hc
      have e2 : c = c1 := by
        rw [h2, hc] <;> rfl
      rw [e2]
      exact hc
  have look : ∀ {y}, scope.names.lookup y = some .free → ∃ c, (cloFrom X.env.cells scope.names []).lookup y = some c := fun {y} hl => by
    have hy : (y, NameKind.free) ∈ scope.names := PySem.mem_of_lookup hl
    exact mem_lookup (cloFrom_has (cells := X.env.cells) (acc := []) hy)
  have cellK : ∀ {c : Addr} {v : Option Value}, H c = none → s.heap.IsCell c v → h₁.IsCell c v := fun {c v} n ⟨o, ho, hd⟩ => by
    obtain ⟨sl, q⟩ := un.any ho n (by simp)
    exact ⟨_, kp _ _ q, hd⟩
  have noA : ∀ b : Addr, b ∉ (lamCx X A outer s1 HZ E scope f c').ex := fun b z => absurd (show b ∈ ([] : List Addr) from z) (by simp)
  refine ⟨⟨e0.mod, L.kind, rfl, rfl, Nat.le_refl _, fun y z c e1 e2 => I.ok.inj y z c (cm e1) (cm e2), fun y hy => ?_, fun y c z _ => ?_, fun _ => hd, Around.frames_deeper e0.frames, .inr ⟨rfl, rfl⟩, fun b z => absurd z (noA b), e0.bs, e0.bsz, fun b _ _ => noA b,
      fun b z => absurd z (noA b), e0.funs, e0.frf⟩,
    rfl, e0.bare, Un.kept kp, ⟨_, hns, fun j y w e1 e2 e3 => ?_⟩, fun y c e => ?_, e0.hok.fresh (Nat.le_refl _), fun y c e => ?_, fun q hq => absurd (show q ∈ ([] : List (Addr × Obj)) ++ [] from hq) (by simp), e0.hok.kept kp, by rw [List.length_set]; exact I.len⟩
  · have hy : scope.names.lookup y = some .cell ∨ scope.names.lookup y = some .free := hy
    rcases hy with hy | hy
    · exact absurd rfl (L.nocell _ (PySem.mem_of_lookup hy))
    · exact look hy
  · have z : false = true := z
    cases z
  · have e1 : X.N[j]? = some y := e1
    have e3 : Vis scope y := e3
    have hij : ∀ a b : Nat, X.N[a]? = some y → X.N[b]? = some y → a = b := fun a b ha hb => nodup_idx hnd ha hb
    rcases e3 with k | k | k
    · have hyx : y = x := L.own _ (PySem.mem_of_lookup k) rfl
      subst hyx
      have ej := hij j i e1 hN
      subst ej
      have hlt : j < σ.length := by rw [I.len]; exact (List.getElem?_eq_some_iff.mp hN).1
      rw [List.getElem?_set_self hlt] at e2
      cases e2
      exact ⟨u, rv, .inl ⟨L.par, by simp⟩⟩
    · exact absurd rfl (L.nocell _ (PySem.mem_of_lookup k))
    · have hyx : y ≠ x := fun z => by subst z; rw [L.par] at k; cases k
      have hne : i ≠ j := fun z => by subst z; rw [hN] at e1; exact hyx (Option.some.inj e1).symm
      rw [List.getElem?_set_ne hne] at e2
      obtain ⟨m, hn, hl⟩ := I.loc
      have hvis : Vis X.env.scope y := (L.free _ (PySem.mem_of_lookup k) rfl).elim (fun k => .inr (.inl k)) (fun k => .inr (.inr k))
      obtain ⟨w', r, q⟩ := hl j y w e1 e2 hvis
      obtain ⟨c2, h2⟩ := look k
      refine ⟨w', r, .inr ⟨.inr k, c2, h2, ?_⟩⟩
      have c1 := cm h2
      rcases q with ⟨k', _⟩ | ⟨_, c3, e', z⟩
      · have k' : X.env.scope.names.lookup y = some .local := k'
        rcases L.free _ (PySem.mem_of_lookup k) rfl with k2 | k2 <;> rw [show X.env.scope.names.lookup y = _ from k2] at k' <;> cases k'
      · rw [c1] at e'
        cases e'
        exact cellK (I.freeC y _ c1) z
  · obtain ⟨w', z⟩ := I.cell y c (cm e)
    exact ⟨w', cellK (I.freeC y c (cm e)) z⟩
  · obtain ⟨v, o, ho, hd⟩ := I.cell y c (cm e)
    exact un.free c o ho (I.freeC y c (cm e)) (by simp)
/-- the lambda at f is called with u -/
theorem lam_call1 {A : Around} {scope : Scope} {x : Str} {i f c' : Addr} {pm ctv u : Value} {v : V} {params : Arguments} {body : Expr} {k : Nat} {tb : TE} {Q : VK} (I : Inv X pins σ H s) (L : Lam1 X.env.scope scope x)
    (hf : s.heap.get? f = some (PySem.W.kla_obj "<lambda>" (X.env.qual ++ "<lambda>") params body scope (cloFrom X.env.cells scope.names []) pm c' ctv)) (hc : H c' = some (CodeO c' (X.env.qual ++ "<lambda>")))
    (hN : X.N[i]? = some x) (hnd : X.N.Nodup) (rv : RelV v u) (hfr : A.frames = some X.stack) (hr : Room (k + 1) A)
    (hbind : bindArgs (PySem.W.kla_fn "<lambda>" (X.env.qual ++ "<lambda>") params body scope (cloFrom X.env.cells scope.names []) pm (.ref c') ctv) ⟨[u], []⟩ = pure [(x, u)])
    (hbody : ∀ (A : Around) (outer : List Env) (s : Shared) (H : Hp), Room k (A.deeper (lamEnv X scope s.heap.objs.size f c')) → PE (lamCx X A outer s H C8.E0 scope f c') body tb) (ht : tb (σ.set i (some v)) H Q) :
    codeAny (model X.prog X.w) A (.call (.ref f) ⟨[u], []⟩) (fun r s' => match r with | .ok (.ret w) => EP X pins σ Q w s' | _ => False) s := by
  obtain ⟨⟨oc, vs, t, hoc, hdc, hvc⟩, _, _⟩ := I.hok c' _ hc
  have e0 : Env0 X.prog X.w X.K X.mg X.base A X.stack s H := ⟨hfr, I.env0.mod, I.env0.bs, I.env0.bsz, I.env0.funs, I.env0.frf, I.env0.hok, I.env0.bare⟩
  have rc : codeAny (model X.prog X.w) A (.call (.ref f) ⟨[u], []⟩) (CR (L2.CX X.prog X.w) X.stack X.prog X.w H s Q C8.E0) s := by
    refine PySem.W.kla_callFunE hr.depth hf rfl L.co L.gen rfl ⟨c', oc, vs, t, rfl, hoc, hdc, hvc⟩ ?_
    rw [hbind]
    refine wpAny_pure (wpAny_newFunctionEnv L.nocell (fun y hy => by rw [List.mem_singleton.mp hy]; exact L.par) (fun h₁ hns hsb => ⟨I.nolimit.fresh _ hsb, ?_⟩) L.kind)
    show codeAny _ _ (.expr body (lamEnv X scope s.heap.objs.size f c')) _ _
    have kp : ∀ b o, s.heap.get? b = some o → h₁.get? b = some o := fun b o e => hsb.extBut b o (Nat.ne_of_lt (Heap.lt_size e)) (Heap.get?_push_of_some _ e)
    have J : Inv (lamCx X A X.stack s H C8.E0 scope f c') [] (σ.set i (some v)) H { s with heap := h₁, toks := s.toks + ([(x, u)] : List (Str × Value)).length } :=
      lam_start1 I L e0 hr.hd hN hnd rv Un.refl hns kp
    refine PySem.W.kla_codeExpr (wpAny_mono ((hbody _ _ s H (hr.deeper _)).run [] _ _ H Q J ht) (fun v s' hq => ?_) fun e s' hq => hq)
    obtain ⟨w', H', J', rv, q⟩ := hq
    exact ⟨w', H', J'.os, J'.bare, J'.base, J'.hok, rv, q⟩
  refine codeAny_mono rc fun r s' hq => ?_
  cases r with
  | error e =>
    obtain ⟨_, _, _, _, _, _, _, _, _, _, _, _, z⟩ := hq
    exact z.elim
  | ok fl =>
    cases fl with
    | ret u => exact I.after hq
    | next => exact False.elim hq
    | brk => exact False.elim hq
    | cont => exact False.elim hq
end
end Ab

set_option Elab.async false
set_option linter.all false
set_option maxRecDepth 100000
set_option maxHeartbeats 4000000
namespace Ab
open PySem PySem.Spec PyProof.Rows L2 LamX
/-! ### objects of our own, pinned -/
structure Fp (X : Cx) (a : Addr) : Prop where
  l : a ≠ X.env.locals
  o : X.s_0.heap.objs.size ≤ a
  c : ∀ x c, X.env.cells.lookup x = some c → c ≠ a
  f : a ∉ X.fs
  n : ∀ p ∈ X.pn, p.1 ≠ a
section
variable {X : Cx} {pins rest : List (Addr × Obj)} {σ : L2.St} {H : Hp} {s : Shared}
theorem fp_new (I : Inv X pins σ H s) {a : Addr} (h : s.heap.objs.size ≤ a) : Fp X a ∧ ∀ p ∈ pins, p.1 ≠ a := by
  obtain ⟨_, h2, h3, h4, h5, h6⟩ := I.fpOk h (I.hok.fresh h)
  exact ⟨⟨h2, Nat.le_trans I.sz h, h5, h3, fun p hp => h6 p (List.mem_append_left _ hp)⟩, fun p hp => h6 p (List.mem_append_right _ hp)⟩
theorem pins_to {pins' : List (Addr × Obj)} (I : Inv X pins σ H s) (h : ∀ p ∈ pins', p ∈ pins) : Inv X pins' σ H s := I.pins_of fun p hp => I.pin p (List.mem_append_right _ (h p hp))
theorem pin_in (I : Inv X pins σ H s) {p : Addr × Obj} (h : p ∈ pins) : s.heap.get? p.1 = some p.2 := (I.pin p (List.mem_append_right _ h)).1
theorem pin_new (I : Inv X pins σ H s) {a : Addr} {o : Obj} {h' : Heap} {t : Nat} (k : ∀ b u, s.heap.get? b = some u → h'.get? b = some u) (hs : s.heap.objs.size ≤ a) (e : h'.get? a = some o) (nc : ∀ v, o.data ≠ .cell v) : Inv X ((a, o) :: pins) σ H { s with heap := h', toks := t } := by
  obtain ⟨F, _⟩ := fp_new I hs
  have J : Inv X pins σ H { s with heap := h', toks := t } := I.kept k
  refine J.pins_of fun p hp => ?_
  rcases List.mem_cons.mp hp with z | z
  · subst z; exact ⟨e, I.hok.fresh hs, F.l, F.f, nc⟩
  · exact J.pin p (List.mem_append_right _ z)
theorem pin_lost {a : Addr} {o : Obj} {h' : Heap} {t : Nat} (I : Inv X ((a, o) :: rest) σ H s) (F : Fp X a) (hr : ∀ p ∈ rest, p.1 ≠ a) (k : ∀ b u, b ≠ a → s.heap.get? b = some u → h'.get? b = some u) : Inv X rest σ H { s with heap := h', toks := t } := by
  have hn : H a = none := (I.pin (a, o) (List.mem_append_right _ List.mem_cons_self)).2.1
  exact (pins_to I fun p hp => List.mem_cons_of_mem _ hp).turned k hn F.l (.inr F.o) F.c fun p hp => (List.mem_append.mp hp).elim (F.n p) (hr p)
theorem pin_turn {a : Addr} {o o' : Obj} {h' : Heap} {t : Nat} (I : Inv X ((a, o) :: rest) σ H s) (F : Fp X a) (hr : ∀ p ∈ rest, p.1 ≠ a) (k : ∀ b u, b ≠ a → s.heap.get? b = some u → h'.get? b = some u) (e : h'.get? a = some o') (nc : ∀ v, o'.data ≠ .cell v) :
    Inv X ((a, o') :: rest) σ H { s with heap := h', toks := t } := by
  have hn : H a = none := (I.pin (a, o) (List.mem_append_right _ List.mem_cons_self)).2.1
  have J : Inv X rest σ H { s with heap := h', toks := t } := pin_lost I F hr k
  refine J.pins_of fun p hp => ?_
  rcases List.mem_cons.mp hp with z | z
  · subst z; exact ⟨e, hn, F.l, F.f, nc⟩
  · exact J.pin p (List.mem_append_right _ z)
/-! ### max(xs, key=..), min(..) -/
/-- the walk: b, the best so far and its key -/
def loopK (K : PySem.W.Frag) (c' : Addr) (q : Str) (cmp : V → V → Hp → Bool → Prop) (tb : TE) (σ : L2.St) (i : Nat) (l : Addr) (vs : List V) (df : Option V) : List V → Option (V × V) → Hp → VK → Prop
  | [], b, H, Q => SqL K H l vs ∧ match b, df with | some (x, _), _ => Q x H | none, some d => Q d H | none, none => False
  | v :: r, b, H, Q => SqL K H l vs ∧ H c' = some (CodeO c' q) ∧ tb (σ.set i (some v)) H fun k H1 => match b with
    | none => loopK K c' q cmp tb σ i l vs df r (some (v, k)) H1 Q
    | some (x, k0) => ∃ bb, cmp k k0 H1 bb ∧ loopK K c' q cmp tb σ i l vs df r (if bb then some (v, k) else some (x, k0)) H1 Q
def best2 (b : Option (V × V)) (bu : List Value) : Prop := match b with | none => bu = [] | some (x, k0) => ∃ u w, bu = [u, w] ∧ RelV x u ∧ RelV k0 w
/-- what a comparison of keys gives -/
def CmpOk (X : Cx) (op : CmpOp) (cmp : V → V → Hp → Bool → Prop) : Prop := ∀ (pins : List (Addr × Obj)) (s : Shared) (σ : L2.St) (H : Hp) (k k0 : V) (u w : Value) (bb : Bool) (Q : Value → Shared → Prop) (E : Value → Shared → Prop), Inv X pins σ H s → RelV k u → RelV k0 w → cmp k k0 H bb → Q (.bool bb) s →
  wpAny (model X.prog X.w) X.A.in1 (richCompare op u w) Q E s
theorem room_in1 {k : Nat} {A : Around} (hr : Room (k + 2) A) : Room (k + 1) A.in1 := ⟨hr.hd, by have := hr.dp; show A.depth + 3 * (k + 1) + 5 < _ ; omega, by have := hr.un; show A.units + 1 + 16 * (k + 1) + 200 < _; omega⟩
def dfKw (w : Option Value) : List (Str × Value) := w.toList.map fun d => (Str.ofString "default", d)
theorem max_loop {scope : Scope} {x : Str} {i f c' S It l : Addr} {pm ctv : Value} {params : Arguments} {body : Expr} {k : Nat} {tb : TE} {cmp : V → V → Hp → Bool → Prop} {vs : List V} {df : Option V} {dw : Option Value} {Q : VK} (hc : X.calm = true) (hr : Room (k + 2) X.A) (L : Lam1 X.env.scope scope x)
    (hN : X.N[i]? = some x) (hnd : X.N.Nodup)
    (hbind : ∀ u, bindArgs (PySem.W.kla_fn "<lambda>" (X.env.qual ++ "<lambda>") params body scope (cloFrom X.env.cells scope.names []) pm (.ref c') ctv) ⟨[u], []⟩ = pure [(x, u)])
    (hbody : ∀ (A : Around) (outer : List Env) (s : Shared) (H : Hp), Room k (A.deeper (lamEnv X scope s.heap.objs.size f c')) → PE (lamCx X A outer s H C8.E0 scope f c') body tb) (hcmp : CmpOk X .Gt cmp)
    (hS : Fp X S) (hI : Fp X It) (nSI : S ≠ It) (nSf : f ≠ S) (nIf : f ≠ It) (hd : match df, dw with | none, none => True | some d, some w => RelV d w | _, _ => False) :
    ∀ (r : List V) (j : Nat) (b : Option (V × V)) (bu : List Value) (n : Nat) (oI : Obj) (H : Hp) (s : Shared), (∀ p ∈ pins, p.1 ≠ S) → (∀ p ∈ pins, p.1 ≠ It) →
      Inv X ((S, seqObj "list" bu.toArray n) :: (It, oI) :: (f, PySem.W.kla_obj "<lambda>" (X.env.qual ++ "<lambda>") params body scope (cloFrom X.env.cells scope.names []) pm c' ctv) :: pins) σ H s → oI.cls = .type "list_iterator" → oI.data = .fields #[.ref l, .int j 0] →
      vs.drop j = r → best2 b bu → loopK X.K c' (X.env.qual ++ "<lambda>") cmp tb σ i l vs df r b H Q →
      codeAny (model X.prog X.w) X.A (.builtin "max.loop" ⟨[.ref It, .ref f, .ref S], dfKw dw⟩) (fun r s' => match r with | .ok (.ret w) => EP X pins σ Q w s' | _ => False) s := by
  have hname : (toString "max" ++ toString ".loop" : String) = "max.loop" := by decide
  have hS1 : ∀ {o o2 : Obj} {ps : List (Addr × Obj)}, (∀ p ∈ ps, p.1 ≠ S) → ∀ p ∈ (It, o) :: (f, o2) :: ps, p.1 ≠ S := fun {o o2 ps} h p hp => by
    rcases List.mem_cons.mp hp with z | hp
    · subst z; exact nSI.symm
    · rcases List.mem_cons.mp hp with z | hp
      · subst z; exact nSf
      · exact h p hp
  have hI1 : ∀ {o o2 : Obj} {ps : List (Addr × Obj)}, (∀ p ∈ ps, p.1 ≠ It) → ∀ p ∈ (S, o) :: (f, o2) :: ps, p.1 ≠ It := fun {o o2 ps} h p hp => by
    rcases List.mem_cons.mp hp with z | hp
    · subst z; exact nSI
    · rcases List.mem_cons.mp hp with z | hp
      · subst z; exact nIf
      · exact h p hp
  have sw : ∀ {a b : Addr × Obj} {r : List (Addr × Obj)}, ∀ p ∈ a :: b :: r, p ∈ b :: a :: r := fun {a b r} p hp => by
    simp only [List.mem_cons] at hp ⊢
    rcases hp with z | z | z
    · exact .inr (.inl z)
    · exact .inl z
    · exact .inr (.inr z)
  intro r
  induction r with
  | nil =>
    intro j b bu n oI H s pS pI I oc od hv hb h
    obtain ⟨hq, h⟩ := h
    obtain ⟨its, rl, pl, _⟩ := I.list hq
    have gS := pin_in I List.mem_cons_self
    have gI := pin_in I (List.mem_cons_of_mem _ List.mem_cons_self)
    have hj : vs.length ≤ j := List.drop_eq_nil_iff.mp hv
    refine codeAny_builtin PySem.F.entry_max_loop ?_
    rw [Around.under_plainId PySem.F.plain_max_loop _]
    show wpAny _ X.A.in1 (seqItems? (.ref S) >>= _) _ _ _
    refine wpAny_bind (wpAny_seqItems gS rfl ?_)
    show wpAny _ X.A.in1 (tryCatch (pyNext (.ref It)) _ >>= _) _ _ _
    refine wpAny_bind (wpAny_tryCatch (wpAny_pyNext_list_end (I.ok.hd hc) ⟨oI, gI, oc, od⟩ pl.isList (by rw [List.getElem?_toArray, List.getElem?_eq_none]; rw [← rl.length]; exact hj) fun h' he' => ?_))
    have I1 : Inv X ((S, seqObj "list" bu.toArray n) :: (f, PySem.W.kla_obj "<lambda>" (X.env.qual ++ "<lambda>") params body scope (cloFrom X.env.cells scope.names []) pm c' ctv) :: pins) σ H { s with heap := h' } :=
      pin_lost (t := s.toks) (pins_to I sw) hI (hI1 pI) fun b u nb e => he' b u nb e
    cases b with
    | none =>
      have hb : bu = [] := hb
      subst hb
      cases df with
      | none => exact h.elim
      | some d =>
        cases dw with
        | none => exact hd.elim
        | some w =>
          show wpAny _ X.A.in1 (rule _ >>= _) _ _ _
          refine wpAny_bind (wpAny_rule (wpAny_pure ?_))
          exact ⟨d, H, pins_to I1 fun p hp => List.mem_cons_of_mem _ (List.mem_cons_of_mem _ hp), hd, h⟩
    | some xk =>
      obtain ⟨xb, k0⟩ := xk
      obtain ⟨u, w, rfl, r1, r2⟩ := hb
      have gS' := pin_in I1 List.mem_cons_self
      show wpAny _ X.A.in1 (updateSeq S (fun _ => #[]) >>= _) _ _ _
      refine wpAny_bind ?_
      refine wpAny_updateSeq gS' rfl (wpAny_bind (wpAny_letGo (wpAny_pure ?_)))
      have s1 := Heap.SameBut.update h' S (Obj.mapSeq fun _ => (#[] : Array Value))
      refine ⟨xb, H, pins_to (pin_lost (t := s.toks) I1 hS (fun p hp => ?_) fun b u nb e => (s1.2 b nb).trans e) fun p hp => List.mem_cons_of_mem _ hp, r1, h⟩
      rcases List.mem_cons.mp hp with z | hp
      · subst z; exact nSf
      · exact pS p hp
  | cons v r ih =>
    intro j b bu n oI H s pS pI I oc od hv hb h
    obtain ⟨hq, hco, h⟩ := h
    obtain ⟨its, rl, pl, _⟩ := I.list hq
    have gS := pin_in I List.mem_cons_self
    have gI := pin_in I (List.mem_cons_of_mem _ List.mem_cons_self)
    have hvj : vs[j]? = some v := by
      have := congrArg (fun l => l[0]?) hv
      simpa [List.getElem?_drop] using this
    have hv1 : vs.drop (j + 1) = r := by rw [← List.drop_drop, hv]; rfl
    obtain ⟨uv, huv, ruv⟩ := rl.get hvj
    refine codeAny_builtin PySem.F.entry_max_loop ?_
    rw [Around.under_plainId PySem.F.plain_max_loop _]
    show wpAny _ X.A.in1 (seqItems? (.ref S) >>= _) _ _ _
    refine wpAny_bind (wpAny_seqItems gS rfl ?_)
    show wpAny _ X.A.in1 (tryCatch (pyNext (.ref It)) _ >>= _) _ _ _
    refine wpAny_bind (wpAny_tryCatch (wpAny_pyNext_list_item ⟨oI, gI, oc, od⟩ pl.isList (x := uv) (by rw [List.getElem?_toArray]; exact huv) fun h' hit' sb => ?_))
    obtain ⟨oI', gI', oc', od'⟩ := hit'
    have I1 : Inv X ((S, seqObj "list" bu.toArray n) :: (It, oI') :: (f, PySem.W.kla_obj "<lambda>" (X.env.qual ++ "<lambda>") params body scope (cloFrom X.env.cells scope.names []) pm c' ctv) :: pins) σ H { s with heap := h' } :=
      pins_to (pin_turn (t := s.toks) (pins_to I sw) hI (hI1 pI) (fun b u nb e => (sb.2 b nb).trans e) gI' (fun z q => by rw [od'] at q; cases q)) sw
    show wpAny _ X.A.in1 (tryCatch (holding [uv] (call (.ref f) [uv])) _ >>= _) _ _ _
    refine wpAny_bind (wpAny_tryCatch (wpAny_holding (wpAny_call (codeAny_mono (lam_call1 I1 L (pin_in I1 (List.mem_cons_of_mem _ (List.mem_cons_of_mem _ List.mem_cons_self))) hco hN hnd ruv (show X.A.in1.frames = some X.stack from I.ok.frames) (room_in1 hr) (hbind uv) hbody h) fun r s2 hq2 => ?_))))
    cases r with
    | error e => exact hq2.elim
    | ok fl =>
    cases fl with
    | next => exact hq2.elim
    | brk => exact hq2.elim
    | cont => exact hq2.elim
    | ret w =>
    obtain ⟨kv, H2, I2, rk, h2⟩ := hq2
    have gS2 := pin_in I2 List.mem_cons_self
    have upd2 : ∀ {H3 : Hp} {s3 : Shared}, Inv X ((S, seqObj "list" bu.toArray n) :: (It, oI') :: (f, PySem.W.kla_obj "<lambda>" (X.env.qual ++ "<lambda>") params body scope (cloFrom X.env.cells scope.names []) pm c' ctv) :: pins) σ H3 s3 → loopK X.K c' (X.env.qual ++ "<lambda>") cmp tb σ i l vs df r (some (v, kv)) H3 Q →
        codeAny (model X.prog X.w) X.A (.builtin "max.loop" ⟨[.ref It, .ref f, .ref S], dfKw dw⟩) (fun r s' => match r with | .ok (.ret w) => EP X pins σ Q w s' | _ => False) { s3 with heap := s3.heap.update S (Obj.mapSeq fun _ => #[uv, w]) } := fun {H3 s3} I3 h3 => by
      have gS3 := pin_in I3 List.mem_cons_self
      have s1 := Heap.SameBut.update s3.heap S (Obj.mapSeq fun _ => #[uv, w])
      obtain ⟨c2, hc2⟩ : ∃ c2, (s3.heap.update S (Obj.mapSeq fun _ => #[uv, w])).get? S = some (seqObj "list" #[uv, w] c2) := ⟨_, get?_update_seq gS3 fun _ => #[uv, w]⟩
      have I4 := pin_turn (t := s3.toks) I3 hS (hS1 pS) (fun b u nb e => (s1.2 b nb).trans e) hc2 (fun z q => by cases q)
      exact ih (j + 1) (some (v, kv)) [uv, w] c2 oI' _ _ pS pI I4 oc' od' hv1 ⟨uv, w, rfl, ruv, rk⟩ h3
    cases b with
    | none =>
      have hb : bu = [] := hb
      subst hb
      show wpAny _ X.A.in1 (updateSeq S (fun _ => #[uv, w]) >>= _) _ _ _
      refine wpAny_bind ?_
      refine wpAny_updateSeq gS2 rfl ?_
      rw [hname]
      exact wpAny_pure ⟨plainId_quiet PySem.F.plain_max_loop _, upd2 I2 h2⟩
    | some xk =>
      obtain ⟨xb, k0⟩ := xk
      obtain ⟨u0, w0, rfl, r1, r2⟩ := hb
      obtain ⟨bb, hcm, h3⟩ := h2
      show wpAny _ X.A.in1 (tryCatch (holding [uv, w] (richCompare .Gt w w0 >>= _)) _ >>= _) _ _ _
      refine wpAny_bind (wpAny_tryCatch (wpAny_holding (wpAny_bind (hcmp _ _ _ _ _ _ _ _ _ _ _ I2 rk r2 hcm ?_))))
      refine wpAny_bind (wpAny_holding (wpAny_truthy_bool ?_))
      refine wpAny_bind (wpAny_letGo (wpAny_pure ?_))
      cases bb with
      | true =>
        simp only [if_true]
        refine wpAny_bind ?_
        refine wpAny_updateSeq gS2 rfl (wpAny_bind (wpAny_letGo ?_))
        rw [hname]
        exact wpAny_pure ⟨plainId_quiet PySem.F.plain_max_loop _, upd2 I2 h3⟩
      | false =>
        simp only [Bool.false_eq_true, if_false]
        refine wpAny_bind (wpAny_letGo ?_)
        rw [hname]
        exact wpAny_pure ⟨plainId_quiet PySem.F.plain_max_loop _, ih (j + 1) (some (xb, k0)) [u0, w0] n oI' _ _ pS pI I2 oc' od' hv1 ⟨u0, w0, rfl, r1, r2⟩ h3⟩
end
end Ab

set_option Elab.async false
set_option linter.all false
set_option maxRecDepth 100000
set_option maxHeartbeats 4000000
namespace Ab
open PySem PySem.Spec PyProof.Rows L2 LamX
/-- how the heap of the tables looks behind the making of a lambda -/
def Made1 (H H1 : Hp) (Pt c' : Addr) (q : Str) : Prop := H1 = H ∨ ∃ (ps : Array Value) (pos : Pos), H Pt = some (.tbl ps) ∧ H c' = none ∧ H1 = upd (upd H Pt (.tbl (ps ++ #[rawInt pos.line, rawInt pos.col, .ref c']))) c' (CodeO c' q)
section
variable {X : Cx} {pins : List (Addr × Obj)} {σ : L2.St} {H : Hp} {s : Shared}
theorem lam_made {c Pt : Addr} {params : Arguments} {body : Expr} {scope : Scope} {pos : Pos} {E Q : Value → Shared → Prop} (I : Inv X pins σ H s) (TB : TabB X.base X.mg c Pt) (hcode : X.env.code = .ref c) (tS : TabS H Pt (X.env.qual ++ "<lambda>")) (hdef : defaultsOf params X.env = ([], []))
    (hfree : ∀ y ∈ scope.names, y.2 = .free → ∃ c, X.env.cells.lookup y.1 = some c)
    (h : ∀ (f c' : Addr) (pm ctv : Value) (H1 : Hp) (s' : Shared), Inv X pins σ H1 s' → Made1 H H1 Pt c' (X.env.qual ++ "<lambda>") → TabS H1 Pt (X.env.qual ++ "<lambda>") →
      s'.heap.get? f = some (PySem.W.kla_obj "<lambda>" (X.env.qual ++ "<lambda>") params body scope (cloFrom X.env.cells scope.names []) pm c' ctv) → H1 f = none → f ∉ frs X.stack → H1 c' = some (CodeO c' (X.env.qual ++ "<lambda>")) → Q (.ref f) s') :
    wpAny (model X.prog X.w) X.A (eval (.Lambda params body scope pos) X.env) Q E s := by
  obtain ⟨ps, hP, ht, ha⟩ := tS
  have young : ∀ f, s.heap.objs.size ≤ f → f ∉ frs X.stack := fun f hf z => (List.mem_cons.mp (I.stkSub _ z)).elim (fun e => absurd (Nat.lt_of_lt_of_le I.lt (e ▸ hf)) (Nat.lt_irrefl _)) (I.nofs hf)
  have oP : s.heap.get? Pt = some { cls := .none, data := .fields ps } := I.hok Pt _ hP
  refine PySem.W.kla_eval hdef ?_
  cases hc : codeAmong pos ps.toList with
  | some cv =>
    obtain ⟨c', rfl, hco⟩ := ha pos cv hc
    refine PySem.W.kla_makeFunctionHit (mg := X.mg) (c := c) (P := Pt) (ps := ps) (closure_ok hfree) I.ok.glob (I.mod.glob.keeps I.bk) hcode (TB.code.keeps I.bk) oP ht hc (TB.bm.keeps I.bk) fun ctv h' tk up big => ?_
    have J : Inv X pins σ H { s with heap := h'.push (PySem.W.kla_obj "<lambda>" (X.env.qual ++ "<lambda>") params body scope (cloFrom X.env.cells scope.names []) ((X.mg "__name__").getD .none) c' ctv), toks := tk } := I.kept fun b o e => Heap.get?_push_of_some _ (up b o e)
    exact h h'.objs.size c' _ ctv H _ J (.inl rfl) ⟨ps, hP, ht, ha⟩ (Heap.get?_push_size _ rfl) (I.hok.fresh big) (young _ big) hco
  | none =>
    refine PySem.W.kla_makeFunction (mg := X.mg) (c := c) (P := Pt) (ps := ps) (closure_ok hfree) I.ok.glob (I.mod.glob.keeps I.bk) hcode (TB.code.keeps I.bk) oP ht hc TB.gP (TB.bm.keeps I.bk) fun c' ctv h' tk up lo hi rec_ tab_ => ?_
    obtain ⟨_, oc, vs, t, ec, oc1, oc2, oc3⟩ := rec_
    cases ec
    have nC : H c' = none := I.hok.fresh lo
    have nPc : Pt ≠ c' := ne_of_none hP nC
    have J := inv_table (q := X.env.qual ++ "<lambda>") (t' := tk) (more := #[rawInt pos.line, rawInt pos.col, .ref c']) (h' := h'.push (PySem.W.kla_obj "<lambda>" (X.env.qual ++ "<lambda>") params body scope (cloFrom X.env.cells scope.names []) ((X.mg "__name__").getD .none) c' ctv)) I hP
      (fun b o nb e => Heap.get?_push_of_some _ (up b o nb e)) (Heap.get?_push_of_some _ tab_) lo ⟨oc, vs, t, Heap.get?_push_of_some _ oc1, oc2, oc3⟩
    have old : ∀ b o, H b = some o → (∀ ps, o ≠ .tbl ps) → upd (upd H Pt (.tbl (ps ++ #[rawInt pos.line, rawInt pos.col, .ref c']))) c' (CodeO c' (X.env.qual ++ "<lambda>")) b = some o := fun b o e n => by
      rw [upd_ne (ne_of_none e nC), upd_ne (fun z : b = Pt => n ps (Option.some.inj (e.symm.trans (by rw [z]; exact hP))))]; exact e
    have big : s.heap.objs.size ≤ h'.objs.size := Nat.le_trans lo (Nat.le_of_lt hi)
    refine h h'.objs.size c' _ ctv _ _ J (.inr ⟨ps, _, hP, nC, rfl⟩) ⟨_, by rw [upd_ne nPc, upd_same], ?_, fun p' cv e => ?_⟩ (Heap.get?_push_size _ rfl) ?_ (young _ big) upd_same
    · rw [Array.toList_append]; exact PySem.TriplesOk_snoc _ _ _ _ ht
    · rw [Array.toList_append] at e
      rcases among_app _ ht e with z | z
      · obtain ⟨c0, e1, e2⟩ := ha p' cv z
        exact ⟨c0, e1, old _ _ e2 codeO_ne⟩
      · exact ⟨c', z, upd_same⟩
    · rw [upd_ne (Nat.ne_of_gt hi), upd_ne (Nat.ne_of_gt (Nat.lt_of_lt_of_le (Heap.lt_size oP) big))]
      exact I.hok.fresh big
end
/-- the lambda's code is known: from a table that is one of q alone -/
def tKeyed (Pt : Addr) (q : Str) (K : PySem.W.Frag) (cmp : V → V → Hp → Bool → Prop) (te tb : TE) (i : Nat) (df : Option V) : TE := fun σ H Q => te σ H fun x H1 => ∃ l vs, x = .ref l ∧ SqL K H1 l vs ∧ TabS H1 Pt q ∧
  ∀ H2 c', Made1 H1 H2 Pt c' q → TabS H2 Pt q → H2 c' = some (CodeO c' q) → loopK K c' q cmp tb σ i l vs df vs none H2 Q
section
variable {X : Cx} {pins : List (Addr × Obj)} {σ : L2.St} {H : Hp} {s : Shared}
theorem fs_sub (ok : X.Ok) {b : Addr} (h : b ∉ frs X.stack) : b ∉ X.fs := fun z => by
  rcases ok.stk with e | ⟨e, _⟩
  · rw [e] at h; exact h z
  · rw [e] at h
    refine h ?_
    have z : b ∈ frs X.outer := z
    unfold frs at z ⊢
    rw [List.filterMap_cons]
    split
    · exact z
    · exact List.mem_cons_of_mem _ z
theorem pin_fun {f : Addr} {o : Obj} {fd : FuncData} (I : Inv X pins σ H s) (e : s.heap.get? f = some o) (d : o.data = .func fd) (hn : H f = none) (hf : f ∉ frs X.stack) : Inv X ((f, o) :: pins) σ H s := by
  refine I.pins_of fun p hp => ?_
  rcases List.mem_cons.mp hp with z | z
  · subst z
    refine ⟨e, hn, fun z => ?_, fs_sub I.ok hf, fun v q => by rw [d] at q; cases q⟩
    obtain ⟨m, ⟨o', es, ep, ho, hd, _⟩, _⟩ := I.loc
    have z : f = X.env.locals := z
    rw [z, ho] at e
    cases e
    rw [d] at hd; cases hd
  · exact I.pin p (List.mem_append_right _ z)
theorem pe_maxK {x : Str} {i k : Nat} {c Pt : Addr} {params : Arguments} {body e : Expr} {scope : Scope} {te tb : TE} {cmp : V → V → Hp → Bool → Prop} {p lpos kpos pos : Pos} (hc : X.calm = true) (hr : Room (k + 2) X.A) (hg : Gl X "max") (hm : X.mg "max" = none)
    (TB : TabB X.base X.mg c Pt) (hcode : X.env.code = .ref c) (L : Lam1 X.env.scope scope x) (hN : X.N[i]? = some x) (hnd : X.N.Nodup) (hdef : defaultsOf params X.env = ([], []))
    (hbind : ∀ (q : Str) (cl : List (Str × Addr)) (pm cv ctv u : Value), bindArgs (PySem.W.kla_fn "<lambda>" q params body scope cl pm cv ctv) ⟨[u], []⟩ = pure [(x, u)]) (hcmp : CmpOk X .Gt cmp) (he : PE X e te)
    (hbody : ∀ (A : Around) (outer : List Env) (s : Shared) (H : Hp) (f c' : Addr), Room k (A.deeper (lamEnv X scope s.heap.objs.size f c')) → PE (lamCx X A outer s H C8.E0 scope f c') body tb)
    (hee : backTo pos (starEach [e] X.env) = (false, eval e X.env) :: backTo pos (starEach [] X.env) := by rfl) (hplain : (backTo pos (starEach [e] X.env)).any (·.1) = false := by rfl)
    (hall : (backToKw pos (keywordEach [⟨some "key", .Lambda params body scope lpos, kpos⟩] X.env)).all (·.1.isSome) = true := by rfl) (hkw : (backToKw pos (keywordEach [⟨some "key", .Lambda params body scope lpos, kpos⟩] X.env)).any (·.1.isNone) = false := by rfl)
    (hks : (backToKw pos (keywordEach [⟨some "key", .Lambda params body scope lpos, kpos⟩] X.env)).filterMap (·.1) = [Str.ofString "key"] := by rfl)
    (hkv : (backToKw pos (keywordEach [⟨some "key", .Lambda params body scope lpos, kpos⟩] X.env)).map (·.2) = [do let v ← eval (.Lambda params body scope lpos) X.env; standAt pos; pure v] := by rfl) :
    PE X (.Call (.Name "max" p) [e] [⟨some "key", .Lambda params body scope lpos, kpos⟩] pos) (tKeyed Pt (X.env.qual ++ "<lambda>") X.K cmp te tb i none) := by
  have hname : (toString "max" ++ toString ".loop" : String) = "max.loop" := by decide
  refine ⟨fun pins s σ H Q I h => ?_⟩
  refine wpAny_Call_Name_kw (ld_blt I hg hm (show bootBuiltins "max" = some (.builtin "max") by decide +kernel) ?_)
  refine PyProof.Rows.callWith_kw ?_ hee hplain hall hkw
  rw [hee]
  refine Calls.spliced_cons (thn (he.run pins s σ H _ I h) fun u s1 ⟨v, H1, I1, r1, l, vs, ev, hq, tS, h1⟩ => Calls.spliced_nil ?_)
  subst ev
  obtain rfl : u = Value.ref l := r1
  rw [hkv, hks]
  refine wpAny_evalAll_cons (wpAny_bind (lam_made I1 TB hcode tS hdef (L.has I1.ok) fun f c' pm ctv H2 s2 I2 eN T2 hf hfn hfr hco => wpAny_bind (wpAny_standAt (wpAny_pure ?_))))
  refine wpAny_evalAll_nil ?_
  show wpAny _ X.A (call (.builtin "max") [.ref l] [(Str.ofString "key", .ref f)]) _ _ _
  have h2 := h1 H2 c' eN T2 hco
  have I3 := pin_fun I2 hf rfl hfn hfr
  have hls : ∃ its, s2.heap.IsList l its := by
    cases vs with
    | nil => exact (by obtain ⟨hq, _⟩ := h2; obtain ⟨its, _, pl, _⟩ := I2.list hq; exact ⟨_, pl.isList⟩)
    | cons v r => exact (by obtain ⟨hq, _⟩ := h2; obtain ⟨its, _, pl, _⟩ := I2.list hq; exact ⟨_, pl.isList⟩)
  obtain ⟨its, hls⟩ := hls
  refine kmk_tree PySem.F.kind_max PySem.F.plain_max PySem.F.entry_max (kmk_max_key _ _) ?_
  show wpAny _ X.A.in1 (Builtin.Builtins.bindParams "max" ["key", "default"] 0 ⟨[], [(Str.ofString "key", .ref f)]⟩ >>= _) _ _ _
  refine wpAny_bind (wpAny_of_eq (show Builtin.Builtins.bindParams "max" ["key", "default"] 0 ⟨[], [(Str.ofString "key", .ref f)]⟩ = pure [some (.ref f), none] from rfl) ?_)
  refine wpAny_bind (wpAny_pure ?_)
  refine wpAny_bind (wpAny_pyIter_list hls ?_)
  refine wpAny_bind (wpAny_newList ?_ (Nat.zero_le _))
  rw [hname]
  have szI : s2.heap.objs.size ≤ (s2.heap.push { cls := .type "list_iterator", data := .fields #[.ref l, .int 0 0] }).objs.size := by rw [Heap.size_push]; exact Nat.le_succ _
  have I4 := pin_new (t := s2.toks) I3 (h' := s2.heap.push { cls := .type "list_iterator", data := .fields #[.ref l, .int 0 0] }) (a := s2.heap.objs.size) (fun b u e => Heap.get?_push_of_some _ e) (Nat.le_refl _) (Heap.get?_push_size _ rfl) (fun v q => by cases q)
  obtain ⟨fI, nI⟩ := fp_new I3 (Nat.le_refl _)
  obtain ⟨fS, nS⟩ := fp_new I4 (Nat.le_refl _)
  have I5 := pin_new (t := s2.toks) I4 (h' := (s2.heap.push { cls := .type "list_iterator", data := .fields #[.ref l, .int 0 0] }).push (seqObj "list" #[] 0)) (a := (s2.heap.push { cls := .type "list_iterator", data := .fields #[.ref l, .int 0 0] }).objs.size) (fun b u e => Heap.get?_push_of_some _ e) (Nat.le_refl _) (Heap.get?_push_size _ rfl) (fun v q => by cases q)
  refine wpAny_pure ⟨plainId_quiet PySem.F.plain_max_loop _, ?_⟩
  refine codeAny_mono (max_loop (df := none) (dw := none) hc hr L hN hnd (fun u => hbind _ _ _ _ _ u) (fun A outer s H hr2 => hbody A outer s H f c' hr2) hcmp fS fI (fun z => nS _ List.mem_cons_self z.symm) (nS _ (List.mem_cons_of_mem _ List.mem_cons_self)) (nI _ List.mem_cons_self) trivial
    vs 0 none [] 0 _ H2 _ (fun p hp => nS p (List.mem_cons_of_mem _ (List.mem_cons_of_mem _ hp))) (fun p hp => nI p (List.mem_cons_of_mem _ hp)) I5 rfl rfl rfl rfl h2) fun r s' hq => ?_
  cases r with
  | error e => exact hq.elim
  | ok fl =>
    cases fl with
    | ret u => exact hq
    | next => exact hq
    | brk => exact hq
    | cont => exact hq
end
end Ab

set_option Elab.async false
set_option linter.all false
set_option maxRecDepth 100000
set_option maxHeartbeats 4000000
namespace Ab
open PySem PySem.Spec PyProof.Rows L2 LamX
section
variable {K : PySem.W.Frag} {T : Tt} {P : Hp} {M : Mh} {H H' : Hp}
theorem Wr.code (w : Wr K T P M H) {c : Addr} {q : Str} (h : P c = some (CodeO c q)) : H c = some (CodeO c q) := by
  rcases w.pure _ _ h with z | ⟨kvs, ob, z, _⟩
  · exact z
  · unfold CodeO at z; cases z
theorem Wr.tabs (w : Wr K T P M H) {Pt : Addr} {q : Str} (hT : T.l Pt q) : TabS H Pt q := by
  obtain ⟨ps, e, t, f⟩ := (w.tab Pt (.inr ⟨q, hT⟩)).1
  refine ⟨ps, e, t, fun pos cv hc => ?_⟩
  obtain ⟨c, e1, e2⟩ := f q hT pos cv hc
  exact ⟨c, e1, w.code e2⟩
/-- behind the making of a lambda -/
theorem step_made {Pt c' : Addr} {q : Str} (w : Wr K T P M H) (hT : T.l Pt q) (mk : Made1 H H' Pt c' q) (tS : TabS H' Pt q) (hc' : H' c' = some (CodeO c' q)) : ∃ P', Step K T P M H P' M H' ∧ P' c' = some (CodeO c' q) := by
  rcases mk with rfl | ⟨ps, pos0, hP, nC, rfl⟩
  · -- the code object stood: it goes over to P
    by_cases h : P c' = some (CodeO c' q)
    · exact ⟨P, Step.refl w, h⟩
    have mc : M c' = none := by
      cases e : M c' with
      | none => rfl
      | some m =>
        obtain ⟨o, ho, r⟩ := w.chg _ _ e
        rw [hc'] at ho
        unfold CodeO at ho
        cases ho; cases r
    have pc : P c' = none := by
      cases e : P c' with
      | none => rfl
      | some o =>
        rcases w.pure _ _ e with z | ⟨_, _, _, z⟩
        · rw [hc'] at z; cases z; exact absurd e h
        · rw [hc'] at z; unfold CodeO at z; cases z
    have nt : ¬ T c' := fun t => by
      obtain ⟨ps, z⟩ := tabg_some (w.tab c' t).1
      rw [hc'] at z; unfold CodeO at z; cases z
    have ex : Ex P (upd P c' (CodeO c' q)) := Ex.put pc
    refine ⟨upd P c' (CodeO c' q), ⟨ex, ⟨fun a u e => ?_, fun a m e => ?_, fun a m e => ?_, fun a t => ?_⟩, fun a u e1 e2 e3 _ _ e6 => ?_, fun a ob u e => e, fun _ o z => ⟨o, z⟩⟩, upd_same⟩
    · by_cases n : a = c'
      · subst n; rw [upd_same] at e; cases e; exact .inl hc'
      · rw [upd_ne n] at e; exact w.pure a u e
    · obtain ⟨u, e1, r1⟩ := w.chg a m e
      exact ⟨u, e1, r1.mono ex⟩
    · have n : a ≠ c' := fun z => by rw [z, mc] at e; cases e
      rw [upd_ne n]; exact w.dis a m e
    · obtain ⟨t1, t2, t3⟩ := w.tab a t
      have n : a ≠ c' := fun z => nt (z ▸ t)
      exact ⟨t1.ex ex, by rw [upd_ne n]; exact t2, t3⟩
    · have n : a ≠ c' := fun z => by rw [z, hc'] at e1; cases e1; exact e6 _ rfl
      exact ⟨e1, by rw [upd_ne n]; exact e2, e3⟩
  obtain ⟨t1, pn, mn⟩ := w.tab Pt (.inr ⟨q, hT⟩)
  have pc := w.pfree nC
  have mc := w.mfree nC
  have nPc : Pt ≠ c' := ne_of_none hP nC
  have tc := w.tne nC
  have ex : Ex P (upd P c' (CodeO c' q)) := Ex.put pc
  have at_ : ∀ b, b ≠ Pt → b ≠ c' → ∀ o, upd (upd H Pt o) c' (CodeO c' q) b = H b := fun b h1 h2 o => by rw [upd_ne h2, upd_ne h1]
  refine ⟨upd P c' (CodeO c' q), ⟨ex, ⟨fun a u e => ?_, fun a m e => ?_, fun a m e => ?_, fun a t => ?_⟩, fun a u e1 e2 e3 e4 _ e6 => ?_, fun a ob u e => ?_, fun a u z => ?_⟩, upd_same⟩
  · by_cases n : a = c'
    · subst n; rw [upd_same] at e; cases e; exact .inl upd_same
    · have n2 : a ≠ Pt := fun z => by rw [z, upd_ne nPc, pn] at e; cases e
      rw [upd_ne n] at e; rw [at_ a n2 n]; exact w.pure a u e
  · have n : a ≠ c' := fun z => by rw [z, mc] at e; cases e
    have n2 : a ≠ Pt := fun z => by rw [z, mn] at e; cases e
    obtain ⟨u, e1, r1⟩ := w.chg a m e
    exact ⟨u, by rw [at_ a n2 n]; exact e1, r1.mono ex⟩
  · have n : a ≠ c' := fun z => by rw [z, mc] at e; cases e
    rw [upd_ne n]; exact w.dis a m e
  · have n : a ≠ c' := fun z => tc (z ▸ t)
    obtain ⟨s1, s2, s3⟩ := w.tab a t
    refine ⟨?_, by rw [upd_ne n]; exact s2, s3⟩
    by_cases n2 : a = Pt
    · subst n2
      obtain ⟨qs, g1, g2, g3⟩ := s1
      rw [hP] at g1; cases g1
      obtain ⟨qs2, k1, k2, _⟩ := tS
      rw [upd_ne n, upd_same] at k1
      cases k1
      refine ⟨_, by rw [upd_ne n, upd_same], k2, fun q' tq pos cv hc => ?_⟩
      have eq' := T.un _ _ _ tq hT
      subst eq'
      rw [Array.toList_append] at hc
      rcases among_app _ g2 hc with z | z
      · obtain ⟨c0, z1, z2⟩ := g3 q' hT pos cv z
        exact ⟨c0, z1, ex _ _ z2⟩
      · exact ⟨c', z, upd_same⟩
    · obtain ⟨qs, g1, g2, g3⟩ := s1
      exact ⟨qs, by rw [at_ a n2 n]; exact g1, g2, fun q' tq pos cv hc => let ⟨c0, z1, z2⟩ := g3 q' tq pos cv hc; ⟨c0, z1, ex _ _ z2⟩⟩
  · have n : a ≠ c' := fun z => by rw [z, nC] at e1; cases e1
    have n2 : a ≠ Pt := fun z => e4 (z ▸ .inr ⟨q, hT⟩)
    exact ⟨by rw [at_ a n2 n]; exact e1, by rw [upd_ne n]; exact e2, e3⟩
  · have n : a ≠ c' := fun z => by rw [z, nC] at e; cases e
    have n2 : a ≠ Pt := fun z => by rw [z, hP] at e; cases e
    rw [at_ a n2 n]; exact e
  · by_cases n : a = c'
    · rw [n]; exact ⟨_, upd_same⟩
    · by_cases n2 : a = Pt
      · rw [n2, upd_ne nPc]; exact ⟨_, upd_same⟩
      · exact ⟨u, by rw [at_ a n2 n]; exact z⟩
/-- ints compared -/
def cmpI (gt : Bool) : V → V → Hp → Bool → Prop := fun k k0 _ bb => ∃ a b : Int, k = .int a ∧ k0 = .int b ∧ bb = if gt then decide (a > b) else decide (a < b)
def asPL (d : D) (k : List D → Prop) : Prop := match d with | .lst ds => k ds | _ => False
theorem asPL_ {ds : List D} {k : List D → Prop} : asPL (.lst ds) k = k ds := rfl
theorem asPL.get {d : D} {k : List D → Prop} (h : asPL d k) : ∃ ds, d = .lst ds ∧ k ds := by cases d <;> first | exact h.elim | exact ⟨_, rfl, h⟩
/-- the best by an int key; I: what holds at turn j, with the best so far and its key -/
def keyW (gt : Bool) (e : XE K T) (i : Nat) (ds : List D) (ρ : Sl) (M : Mh) (df : Option D) (Φ : D → Mh → Prop) : Prop := ∃ I : Nat → Option (D × Int) → Mh → Prop, I 0 none M ∧
  (∀ j d b M', ds[j]? = some d → I j b M' → e.w (ρ.set i (some d)) M' (fun k M2 => asI k fun a => match b with
    | none => I (j + 1) (some (d, a)) M2
    | some (x, a0) => I (j + 1) (if (if gt then a > a0 else a < a0) then some (d, a) else some (x, a0)) M2) (fun _ _ _ _ => False)) ∧
  (∀ b M', I ds.length b M' → match b, df with | some (x, _), _ => Φ x M' | none, some d => Φ d M' | none, none => False)
theorem keyW.ok {gt : Bool} {e : XE K T} {i l c' : Addr} {q : Str} {ds : List D} {vs : List V} {ρ : Sl} {σ : L2.St} {df : Option D} {dv : Option V} {Φ : D → Mh → Prop} {Q : VK} (rs : RepS K P σ ρ) (h : keyW gt e i ds ρ M df Φ) (wr : Wr K T P M H) (hl : P l = some (.lst vs)) (hr : RepL K P vs ds) (hc : P c' = some (CodeO c' q))
    (hd : match df, dv with | none, none => True | some d, some v => Rep K P v d | _, _ => False)
    (hq : ∀ v d P' M' H', Φ d M' → Step K T P M H P' M' H' → Rep K P' v d → Q v H') : loopK K c' q (cmpI gt) (e.t WX0) σ i l vs dv vs none H Q := by
  obtain ⟨I, h0, hs, he⟩ := h
  have main : ∀ (r : List V) (j : Nat) (b : Option (V × V)) (bd : Option (D × Int)) (P1 : Hp) (M1 : Mh) (H1 : Hp), vs.drop j = r → j ≤ vs.length → I j bd M1 → Step K T P M H P1 M1 H1 → (match b, bd with | none, none => True | some (x, k), some (d, a) => Rep K P1 x d ∧ k = .int a | _, _ => False) → loopK K c' q (cmpI gt) (e.t WX0) σ i l vs dv r b H1 Q := by
    intro r
    induction r with
    | nil =>
      intro j b bd P1 M1 H1 hv hj hI st hb
      have hj2 : j = ds.length := by have := List.drop_eq_nil_iff.mp hv; rw [← hr.len]; omega
      refine ⟨SqL.of ?_, ?_⟩
      · rcases st.wr.pure _ _ (st.ex _ _ hl) with z | ⟨_, _, z, _⟩
        · exact z
        · cases z
      have hf := he bd M1 (hj2 ▸ hI)
      cases b with
      | none =>
        cases bd with
        | some x => exact hb.elim
        | none =>
          cases df with
          | none => exact hf.elim
          | some d =>
            cases dv with
            | none => exact hd.elim
            | some v => exact hq _ _ _ _ _ hf st (Rep.mono st.ex hd)
      | some x =>
        cases bd with
        | none => exact hb.elim
        | some y => exact hq _ _ _ _ _ hf st hb.1
    | cons v r ih =>
      intro j b bd P1 M1 H1 hv hj hI st hb
      have hvj : vs[j]? = some v := by
        have := congrArg (fun l => l[0]?) hv
        simpa [List.getElem?_drop] using this
      have hv1 : vs.drop (j + 1) = r := by rw [← List.drop_drop, hv]; rfl
      have hlt : j < vs.length := (List.getElem?_eq_some_iff.mp hvj).1
      obtain ⟨d, hd1, rd⟩ := hr.get hvj
      refine ⟨SqL.of ?_, st.wr.code (st.ex _ _ hc), ?_⟩
      · rcases st.wr.pure _ _ (st.ex _ _ hl) with z | ⟨_, _, z, _⟩
        · exact z
        · cases z
      refine e.ok (hs j d bd M1 hd1 hI) st.wr ((rs.mono st.ex).set (Rep.mono st.ex rd) i) (fun k kd P2 M2 H2 h2 s2 r2 => ?_) (fun _ _ _ _ _ _ _ z _ _ => z.elim)
      obtain ⟨a, rfl, h3⟩ := asI.get h2
      have ek := r2.toI
      subst ek
      have st2 := st.trans s2
      cases b with
      | none =>
        cases bd with
        | some y => exact hb.elim
        | none => exact ih (j + 1) _ (some (d, a)) P2 M2 H2 hv1 (by omega) h3 st2 ⟨Rep.mono st2.ex rd, rfl⟩
      | some x =>
        cases bd with
        | none => exact hb.elim
        | some y =>
          obtain ⟨xv, xk⟩ := x
          obtain ⟨yd, a0⟩ := y
          obtain ⟨hb1, hb2⟩ := hb
          have hb2 : xk = .int a0 := hb2
          subst hb2
          refine ⟨if gt then decide (a > a0) else decide (a < a0), ⟨a, a0, rfl, rfl, rfl⟩, ?_⟩
          by_cases g : (if gt then a > a0 else a < a0)
          · have e1 : (if gt then decide (a > a0) else decide (a < a0)) = true := by cases gt <;> simpa using g
            rw [e1]
            simp only [if_pos g] at h3
            exact ih (j + 1) _ (some (d, a)) P2 M2 H2 hv1 (by omega) h3 st2 ⟨Rep.mono st2.ex rd, rfl⟩
          · have e1 : (if gt then decide (a > a0) else decide (a < a0)) = false := by cases gt <;> simpa using g
            rw [e1]
            simp only [if_neg g] at h3
            exact ih (j + 1) _ (some (yd, a0)) P2 M2 H2 hv1 (by omega) h3 st2 ⟨Rep.mono s2.ex hb1, rfl⟩
  exact main vs 0 none none P M H rfl (Nat.zero_le _) h0 (Step.refl wr) trivial
/-- max(a, key=lambda x: e), ints for keys -/
def xMaxK (a : XE K T) (i : Nat) (e : XE K T) : XE K T where
  t := fun W => fun σ H Q => ∀ Pt q, T.l Pt q → tKeyed Pt q K (cmpI true) (a.t W) (e.t WX0) i none σ H Q
  w := fun ρ M Φ Ξ => a.w ρ M (fun d M1 => asPL d fun ds => keyW true e i ds ρ M1 none Φ) Ξ
  ok := fun {W ρ M Φ Ξ} h P σ H wr rs Q hq hx Pt q hT => a.ok h wr rs (fun v d P1 M1 H1 h1 s1 r1 => by
    obtain ⟨ds, rfl, h2⟩ := h1.get
    obtain ⟨l, vs, rfl, hl, hr⟩ := r1.toL
    refine ⟨l, vs, rfl, s1.wr.sl (SqL.of hl), s1.wr.tabs hT, fun H2 c' mk tS hc => ?_⟩
    obtain ⟨P2, s2, pc⟩ := step_made s1.wr hT mk tS hc
    exact keyW.ok (df := none) (dv := none) (rs.mono (s1.trans s2).ex) h2 s2.wr (s2.ex _ _ hl) (RepL.mono s2.ex hr) pc trivial fun v d P' M' H' h3 s3 r3 => hq _ _ _ _ _ h3 ((s1.trans s2).trans s3) r3) hx
end
section
variable {X : Cx} {W : WX} {T : Tt} {a e : XE X.K T}
theorem cmpI_gt : CmpOk X .Gt (cmpI true) := fun pins s σ H k k0 u w bb Q E I ru rw' hcm hq => by
  obtain ⟨a, b, rfl, rfl, rfl⟩ := hcm
  obtain ⟨t, rfl⟩ := (show ∃ t, u = Value.int a t from ru)
  obtain ⟨t', rfl⟩ := (show ∃ t, w = Value.int b t from rw')
  exact CmpOf.ints_gt (prog := X.prog) (w := X.w) (A := X.A.in1) (P := fun i v => ∃ t, v = .int (if i = 0 then a else b) t) (fun i => if i = 0 then a else b) (fun i v h => h) 0 1 _ _ _ _ _ ⟨t, rfl⟩ ⟨t', rfl⟩ hq
theorem dMaxK {x : Str} {i k : Nat} {params : Arguments} {body ea : Expr} {scope : Scope} {p lpos kpos pos : Pos} (tb : TlB X.base X.mg T X.env.code (X.env.qual ++ "<lambda>")) (hc : X.calm = true) (hr : Room (k + 2) X.A) (hm : X.mg "max" = none) (L : Lam1 X.env.scope scope x) (hN : X.N[i]? = some x) (hnd : X.N.Nodup) (he : PE X ea (a.t W))
    (hbody : ∀ (A : Around) (outer : List Env) (s : Shared) (H : Hp) (f c' : Addr), Room k (A.deeper (lamEnv X scope s.heap.objs.size f c')) → PE (lamCx X A outer s H C8.E0 scope f c') body (e.t WX0))
    (hdef : defaultsOf params X.env = ([], []) := by rfl) (hbind : ∀ (q : Str) (cl : List (Str × Addr)) (pm cv ctv u : Value), bindArgs (PySem.W.kla_fn "<lambda>" q params body scope cl pm cv ctv) ⟨[u], []⟩ = pure [(x, u)] := by intros; rfl) (hg : Gl X "max" := by rfl)
    (hee : backTo pos (starEach [ea] X.env) = (false, eval ea X.env) :: backTo pos (starEach [] X.env) := by rfl) (hplain : (backTo pos (starEach [ea] X.env)).any (·.1) = false := by rfl)
    (hall : (backToKw pos (keywordEach [⟨some "key", .Lambda params body scope lpos, kpos⟩] X.env)).all (·.1.isSome) = true := by rfl) (hkw : (backToKw pos (keywordEach [⟨some "key", .Lambda params body scope lpos, kpos⟩] X.env)).any (·.1.isNone) = false := by rfl)
    (hks : (backToKw pos (keywordEach [⟨some "key", .Lambda params body scope lpos, kpos⟩] X.env)).filterMap (·.1) = [Str.ofString "key"] := by rfl)
    (hkv : (backToKw pos (keywordEach [⟨some "key", .Lambda params body scope lpos, kpos⟩] X.env)).map (·.2) = [do let v ← eval (.Lambda params body scope lpos) X.env; standAt pos; pure v] := by rfl) :
    PE X (.Call (.Name "max" p) [ea] [⟨some "key", .Lambda params body scope lpos, kpos⟩] pos) ((xMaxK a i e).t W) := by
  obtain ⟨c, Pt, hcode, TB, hT⟩ := tb
  have h := pe_maxK (p := p) (i := i) hc hr hg hm TB hcode L hN hnd hdef hbind cmpI_gt he hbody hee hplain hall hkw hks hkv
  exact ⟨fun pins s σ H Q I hh => h.run pins s σ H Q I (hh Pt _ hT)⟩
end
end Ab

set_option Elab.async false
set_option linter.all false
set_option maxRecDepth 100000
set_option maxHeartbeats 4000000
namespace Ab
open PySem PySem.Spec PyProof.Rows L2
/-! ### list(reversed(xs)) -/
section
variable {prog : Program} {w : World} {A : Around} {E : Value → Shared → Prop} {s : Shared}
theorem init_rev {R : Result → Shared → Prop} {it l S : Addr} {items : Array Value} (hh : A.handled = none) (hit : s.heap.IsRevIter it l ((items.size : Int) - 1)) (hl : s.heap.IsList l items) (hne : l ≠ it) (hn : items.size ≤ sizeLine) (nSi : S ≠ it) (nSl : S ≠ l)
    (hS : s.heap.get? S = some { cls := .type "list", data := .seq #[] })
    (hR : ∀ h' tk acc' c', (∀ b o, b ≠ S → b ≠ it → s.heap.get? b = some o → h'.get? b = some o) → h'.get? S = some { cls := .type "list", dict := none, data := .seq acc' c', slots := #[] } →
      ItemsOf (fun i v => items[items.size - 1 - i]? = some v) acc' items.size → R (.ok (.ret .none)) { s with heap := h', toks := tk }) :
    wpAny (model prog w) A.in1 (Builtin.«list.__init__» ⟨[.ref S, .ref it], []⟩)
      (fun fin s' => match fin with | .done f => R (.ok f) s' | .again c' => c'.quiet = true ∧ codeAny (model prog w) A c' R s') (fun e s' => R (.error e) s') s := by
  have W := (Walks.listRev (prog := prog) (w := w) (A := A.in1) hh it l hne items).toS
  have out : S ∉ [it, l] := by simp only [List.mem_cons, List.not_mem_nil, or_false, not_or]; exact ⟨nSi, nSl⟩
  show wpAny _ A.in1 (do let old ← Builtin.List.listItems (.ref S); Builtin.List.listUpdate (.ref S) (fun _ => #[]); letGo old.toList.reverse; Builtin.List.listExtendWith (.ref S) (.ref it) .none) _ _ s
  refine wpAny_bind ?_
  unfold Builtin.List.listItems
  refine wpAny_bind (wpAny_seqItems hS rfl (wpAny_pure ?_))
  show wpAny _ A.in1 (updateSeq S (fun _ => #[]) >>= fun _ => letGo (#[] : Array Value).toList.reverse >>= fun _ => Builtin.List.listExtendWith (.ref S) (.ref it) .none) _ _ s
  refine wpAny_bind (wpAny_updateSeq hS rfl ?_)
  have g2 := Heap.get?_update_self (Obj.mapSeq (fun _ => (#[] : Array Value))) hS rfl
  have oth : ∀ b o, b ≠ S → s.heap.get? b = some o → (s.heap.update S (Obj.mapSeq (fun _ => (#[] : Array Value)))).get? b = some o := fun b o nb e => (Heap.get?_update_other _ _ (Ne.symm nb)).trans e
  refine wpAny_bind (wpAny_letGo ?_)
  have hit1 : (s.heap.update S (Obj.mapSeq (fun _ => (#[] : Array Value)))).IsRevIter it l ((items.size : Int) - 1) := hit.at fun o e => oth it o (Ne.symm nSi) e
  have hl1 : (s.heap.update S (Obj.mapSeq (fun _ => (#[] : Array Value)))).IsList l items := by
    obtain ⟨o, ho, r⟩ := hl
    exact ⟨o, oth l o (Ne.symm nSl) ho, r⟩
  have hT := Heap.IsRevIter.typeIs (s := { s with heap := s.heap.update S (Obj.mapSeq (fun _ => (#[] : Array Value))) }) hit1
  have h1 : Builtin.List.listSameRef (.ref S) (.ref it) = false := by simp [Builtin.List.listSameRef, nSi]
  unfold Builtin.List.listExtendWith
  refine wpAny_bind (wpAny_typeOf hT ?_)
  rw [if_neg (by rw [h1]; decide)]
  refine wpAny_bind (wpAny_pyIter_revIter (s := { s with heap := s.heap.update S (Obj.mapSeq (fun _ => (#[] : Array Value))) }) hit1 ?_)
  refine wpAny_bind (wpAny_holding ?_)
  unfold Builtin.List.listLengthHint
  refine wpAny_bind (wpAny_specialOf hT RT.nolen_lri ?_)
  show wpAny _ A.in1 (specialOf (Value.ref it) (Str.ofString "__length_hint__") >>= _) _ _ _
  refine wpAny_bind (wpAny_specialOf hT RT.hint_lri ?_)
  generalize hid : ("list_reverseiterator.__length_hint__" : String) = id0
  wp_delta
  rw [show splitId id0 = some ("list_reverseiterator", "__length_hint__") from by subst hid; decide +kernel]
  subst hid
  refine wpAny_bind (wpAny_isInstance (b := true) hT (by rw [isSubtype_type]; kernel_rfl) ?_)
  refine wpAny_pure ?_
  rw [if_neg (by decide)]
  have e0 : ((items.size : Nat) : Int) - 1 - ((0 : Nat) : Int) = (items.size : Int) - 1 := by omega
  refine wpAny_pure ⟨plainId_quiet F.plain_extend_loop _, codeAny_extend_loopS W hn _ out _ items.size 0 _ _ _ rfl (Nat.zero_le _) ⟨Nat.zero_le _, by rw [e0]; exact hit1, hl1⟩ g2 (ItemsOf.nil _) fun s' acc' c' hm hS' hacc => ?_⟩
  rw [Moved.eq_with hm]
  refine hR s'.heap s'.toks acc' c' (fun b o n1 n2 e => hm.heap b o (fun z => ?_) (oth b o n1 e)) hS' hacc
  rcases List.mem_cons.mp z with z | z
  · exact n1 z
  · exact n2 (List.mem_singleton.mp z)
theorem call_list_rev {it l : Addr} {items : Array Value} {Q : Value → Shared → Prop} (hh : A.handled = none) (hit : s.heap.IsRevIter it l ((items.size : Int) - 1)) (hl : s.heap.IsList l items) (hne : l ≠ it) (hn : items.size ≤ sizeLine)
    (hQ : ∀ h' tk acc' c', (∀ b o, b ≠ it → s.heap.get? b = some o → h'.get? b = some o) → h'.get? s.heap.objs.size = some { cls := .type "list", dict := none, data := .seq acc' c', slots := #[] } →
      ItemsOf (fun i v => items[items.size - 1 - i]? = some v) acc' items.size → Q (.ref s.heap.objs.size) { s with heap := h', toks := tk }) :
    wpAny (model prog w) A (call (.type "list") [.ref it]) Q E s := by
  obtain ⟨oi, hoi, _⟩ := id hit
  obtain ⟨ol, hol, _⟩ := id hl
  have nSi : s.heap.objs.size ≠ it := Nat.ne_of_gt (Heap.lt_size hoi)
  have nSl : s.heap.objs.size ≠ l := Nat.ne_of_gt (Heap.lt_size hol)
  refine callType_codes (Q₁ := fun obj s₁ => obj = .ref s.heap.objs.size ∧ s₁ = { s with heap := s.heap.push { cls := .type "list", data := .seq #[] } }) F.called_list (F.typeCall_list_1 _) F.entry_list_init (code_list_new _ ⟨rfl, rfl⟩) fun obj s₁ h₁ => ?_
  obtain ⟨rfl, rfl⟩ := h₁
  have gS : (s.heap.push { cls := .type "list", data := .seq #[] }).get? s.heap.objs.size = some { cls := .type "list", data := .seq #[] } := Heap.get?_push_size _ rfl
  refine ⟨⟨_, gS, rfl⟩, F.args_list_init_2 _ _, init_rev (A := A.in1) hh (hit.at fun o e => Heap.get?_push_of_some _ e) (hl.push _) hne hn nSi nSl gS fun h' tk acc' c' hk hS' hacc => ?_⟩
  exact ⟨rfl, hQ h' tk acc' c' (fun b o nb e => hk b o (Nat.ne_of_lt (Heap.lt_size e)) nb (Heap.get?_push_of_some _ e)) hS' hacc⟩
end
def tLstRev (K : PySem.W.Frag) (te : TE) : TE := fun σ H Q => te σ H fun v H1 => ∃ (a : Addr) (xs : List V), v = .ref a ∧ SqL K H1 a xs ∧ ∀ q, H1 q = none → Q (.ref q) (upd H1 q (.lst xs.reverse))
section
variable {X : Cx}
theorem pe_lstRev {e : Expr} {te : TE} {p p2 pos pos2 : Pos} (hc : X.calm = true) (hg : Gl X "list") (hm : X.mg "list" = none) (hg2 : Gl X "reversed") (hm2 : X.mg "reversed" = none) (he : PE X e te)
    (hs : starEach [e] X.env = (false, eval e X.env) :: starEach [] X.env := by rfl)
    (hs2 : starEach [.Call (.Name "reversed" p2) [e] [] pos2] X.env = (false, eval (.Call (.Name "reversed" p2) [e] [] pos2) X.env) :: starEach [] X.env := by rfl) :
    PE X (.Call (.Name "list" p) [.Call (.Name "reversed" p2) [e] [] pos2] [] pos) (tLstRev X.K te) := by
  refine ⟨fun pins s σ H Q I h => ?_⟩
  refine Call_ (ld_blt I hg hm (show bootBuiltins "list" = some (.type "list") by decide +kernel) (PyProof.Rows.callWith_type1 (args_cons (Call_ (ld_blt I hg2 hm2 PyProof.Rows.boot_reversed (PyProof.Rows.callWith_type1 (args_cons (thn (he.run pins s σ H _ I h) fun u s1 ⟨v, H1, I1, r1, q1⟩ => args_nil ?_) hs) hs rfl))) hs2) hs2 rfl))
  obtain ⟨a, xs, rfl, hq, q⟩ := q1
  obtain rfl : u = Value.ref a := r1
  obtain ⟨its, rv, pl, hz⟩ := I1.list hq
  refine call_reversed_list pl.isList (args_nil ?_)
  have I2 : Inv X pins σ H1 { s1 with heap := s1.heap.push (revObj a ((its.toArray.size : Int) - 1)) } := I1.kept (t' := s1.toks) fun b o e => Heap.get?_push_of_some _ e
  obtain ⟨F1, nI⟩ := fp_new I1 (Nat.le_refl _)
  have hl := pl.isList
  obtain ⟨ol, hol, _⟩ := id hl
  have hne : a ≠ s1.heap.objs.size := Nat.ne_of_lt (Heap.lt_size hol)
  have hn : its.toArray.size ≤ sizeLine := by rw [List.size_toArray, ← rv.length]; exact hz
  refine call_list_rev (s := { s1 with heap := s1.heap.push (revObj a ((its.toArray.size : Int) - 1)) }) (I1.ok.hd hc) ⟨_, Heap.get?_push_size _ rfl, rfl, rfl⟩ (hl.push _) hne hn fun h' tk acc c' hk hS hi => ?_
  have hsz : (s1.heap.push (revObj a ((its.toArray.size : Int) - 1))).objs.size = s1.heap.objs.size + 1 := Heap.size_push _ _
  have big : s1.heap.objs.size ≤ (s1.heap.push (revObj a ((its.toArray.size : Int) - 1))).objs.size := by rw [hsz]; exact Nat.le_succ _
  refine ⟨.ref _, _, I1.laid (t' := tk) (a := (s1.heap.push (revObj a ((its.toArray.size : Int) - 1))).objs.size) (o := .lst xs.reverse) (h' := h') (fun b u e => hk b u (Nat.ne_of_lt (Heap.lt_size e)) (Heap.get?_push_of_some _ e)) big ⟨by rw [List.length_reverse]; exact hz, acc.toList, c', RT.vals_rev rv hi, ?_⟩, rfl, q _ (I1.hok.fresh big)⟩
  rw [Array.toArray_toList]; exact hS
end
section
variable {K : PySem.W.Frag} {T : Tt}
theorem RepL.rev {P : Hp} : ∀ {vs : List V} {ds : List D}, RepL K P vs ds → RepL K P vs.reverse ds.reverse
  | _, _, .nil => .nil
  | _, _, .cons a b => by rw [List.reverse_cons, List.reverse_cons]; exact RepL.app (RepL.rev b) (.cons a .nil)
def xLstRev (a : XE K T) : XE K T where
  t := fun W => tLstRev K (a.t W)
  w := fun ρ M Φ Ξ => a.w ρ M (fun x M1 => asPL x fun ds => Φ (.lst ds.reverse) M1) Ξ
  ok := fun h P σ H wr rs Q hq hx => a.ok h wr rs (fun v d P1 M1 H1 h1 s1 r1 => by
    obtain ⟨ds, rfl, h2⟩ := h1.get
    obtain ⟨l, vs, rfl, hl, hr⟩ := r1.toL
    refine ⟨l, vs, rfl, s1.wr.sl (SqL.of hl), fun p hp => ?_⟩
    have s2 := Step.newP s1.wr (o := .lst vs.reverse) hp
    exact hq _ _ _ _ _ h2 (s1.trans s2) (.lst upd_same (RepL.mono s2.ex (RepL.rev hr)))) hx
/-- enumerate(xs) -/
def enumD (xs : List D) : List D := xs.mapIdx fun i d => .tup [.int (i : Nat), d]
theorem enumD_get {xs : List D} {i : Nat} {d : D} (h : (enumD xs)[i]? = some d) : ∃ x, xs[i]? = some x ∧ d = .tup [.int (i : Nat), x] := by
  unfold enumD at h
  rw [List.getElem?_mapIdx] at h
  cases e : xs[i]? with
  | none => rw [e] at h; cases h
  | some x => rw [e] at h; cases h; exact ⟨x, rfl, rfl⟩
theorem enumD_len {xs : List D} : (enumD xs).length = xs.length := by unfold enumD; rw [List.length_mapIdx]
def iE (a : XE K T) : XI K T where
  t := fun W => iEnum K (tCons (a.t W) tNil)
  w := fun ρ M Φ Ξ => a.w ρ M (fun x M1 => asPL x fun xs => Φ (enumD xs) (fun _ => True) M1) Ξ
  ok := fun h P σ H wr rs R hq hx => a.ok h wr rs (fun v d P1 M1 H1 h1 s1 r1 => by
    obtain ⟨xs, rfl, h2⟩ := h1.get
    obtain ⟨l, vs, rfl, hl, hr⟩ := r1.toL
    refine ⟨l, vs, rfl, s1.wr.sl (SqL.of hl), hq _ _ _ P1 M1 H1 h2 s1 fun P3 M3 H3 s3 _ => ⟨fun i d e => ?_, ?_⟩⟩
    · obtain ⟨x, e1, rfl⟩ := enumD_get e
      obtain ⟨v1, f1, g1⟩ := hr.getd e1
      have hs3 : SqL K H3 l vs := s3.wr.sl (SqL.of (s3.ex _ _ hl))
      refine ⟨⟨vs, v1, hs3, f1⟩, fun z H4 hy => ?_⟩
      obtain ⟨t, x1, rfl, hn, rfl, q1⟩ := hy
      have w1 := q1 vs hs3
      rw [f1] at w1; cases w1
      have s4 := Step.newP s3.wr (o := .tup [.int (i : Nat), v1]) hn
      exact ⟨_, s4, .tup upd_same (.cons (.int _) (.cons (g1.mono (s3.ex.trans s4.ex)) .nil))⟩
    · exact ⟨vs, s3.wr.sl (SqL.of (s3.ex _ _ hl)), by rw [enumD_len, hr.len]; exact Nat.le_refl _⟩) hx
/-- xs.index(k), texts -/
def xIdx (o a : XE K T) : XE K T where
  t := fun W => tBM K "list" (rIndex K) (o.t W) (tCons (a.t W) tNil)
  w := fun ρ M Φ Ξ => o.w ρ M (fun x M1 => asPL x fun ds => a.w ρ M1 (fun y M2 => asS y fun k => asTx ds fun xs => ∃ j, xs[j]? = some k ∧ (∀ m : Nat, m < j → xs[m]? ≠ some k) ∧ Φ (.int (j : Nat)) M2) Ξ) Ξ
  ok := fun h _ _ _ wr rs _ hq hx => o.ok h wr rs (fun v x P1 M1 H1 h1 s1 r1 => by
    obtain ⟨ds, rfl, h2⟩ := h1.get
    obtain ⟨l, vs, rfl, hl, hr⟩ := r1.toL
    refine ⟨.inl ⟨rfl, _, s1.wr.sl (SqL.of hl)⟩, a.ok h2 s1.wr (rs.mono s1.ex) (fun u y P2 M2 H2 h4 s2 r2 => ?_) (hx.mono s1)⟩
    obtain ⟨k, rfl, h5⟩ := asS.get h4
    unfold asTx at h5
    cases e : txts ds with
    | none => rw [e] at h5; exact h5.elim
    | some xs =>
      rw [e] at h5
      obtain ⟨j, hj, hno, h7⟩ := h5
      have e2 := txts_rep hr e
      subst e2
      refine ⟨l, xs.map V.str, .str k, j, .str k, rfl, by rw [r2.toS], s2.wr.sl (SqL.of (s2.ex _ _ hl)), rfl, by simp [flatV], by rw [List.getElem?_map, hj]; rfl, by simp [eqV], fun m z' hm hz => ?_, hq _ _ _ _ _ h7 (s1.trans s2) (.int _)⟩
      rw [List.getElem?_map] at hz
      cases q : xs[m]? with
      | none => rw [q] at hz; cases hz
      | some t =>
        rw [q] at hz; cases hz
        have : t ≠ k := fun z => hno m hm (by rw [q, z])
        simp [eqV, this]) hx
end
section
variable {X : Cx} {W : WX} {T : Tt} {a xo : XE X.K T} {ea eo : Expr} {pos : Pos}
theorem dLstRev {p p2 pos2 : Pos} (hc : X.calm = true) (hm : X.mg "list" = none) (hm2 : X.mg "reversed" = none) (he : PE X ea (a.t W)) (hg : Gl X "list" := by rfl) (hg2 : Gl X "reversed" := by rfl) (hs : starEach [ea] X.env = (false, eval ea X.env) :: starEach [] X.env := by rfl)
    (hs2 : starEach [.Call (.Name "reversed" p2) [ea] [] pos2] X.env = (false, eval (.Call (.Name "reversed" p2) [ea] [] pos2) X.env) :: starEach [] X.env := by rfl) : PE X (.Call (.Name "list" p) [.Call (.Name "reversed" p2) [ea] [] pos2] [] pos) ((xLstRev a).t W) := pe_lstRev hc hg hm hg2 hm2 he hs hs2
theorem diE {p tpos : Pos} {elts : List Expr} {kk : Nat} (hm : X.mg "enumerate" = none) (he : PE X ea (a.t W)) (hg : Gl X "enumerate" := by rfl) (hs : starEach [ea] X.env = [(false, eval ea X.env)] := by rfl) (hs2 : starEach [ea] X.env = (false, eval ea X.env) :: starEach [] X.env := by rfl) :
    PI X (.Tuple elts kk tpos) (.Call (.Name "enumerate" p) [ea] [] pos) ((iE a).t W) := pi_enum hg hm (pa_cons he pa_nil hs2) hs
theorem dIdx {p : Pos} (ho : PE X eo (xo.t W)) (ha : PE X ea (a.t W)) (hbase : attributeBase eo "index" X.env (eval eo X.env) = eval eo X.env := by rfl)
    (hfew : ((backTo pos (starEach [ea] X.env)).all (fun x => !x.1) && (backToKw pos (keywordEach [] X.env)).all (fun x => x.1.isSome) && decide ([ea].length + ([] : List Keyword).length + (if ([] : List Keyword).isEmpty then 0 else 1) < 30)) = true := by rfl)
    (hline : (p.endLine == pos.line) = true := by rfl) (hs : starEach [ea] X.env = (false, eval ea X.env) :: starEach [] X.env := by rfl) (hpl : (backTo pos (starEach [] X.env)).any (·.1) = false := by rfl) :
    PE X (.Call (.Attribute eo "index" p) [ea] [] pos) ((xIdx xo a).t W) := pe_bm PySem.F.plainAttrs_list PySem.F.slot_list_index PySem.F.type_list_index mt_index ho (pa_cons ha pa_nil hs) hbase hfew hline hs hpl
end
end Ab

set_option Elab.async false
set_option linter.all false
set_option maxRecDepth 100000
set_option maxHeartbeats 4000000
namespace Ab
open PySem PySem.Spec PyProof.Rows L2 ItX
section
variable {K : PySem.W.Frag} {T : Tt}
/-- a def as a value -/
def xFnV (a : Addr) : XE K T := ⟨fun _ => tC (.ref a), fun _ M Φ _ => Φ (.ref a) M, fun h _ _ _ wr _ _ hq _ => hq _ _ _ _ _ h (Step.refl wr) (.ref a)⟩
/-- slot i holds one of two defs, which is called -/
def xCallV2 (i : Nat) (a1 : Addr) (sp1 : Pm) (a2 : Addr) (sp2 : Pm) (as : XA K T) : XE K T where
  t := fun W => fun σ H Q => tCallV i a1 (spOf K T sp1) C8.E0 (as.t W) σ H Q ∨ tCallV i a2 (spOf K T sp2) C8.E0 (as.t W) σ H Q
  w := fun ρ M Φ Ξ => look ρ i fun d => asR d fun f => (f = a1 ∧ as.w ρ M (fun ds M1 => sp1 ds M1 Φ (fun _ _ _ => False)) Ξ) ∨ (f = a2 ∧ as.w ρ M (fun ds M1 => sp2 ds M1 Φ (fun _ _ _ => False)) Ξ)
  ok := fun {W ρ M Φ Ξ} h P σ H wr rs Q hq hx => by
    obtain ⟨d, e, h1⟩ := look.get h
    obtain ⟨f, rfl, h2⟩ := asR.get h1
    obtain ⟨v, ev, rv⟩ := rs.2 i _ e
    have evf := rv.toR
    subst evf
    rcases h2 with ⟨rfl, h3⟩ | ⟨rfl, h3⟩
    · exact .inl ⟨ev, as.ok h3 wr rs (fun vs ds P1 M1 H1 h4 s1 r1 => ⟨P1, M1, ds, _, _, s1.wr, r1, h4, fun v d P2 M2 H2 h5 s2 r2 => hq v d P2 M2 H2 h5 (s1.trans s2) r2, fun _ _ _ _ _ z _ => z.elim⟩) hx⟩
    · exact .inr ⟨ev, as.ok h3 wr rs (fun vs ds P1 M1 H1 h4 s1 r1 => ⟨P1, M1, ds, _, _, s1.wr, r1, h4, fun v d P2 M2 H2 h5 s2 r2 => hq v d P2 M2 H2 h5 (s1.trans s2) r2, fun _ _ _ _ _ z _ => z.elim⟩) hx⟩
end
section
variable {X : Cx} {W : WX} {T : Tt} {as : XA X.K T} {ea : Expr} {es : List Expr} {pos : Pos}
theorem dFnV {x : Str} {a : Addr} {p : Pos} (hm : X.mg x = some (.ref a)) (hg : Gl X x := by rfl) (hd : (x == ("__debug__" : Str)) = false := by decide) : PE X (.Name x p) ((xFnV (K := X.K) (T := T) a).t W) := pe_glob hg hm rfl hd
theorem clR {k j : Nat} {x : Str} {sp : Pm} {a : Addr} (c : Cl X.prog X.w X.K X.mg X.base T k x sp) (m : X.mg x = some (.ref a)) (hk : k ≤ j) : FnR X.prog X.w X.K X.mg X.base (L2.CX X.prog X.w) j a (spOf X.K T sp) ∧ PySem.W.keepIn X.K (.ref a) = true := by
  obtain ⟨f, fd, ps, F, hm, kp, b⟩ := c.ex
  rw [m] at hm
  cases hm
  refine ⟨FnR.imp ((FnOk.raw F b (dvs := []) .nil).mono hk) fun vs H Q E h => ?_, kp⟩
  rw [List.append_nil]; exact h
theorem dCallV2 {k1 k2 j i : Nat} {x x1 x2 : Str} {sp1 sp2 : Pm} {a1 a2 : Addr} {p : Pos} (c1 : Cl X.prog X.w X.K X.mg X.base T k1 x1 sp1) (m1 : X.mg x1 = some (.ref a1)) (c2 : Cl X.prog X.w X.K X.mg X.base T k2 x2 sp2) (m2 : X.mg x2 = some (.ref a2)) (hr : Room j X.A) (h1 : k1 ≤ j) (h2 : k2 ≤ j)
    (hN : X.N[i]? = some x) (hv : Vis X.env.scope x) (ha : PA X (ea :: es) (as.t W)) (hd : (x == ("__debug__" : Str)) = false := by decide) (hcd : (x == ("__classdict__" : Str)) = false := by decide)
    (he : starEach (ea :: es) X.env = (false, eval ea X.env) :: starEach es X.env := by rfl) (hpl : (backTo pos (starEach es X.env)).any (·.1) = false := by rfl) : PE X (.Call (.Name x p) (ea :: es) [] pos) ((xCallV2 i a1 sp1 a2 sp2 as).t W) := by
  have pass : Passes (L2.CX X.prog X.w) X C8.E0 := fun _ _ _ _ _ _ _ h => by
    obtain ⟨_, _, _, _, _, _, _, _, _, _, _, _, z⟩ := h
    exact z.elim
  obtain ⟨F1, kp1⟩ := clR c1 m1 h1
  obtain ⟨F2, kp2⟩ := clR c2 m2 h2
  refine ⟨fun pins s σ H Q I h => ?_⟩
  rcases h with h | h
  · exact (pe_callV F1 hr kp1 pass hN hv ha hd hcd he hpl).run pins s σ H Q I h
  · exact (pe_callV F2 hr kp2 pass hN hv ha hd hcd he hpl).run pins s σ H Q I h
end
end Ab

set_option Elab.async false
set_option linter.all false
set_option maxRecDepth 100000
set_option maxHeartbeats 4000000
namespace Ab
open PySem PySem.Spec PyProof.Rows L2
theorem first_idx {α : Type} [DecidableEq α] {k : α} : ∀ {xs : List α}, k ∈ xs → ∃ j, xs[j]? = some k ∧ ∀ m : Nat, m < j → xs[m]? ≠ some k
  | x :: xs, h => by
    by_cases e : x = k
    · exact ⟨0, by rw [e]; rfl, fun m hm => absurd hm (Nat.not_lt_zero m)⟩
    · obtain ⟨j, h1, h2⟩ := first_idx (xs := xs) ((List.mem_cons.mp h).resolve_left (Ne.symm e))
      refine ⟨j + 1, h1, fun m hm => ?_⟩
      cases m with
      | zero => exact fun z => e (Option.some.inj z)
      | succ m => exact h2 m (by omega)
theorem cut_drop {α : Type} (l : List α) {m : Nat} : Ab.cutD l (some (m : Int)) none = l.drop m := by
  unfold Ab.cutD
  have e1 : HT.sIx l.length 0 (some (m : Int)) = min m l.length := by
    simp only [HT.sIx]
    repeat' split
    all_goals omega
  have e2 : HT.sIx l.length l.length none = l.length := rfl
  rw [e1, e2, List.take_of_length_le (by rw [List.length_drop]; exact Nat.le_refl _)]
  by_cases h : m ≤ l.length
  · rw [Nat.min_eq_left h]
  · rw [Nat.min_eq_right (by omega), List.drop_of_length_le (Nat.le_refl _), List.drop_of_length_le (by omega)]
end Ab
namespace Ab
theorem srun_in {κ : Type} [DecidableEq κ] {P : Nat} : ∀ {ks : List κ} {rs : List (Option κ)} {hs : List κ} {n : Nat} {e : List κ × Nat}, runM (sstep P) (hs, n) (ks.zip rs) = some e → rs.length = ks.length → ∀ x, some x ∈ rs → x ∈ hs ∨ x ∈ ks
  | [], [], _, _, _, _, _, x, hx => by cases hx
  | k :: ks, r :: rs, hs, n, e, h, hl, x, hx => by
    rw [List.zip_cons_cons, runM_cons] at h
    cases q : sstep P (hs, n) (k, r) with
    | none => rw [q] at h; cases h
    | some s1 =>
      rw [q] at h
      obtain ⟨hs1, n1⟩ := s1
      have sub : ∀ y ∈ hs1, y ∈ hs ∨ y = k := by
        unfold sstep at q
        simp only at q
        split at q
        · split at q
          · cases q; exact fun y hy => .inl hy
          · cases q
        · split at q
          · split at q
            · cases q
            · split at q
              · cases q
                intro y hy
                rcases List.mem_append.mp hy with z | z
                · exact .inl (List.mem_of_mem_erase z)
                · exact .inr (List.mem_singleton.mp z)
              · cases q
          · split at q
            · cases q
              intro y hy
              rcases List.mem_append.mp hy with z | z
              · exact .inl z
              · exact .inr (List.mem_singleton.mp z)
            · cases q
      have hd : ∀ x, r = some x → x ∈ hs := fun x hr => by
        subst hr
        unfold sstep at q
        simp only at q
        split at q
        · simp at q
        · split at q
          · split at q
            · assumption
            · cases q
          · simp at q
      rcases List.mem_cons.mp hx with z | z
      · exact .inl (hd x z.symm)
      · rcases srun_in (ks := ks) h (by simpa using hl) x z with w | w
        · rcases sub x w with v | v
          · exact .inl v
          · exact .inr (v ▸ List.mem_cons_self)
        · exact .inr (List.mem_cons_of_mem _ w)
end Ab

set_option Elab.async false
set_option linter.all false
set_option maxRecDepth 100000
set_option maxHeartbeats 4000000
namespace Ab
section
variable {κ : Type} [DecidableEq κ]
/-! ### the key unused the longest: u, the held keys by their last uses, the oldest first -/
def lruStep (P : Nat) (u : List κ) (k : κ) : List κ × Option κ :=
  if k ∈ u then (u.erase k ++ [k], none)
  else if u.length = P then (match u with | [] => ([k], none) | a :: r => (r ++ [k], some a))
  else (u ++ [k], none)
def lruRun (P : Nat) : List κ → List κ → List κ × List (Option κ)
  | [], u => (u, [])
  | k :: ks, u => let s := lruStep P u k; let r := lruRun P ks s.1; (r.1, s.2 :: r.2)
theorem lru_nodup {P : Nat} {u : List κ} {k : κ} (nd : u.Nodup) : (lruStep P u k).1.Nodup := by
  unfold lruStep
  have app : ∀ {l : List κ}, l.Nodup → k ∉ l → (l ++ [k]).Nodup := fun {l} h1 h2 => List.nodup_append.mpr ⟨h1, by simp, fun a ha b hb => by rw [List.mem_singleton.mp hb]; exact fun z => h2 (z ▸ ha)⟩
  split
  · exact app (nd.erase k) (fun z => (List.Nodup.mem_erase_iff nd).mp z |>.1 rfl)
  · rename_i hk
    split
    · cases u with
      | nil => simp
      | cons a r => exact app (List.nodup_cons.mp nd).2 fun z => hk (List.mem_cons_of_mem _ z)
    · exact app nd hk
theorem lru_len {P : Nat} (hP : 0 < P) {u : List κ} {k : κ} (hl : u.length ≤ P) : (lruStep P u k).1.length ≤ P := by
  unfold lruStep
  split
  · rename_i hk
    have := List.length_erase_of_mem hk
    have := List.length_pos_of_mem hk
    simp; omega
  · split
    · cases u with
      | nil => simp; omega
      | cons a r => simp at *; omega
    · simp; omega
/-! ### phases -/
/-- w: the different keys of the phase, j: the number of phases begun -/
def phStep (P : Nat) (st : List κ × Nat) (k : κ) : List κ × Nat :=
  if st.2 = 0 ∨ (k ∉ st.1 ∧ st.1.length = P) then ([k], st.2 + 1) else (if k ∈ st.1 then st.1 else st.1 ++ [k], st.2)
theorem ph_nodup {P : Nat} {st : List κ × Nat} {k : κ} (nd : st.1.Nodup) : (phStep P st k).1.Nodup := by
  unfold phStep
  split
  · simp
  · simp only
    split
    · exact nd
    · rename_i hk
      exact List.nodup_append.mpr ⟨nd, by simp, fun a ha b hb => by rw [List.mem_singleton.mp hb]; exact fun z => hk (z ▸ ha)⟩
theorem ph_len {P : Nat} (hP : 0 < P) {st : List κ × Nat} {k : κ} (hl : st.1.length ≤ P) : (phStep P st k).1.length ≤ P := by
  unfold phStep
  split
  · simp; omega
  · rename_i h
    simp only
    split
    · exact hl
    · rename_i hk
      have : st.1.length ≠ P := fun z => h (.inr ⟨hk, z⟩)
      simp; omega
/-- the keys of the phase are the last used ones -/
def Suf (u w : List κ) : Prop := ∃ v x, u = v ++ x ∧ x.Perm w
theorem suf_step {P : Nat} (hP : 0 < P) {u : List κ} {st : List κ × Nat} {k : κ} (nd : u.Nodup) (ndw : st.1.Nodup) (hl : u.length ≤ P) (h : Suf u st.1) : Suf (lruStep P u k).1 (phStep P st k).1 ∧
    (k ∉ u → st.2 ≠ 0 → ¬ (k ∉ st.1 ∧ st.1.length = P) → (phStep P st k).1.length = st.1.length + 1) := by
  obtain ⟨v, x, rfl, pm⟩ := h
  have lastk : ∀ l : List κ, Suf (l ++ [k]) [k] := fun l => ⟨l, [k], rfl, List.Perm.refl _⟩
  refine ⟨?_, fun hk h0 h1 => ?_⟩
  · unfold phStep
    by_cases hn : st.2 = 0 ∨ (k ∉ st.1 ∧ st.1.length = P)
    · rw [if_pos hn]
      unfold lruStep
      split
      · exact lastk _
      · split
        · generalize v ++ x = u
          cases u with
          | nil => exact lastk []
          | cons a r => exact lastk r
        · exact lastk _
    · rw [if_neg hn]
      simp only
      unfold lruStep
      by_cases hw : k ∈ st.1
      · have hx : k ∈ x := pm.mem_iff.mpr hw
        have hv : k ∉ v := fun z => (List.nodup_append.mp nd).2.2 k z k hx rfl
        rw [if_pos (List.mem_append_right _ hx), if_pos hw]
        refine ⟨v, x.erase k ++ [k], ?_, ?_⟩
        · rw [List.erase_append_right _ hv, List.append_assoc]
        · exact ((List.perm_append_comm.trans (List.perm_cons_erase hx).symm)).trans pm
      · have hx : k ∉ x := fun z => hw (pm.mem_iff.mp z)
        rw [if_neg hw]
        by_cases hu : k ∈ v ++ x
        · rw [if_pos hu]
          have hv : k ∈ v := (List.mem_append.mp hu).resolve_right hx
          refine ⟨v.erase k, x ++ [k], ?_, pm.append_right [k]⟩
          rw [List.erase_append_left _ hv, List.append_assoc]
        · rw [if_neg hu]
          by_cases hP2 : (v ++ x).length = P
          · rw [if_pos hP2]
            cases v with
            | nil =>
              exact absurd (show st.2 = 0 ∨ (k ∉ st.1 ∧ st.1.length = P) from .inr ⟨hw, by rw [← pm.length_eq]; simpa using hP2⟩) hn
            | cons a r => exact ⟨r, x ++ [k], by simp, pm.append_right [k]⟩
          · rw [if_neg hP2]
            exact ⟨v, x ++ [k], by rw [List.append_assoc], pm.append_right [k]⟩
  · unfold phStep
    have hw : k ∉ st.1 := fun z => hk (List.mem_append_right _ (pm.mem_iff.mpr z))
    rw [if_neg (fun z => z.elim h0 h1)]
    simp [hw]
/-- what any valid list fetches: at least one a phase -/
def Low (hs w : List κ) (n j : Nat) : Prop := j ≤ n ∧ (j + 1 ≤ n ∨ ∀ k ∈ w, k ∈ hs)
theorem low_step {P : Nat} {hs : List κ} {n : Nat} {st : List κ × Nat} {k : κ} {r : Option κ} {hs' : List κ} {n' : Nat} (nd : hs.Nodup) (hl : hs.length ≤ P) (ndw : st.1.Nodup) (h0 : st.2 = 0 → hs = [] ∧ n = 0) (h : Low hs st.1 n st.2) (hs1 : sstep P (hs, n) (k, r) = some (hs', n')) : Low hs' (phStep P st k).1 n' (phStep P st k).2 := by
  obtain ⟨h1, h2⟩ := h
  have kin : k ∈ hs' ∧ (k ∈ hs → hs' = hs ∧ n' = n) ∧ (k ∉ hs → n' = n + 1) := by
    unfold sstep at hs1
    simp only at hs1
    by_cases hk : k ∈ hs
    · rw [if_pos hk] at hs1
      split at hs1
      · cases hs1; exact ⟨hk, fun _ => ⟨rfl, rfl⟩, fun z => absurd hk z⟩
      · cases hs1
    · rw [if_neg hk] at hs1
      split at hs1
      · split at hs1
        · cases hs1
        · split at hs1
          · cases hs1; exact ⟨by simp, fun z => absurd z hk, fun _ => rfl⟩
          · cases hs1
      · split at hs1
        · cases hs1; exact ⟨by simp, fun z => absurd z hk, fun _ => rfl⟩
        · cases hs1
  obtain ⟨k1, k2, k3⟩ := kin
  unfold phStep
  by_cases hn : st.2 = 0 ∨ (k ∉ st.1 ∧ st.1.length = P)
  · rw [if_pos hn]
    have one : ∀ y ∈ [k], y ∈ hs' := fun y hy => by rw [List.mem_singleton.mp hy]; exact k1
    rcases hn with e | ⟨hw, hwl⟩
    · obtain ⟨e1, e2⟩ := h0 e
      have : k ∉ hs := by rw [e1]; simp
      have := k3 this
      exact ⟨by show st.2 + 1 ≤ n'; omega, .inr one⟩
    · refine ⟨?_, .inr one⟩
      show st.2 + 1 ≤ n'
      rcases h2 with h2 | h2
      · by_cases hk : k ∈ hs
        · have := (k2 hk).2; omega
        · have := k3 hk; omega
      · have hk : k ∉ hs := fun z => by
          have := nodup_sub (a := k :: st.1) (b := hs) (List.nodup_cons.mpr ⟨hw, ndw⟩) fun s hs2 => (List.mem_cons.mp hs2).elim (fun e => e ▸ z) (h2 s)
          simp at this; omega
        have := k3 hk; omega
  · rw [if_neg hn]
    simp only
    by_cases hk : k ∈ hs
    · obtain ⟨rfl, rfl⟩ := k2 hk
      refine ⟨h1, h2.imp id fun h2 y hy => ?_⟩
      split at hy
      · exact h2 y hy
      · rcases List.mem_append.mp hy with z | z
        · exact h2 y z
        · rw [List.mem_singleton.mp z]; exact hk
    · have := k3 hk
      exact ⟨by omega, .inl (by omega)⟩
end
end Ab

set_option Elab.async false
set_option linter.all false
set_option maxRecDepth 100000
set_option maxHeartbeats 4000000
namespace Ab
section
variable {κ : Type} [DecidableEq κ]
/-! ### phases by their beginnings; the places of fetches -/
/-- (w, starts) behind the key k at place i -/
def psStep (P : Nat) (st : List κ × List Nat) (i : Nat) (k : κ) : List κ × List Nat :=
  if i = 0 ∨ (k ∉ st.1 ∧ st.1.length = P) then ([k], st.2 ++ [i]) else (if k ∈ st.1 then st.1 else st.1 ++ [k], st.2)
/-- behind the first i of ks -/
def psAt (P : Nat) (ks : List κ) : Nat → List κ × List Nat
  | 0 => ([], [])
  | i + 1 => match ks[i]? with | some k => psStep P (psAt P ks i) i k | none => psAt P ks i
theorem psAt_s {P : Nat} {ks : List κ} {i : Nat} {k : κ} (h : ks[i]? = some k) : psAt P ks (i + 1) = psStep P (psAt P ks i) i k := by
  show (match ks[i]? with | some k => _ | none => _) = _
  rw [h]
/-- how many of l are from a to below b -/
def cntI (l : List Nat) (a b : Nat) : Nat := (l.filter fun p => decide (a ≤ p ∧ p < b)).length
theorem cntI_app (l m : List Nat) (a b : Nat) : cntI (l ++ m) a b = cntI l a b + cntI m a b := by unfold cntI; rw [List.filter_append, List.length_append]
theorem cntI_one (x a b : Nat) : cntI [x] a b = if a ≤ x ∧ x < b then 1 else 0 := by
  unfold cntI
  by_cases h : a ≤ x ∧ x < b
  · rw [if_pos h, List.filter_cons_of_pos (by simpa using h)]; rfl
  · rw [if_neg h, List.filter_cons_of_neg (by simpa using h)]; rfl
/-- the fetches in the phases: fl, their places; u, the held keys by last use -/
structure Fph (P : Nat) (u : List κ) (ph : List κ × List Nat) (fl : List Nat) (i : Nat) : Prop where
  nu : u.Nodup
  lu : u.length ≤ P
  nw : ph.1.Nodup
  lw : ph.1.length ≤ P
  suf : Suf u ph.1
  lt : ∀ p ∈ fl, p < i
  st : ∀ p ∈ ph.2, p < i
  z : i = 0 ↔ ph.2 = []
  old : ∀ t a b, ph.2[t]? = some a → ph.2[t + 1]? = some b → cntI fl a b ≤ P
  cur : ∀ a, ph.2.getLast? = some a → cntI fl a i ≤ ph.1.length
  tot : ph.2 ≠ [] → fl.length + P ≤ P * ph.2.length + ph.1.length
theorem fph_nil {P : Nat} : Fph P ([] : List κ) ([], []) [] 0 := ⟨List.nodup_nil, Nat.zero_le _, List.nodup_nil, Nat.zero_le _, ⟨[], [], rfl, List.Perm.nil⟩, by simp, by simp, by simp, fun t a b h => by simp at h, fun a h => by simp at h, by simp⟩
theorem ps_ph {P : Nat} {ph : List κ × List Nat} {i : Nat} {k : κ} (h : i = 0 ↔ ph.2 = []) : (psStep P ph i k).1 = (phStep P (ph.1, ph.2.length) k).1 ∧ (psStep P ph i k).2.length = (phStep P (ph.1, ph.2.length) k).2 := by
  have e : (ph.2.length = 0) ↔ i = 0 := by rw [h, List.length_eq_zero_iff]
  unfold psStep phStep
  simp only
  by_cases g : i = 0 ∨ (k ∉ ph.1 ∧ ph.1.length = P)
  · rw [if_pos g, if_pos (g.imp e.mpr id)]; exact ⟨rfl, by simp⟩
  · have g2 : ¬ (ph.2.length = 0 ∨ (k ∉ ph.1 ∧ ph.1.length = P)) := fun z => g (z.imp e.mp id)
    rw [if_neg g, if_neg g2]; exact ⟨rfl, rfl⟩
theorem cntI_lt {l : List Nat} {a i : Nat} (h : ∀ p ∈ l, p < i) : cntI l a (i + 1) = cntI l a i := by
  unfold cntI
  congr 1
  refine List.filter_congr fun p hp => ?_
  have := h p hp
  rw [decide_eq_decide]; omega
theorem cntI_ge {l : List Nat} {a b : Nat} (h : ∀ p ∈ l, p < a) : cntI l a b = 0 := by
  unfold cntI
  rw [List.length_eq_zero_iff, List.filter_eq_nil_iff]
  intro p hp
  have := h p hp
  simp; omega
theorem fph_step {P : Nat} (hP : 0 < P) {u : List κ} {ph : List κ × List Nat} {fl : List Nat} {i : Nat} {k : κ} (h : Fph P u ph fl i) : Fph P (lruStep P u k).1 (psStep P ph i k) (if k ∈ u then fl else fl ++ [i]) (i + 1) := by
  obtain ⟨e1, e2⟩ := ps_ph (P := P) (k := k) h.z
  obtain ⟨s1, s2⟩ := suf_step (st := (ph.1, ph.2.length)) (k := k) hP h.nu h.nw h.lu h.suf
  have hfl : ∀ p ∈ (if k ∈ u then fl else fl ++ [i]), p < i + 1 := fun p hp => by
    split at hp
    · have := h.lt p hp; omega
    · rcases List.mem_append.mp hp with z | z
      · have := h.lt p z; omega
      · rw [List.mem_singleton.mp z]; omega
  have hfi : ∀ a b, b ≤ i → cntI (if k ∈ u then fl else fl ++ [i]) a b = cntI fl a b := fun a b hb => by
    split
    · rfl
    · rw [cntI_app, cntI_one, if_neg (by omega)]; rfl
  have lw := ph_len (st := (ph.1, ph.2.length)) (k := k) hP h.lw
  have nw := ph_nodup (P := P) (st := (ph.1, ph.2.length)) (k := k) h.nw
  have hlw := h.lw
  refine ⟨lru_nodup h.nu, lru_len hP h.lu, by rw [e1]; exact nw, by rw [e1]; exact lw, by rw [e1]; exact s1, hfl, fun p hp => ?_, ⟨fun z => by omega, fun z => ?_⟩, fun t a b ha hb => ?_, fun a ha => ?_, fun _ => ?_⟩
  · unfold psStep at hp
    split at hp
    · rcases List.mem_append.mp hp with z | z
      · have := h.st p z; omega
      · rw [List.mem_singleton.mp z]; omega
    · have := h.st p hp; omega
  · unfold psStep at z
    split at z
    · simp at z
    · rename_i g
      exact absurd (.inl (h.z.mpr z)) g
  · unfold psStep at ha hb
    split at ha
    · rename_i g
      rw [if_pos g] at hb
      have hlt : t + 1 < (ph.2 ++ [i]).length := (List.getElem?_eq_some_iff.mp hb).1
      simp only [List.length_append, List.length_singleton] at hlt
      rw [List.getElem?_append_left (by omega)] at ha
      by_cases hl : t + 1 < ph.2.length
      · rw [List.getElem?_append_left hl] at hb
        have := h.st b (List.mem_of_getElem? hb)
        rw [hfi a b (by omega)]
        exact h.old t a b ha hb
      · have : t + 1 = ph.2.length := by omega
        rw [List.getElem?_append_right (by omega), this, Nat.sub_self] at hb
        cases hb
        rw [hfi a i (Nat.le_refl _)]
        have := h.cur a (by rw [List.getLast?_eq_getElem?, ← this]; exact ha)
        omega
    · rename_i g
      rw [if_neg g] at hb
      have := h.st b (List.mem_of_getElem? hb)
      rw [hfi a b (by omega)]
      exact h.old t a b ha hb
  · unfold psStep at ha ⊢
    by_cases g : i = 0 ∨ (k ∉ ph.1 ∧ ph.1.length = P)
    · rw [if_pos g] at ha ⊢
      simp only [List.getLast?_append, List.getLast?_singleton, Option.some_or, Option.some.injEq] at ha
      subst ha
      show _ ≤ 1
      split
      · rw [cntI_ge h.lt]; omega
      · rw [cntI_app, cntI_ge h.lt, cntI_one]; split <;> omega
    · rw [if_neg g] at ha
      have hc := h.cur a ha
      have ne : ph.2.length ≠ 0 := fun z => by rw [List.length_eq_zero_iff.mp z] at ha; cases ha
      have e3 : (psStep P ph i k).1.length = (phStep P (ph.1, ph.2.length) k).1.length := by rw [e1]
      unfold psStep at e3
      rw [if_neg g] at e3 ⊢
      rw [e3]
      have grow : ph.1.length ≤ (phStep P (ph.1, ph.2.length) k).1.length := by
        rw [← e3]; simp only; split
        · exact Nat.le_refl _
        · simp
      by_cases hk : k ∈ u
      · rw [if_pos hk, cntI_lt h.lt]; omega
      · rw [if_neg hk, cntI_app, cntI_lt h.lt, cntI_one]
        have := s2 hk ne (fun z => g (.inr z))
        simp only at this
        split <;> omega
  · have e3 : (psStep P ph i k).1.length = (phStep P (ph.1, ph.2.length) k).1.length := by rw [e1]
    have hlen : (if k ∈ u then fl else fl ++ [i]).length ≤ fl.length + 1 := by split <;> simp
    by_cases g : i = 0 ∨ (k ∉ ph.1 ∧ ph.1.length = P)
    · unfold psStep
      rw [if_pos g]
      show _ ≤ P * (ph.2 ++ [i]).length + 1
      rw [List.length_append, List.length_singleton, Nat.mul_add, Nat.mul_one]
      by_cases hz : ph.2 = []
      · have : fl = [] := by
          have hi := h.z.mpr hz
          cases fl with
          | nil => rfl
          | cons p r => have := h.lt p List.mem_cons_self; omega
        rw [this] at hlen ⊢
        simp only [List.length_nil] at hlen
        omega
      · have := h.tot hz
        omega
    · have hz : ph.2 ≠ [] := fun z => g (.inl (h.z.mpr z))
      have ht := h.tot hz
      have ne : ph.2.length ≠ 0 := fun z => hz (List.length_eq_zero_iff.mp z)
      rw [e3]
      have e4 : (psStep P ph i k).2 = ph.2 := by unfold psStep; rw [if_neg g]
      rw [e4]
      have grow : ph.1.length ≤ (phStep P (ph.1, ph.2.length) k).1.length := by
        rw [← e3]; unfold psStep; rw [if_neg g]; simp only; split
        · exact Nat.le_refl _
        · simp
      by_cases hk : k ∈ u
      · rw [if_pos hk]; omega
      · rw [if_neg hk]
        have := s2 hk ne (fun z => g (.inr z))
        simp only at this
        rw [List.length_append, List.length_singleton]; omega
end
end Ab

set_option Elab.async false
set_option linter.all false
set_option maxRecDepth 100000
set_option maxHeartbeats 4000000
namespace Ab
section
variable {κ : Type} [DecidableEq κ]
theorem idx_ne {x y : κ} {xs : List κ} (h : x ≠ y) : (x :: xs).idxOf y = xs.idxOf y + 1 := by
  rw [List.idxOf_cons]
  have : (x == y) = false := by simpa using h
  rw [this]; rfl
theorem idx_first {k : κ} : ∀ {xs : List κ}, k ∈ xs → xs[xs.idxOf k]? = some k ∧ ∀ m : Nat, m < xs.idxOf k → xs[m]? ≠ some k
  | x :: xs, h => by
    by_cases e : x = k
    · subst e
      rw [List.idxOf_cons_self]
      exact ⟨rfl, fun m hm => absurd hm (Nat.not_lt_zero m)⟩
    · obtain ⟨h1, h2⟩ := idx_first (xs := xs) ((List.mem_cons.mp h).resolve_left (Ne.symm e))
      rw [idx_ne e]
      refine ⟨h1, fun m hm => ?_⟩
      cases m with
      | zero => exact fun z => e (Option.some.inj z)
      | succ m => exact h2 m (by omega)
/-- u stands by last use in ks -/
def Ord (ks u : List κ) : Prop := u.Pairwise fun a b => ks.reverse.idxOf b < ks.reverse.idxOf a
theorem ord_push {ks u : List κ} {k : κ} (hk : k ∉ u) (h : Ord ks u) : Ord (ks ++ [k]) (u ++ [k]) := by
  unfold Ord at *
  have e : ∀ a, a ≠ k → (ks ++ [k]).reverse.idxOf a = ks.reverse.idxOf a + 1 := fun a ha => by
    rw [List.reverse_append, List.reverse_singleton, List.singleton_append, idx_ne (Ne.symm ha)]
  have ek : (ks ++ [k]).reverse.idxOf k = 0 := by rw [List.reverse_append, List.reverse_singleton, List.singleton_append, List.idxOf_cons_self]
  rw [List.pairwise_append]
  refine ⟨h.imp_of_mem fun {a b} ha hb hab => ?_, by simp, fun a ha b hb => ?_⟩
  · rw [e a (fun z => hk (z ▸ ha)), e b (fun z => hk (z ▸ hb))]; omega
  · rw [List.mem_singleton.mp hb, ek, e a (fun z => hk (z ▸ ha))]; omega
theorem ord_step {P : Nat} {ks u : List κ} {k : κ} (nd : u.Nodup) (h : Ord ks u) : Ord (ks ++ [k]) (lruStep P u k).1 := by
  unfold lruStep
  split
  · exact ord_push (fun z => (List.Nodup.mem_erase_iff nd).mp z |>.1 rfl) (List.Pairwise.sublist List.erase_sublist h)
  · rename_i hk
    split
    · cases u with
      | nil => exact ord_push (by simp) h
      | cons a r => exact ord_push (fun z => hk (List.mem_cons_of_mem _ z)) (List.pairwise_cons.mp h).2
    · exact ord_push hk h
/-- the held key with the greatest index is the first -/
theorem ord_head {ks u : List κ} {a x : κ} {r : List κ} (h : Ord ks u) (e : u = a :: r) (hx : x ∈ u) (hm : ∀ y ∈ u, ks.reverse.idxOf y ≤ ks.reverse.idxOf x) : x = a := by
  subst e
  rcases List.mem_cons.mp hx with z | z
  · exact z
  · have := (List.pairwise_cons.mp h).1 x z
    have := hm a List.mem_cons_self
    omega
/-- the run of the rule: u, the removals, the places of fetches -/
def lruAt (P : Nat) (ks : List κ) : Nat → List κ × List (Option κ) × List Nat
  | 0 => ([], [], [])
  | i + 1 => match ks[i]? with
    | some k => let s := lruAt P ks i; ((lruStep P s.1 k).1, s.2.1 ++ [(lruStep P s.1 k).2], if k ∈ s.1 then s.2.2 else s.2.2 ++ [i])
    | none => lruAt P ks i
theorem lruAt_s {P : Nat} {ks : List κ} {i : Nat} {k : κ} (h : ks[i]? = some k) : lruAt P ks (i + 1) = ((lruStep P (lruAt P ks i).1 k).1, (lruAt P ks i).2.1 ++ [(lruStep P (lruAt P ks i).1 k).2], if k ∈ (lruAt P ks i).1 then (lruAt P ks i).2.2 else (lruAt P ks i).2.2 ++ [i]) := by
  show (match ks[i]? with | some k => _ | none => _) = _
  rw [h]
theorem fph_at {P : Nat} (hP : 0 < P) (ks : List κ) : ∀ i, i ≤ ks.length → Fph P (lruAt P ks i).1 (psAt P ks i) (lruAt P ks i).2.2 i
  | 0, _ => fph_nil
  | i + 1, hi => by
    obtain ⟨k, ek⟩ : ∃ k, ks[i]? = some k := ⟨ks[i], by simp [Nat.lt_of_succ_le hi]⟩
    rw [lruAt_s ek, psAt_s ek]
    exact fph_step hP (fph_at hP ks i (by omega))
theorem ord_at {P : Nat} (hP : 0 < P) (ks : List κ) : ∀ i, i ≤ ks.length → Ord (ks.take i) (lruAt P ks i).1
  | 0, _ => List.Pairwise.nil
  | i + 1, hi => by
    obtain ⟨k, ek⟩ : ∃ k, ks[i]? = some k := ⟨ks[i], by simp [Nat.lt_of_succ_le hi]⟩
    rw [lruAt_s ek, take_at ek]
    exact ord_step (fph_at hP ks i (by omega)).nu (ord_at hP ks i (by omega))
theorem lru_len2 {P : Nat} (ks : List κ) : ∀ i, i ≤ ks.length → (lruAt P ks i).2.1.length = i
  | 0, _ => rfl
  | i + 1, hi => by
    obtain ⟨k, ek⟩ : ∃ k, ks[i]? = some k := ⟨ks[i], by simp [Nat.lt_of_succ_le hi]⟩
    rw [lruAt_s ek, List.length_append, lru_len2 ks i (by omega)]; rfl
/-- serving by the rule's list -/
theorem lru_serve {P : Nat} (hP : 0 < P) (ks : List κ) : ∀ i, i ≤ ks.length → ∃ hs, runM (sstep P) ([], 0) ((ks.take i).zip (lruAt P ks i).2.1) = some (hs, (lruAt P ks i).2.2.length) ∧ hs.Perm (lruAt P ks i).1
  | 0, _ => ⟨[], rfl, List.Perm.refl _⟩
  | i + 1, hi => by
    obtain ⟨k, ek⟩ : ∃ k, ks[i]? = some k := ⟨ks[i], by simp [Nat.lt_of_succ_le hi]⟩
    obtain ⟨hs, h1, h2⟩ := lru_serve hP ks i (by omega)
    have fp := fph_at hP ks i (by omega)
    have hl := lru_len2 (P := P) ks i (by omega)
    have zp : ∀ (a b : List κ) (c d : List (Option κ)), a.length = c.length → (a ++ b).zip (c ++ d) = a.zip c ++ b.zip d := fun a b c d h => List.zip_append h
    rw [lruAt_s ek, take_at ek]
    generalize lruAt P ks i = s at *
    obtain ⟨u, rs, fl⟩ := s
    simp only at *
    rw [zp _ _ _ _ (by rw [List.length_take]; omega), runM_app, h1]
    have mem : ∀ y, y ∈ hs ↔ y ∈ u := fun y => h2.mem_iff
    have nd := fp.nu
    show ∃ hs', runM (sstep P) (hs, fl.length) [(k, (lruStep P u k).2)] = _ ∧ _
    rw [runM_one]
    unfold lruStep
    by_cases hk : k ∈ u
    · rw [if_pos hk, if_pos hk]
      refine ⟨hs, by unfold sstep; simp [(mem k).mpr hk], h2.trans ?_⟩
      exact (List.perm_cons_erase hk).trans (List.perm_append_comm (l₁ := [k]))
    · have hk2 : k ∉ hs := fun z => hk ((mem k).mp z)
      rw [if_neg hk, if_neg hk]
      by_cases hp : u.length = P
      · rw [if_pos hp]
        cases u with
        | nil => simp at hp; omega
        | cons a r =>
          have ha : a ∈ hs := (mem a).mpr List.mem_cons_self
          refine ⟨hs.erase a ++ [k], ?_, ?_⟩
          · unfold sstep
            simp [hk2, ha, h2.length_eq]
            simpa using hp
          · refine List.Perm.append_right [k] ?_
            have := h2.erase a
            simpa using this
      · rw [if_neg hp]
        refine ⟨hs ++ [k], ?_, h2.append_right [k]⟩
        unfold sstep
        simp [hk2, h2.length_eq, hp]
/-- any valid list fetches at least once a phase -/
theorem low_at {P : Nat} (hP : 0 < P) {ks : List κ} {rs : List (Option κ)} {e : List κ × Nat} (hl : rs.length = ks.length) (hrun : runM (sstep P) ([], 0) (ks.zip rs) = some e) : ∀ i, i ≤ ks.length → ∃ hs n, runM (sstep P) ([], 0) ((ks.zip rs).take i) = some (hs, n) ∧ hs.Nodup ∧ hs.length ≤ P ∧ Low hs (psAt P ks i).1 n (psAt P ks i).2.length ∧ ((psAt P ks i).2 = [] → hs = [] ∧ n = 0)
  | 0, _ => ⟨[], 0, rfl, List.nodup_nil, Nat.zero_le _, ⟨Nat.le_refl _, .inr (by intro k hk; cases hk)⟩, fun _ => ⟨rfl, rfl⟩⟩
  | i + 1, hi => by
    obtain ⟨k, ek⟩ : ∃ k, ks[i]? = some k := ⟨ks[i], by simp [Nat.lt_of_succ_le hi]⟩
    obtain ⟨r, er⟩ : ∃ r, rs[i]? = some r := ⟨rs[i]'(by omega), by simp⟩
    obtain ⟨hs, n, h1, h2, h3, h4, h5⟩ := low_at hP hl hrun i (by omega)
    have ez : (ks.zip rs)[i]? = some (k, r) := by
      rw [List.getElem?_zip_eq_some]; exact ⟨ek, er⟩
    obtain ⟨⟨hs', n'⟩, g1, g2⟩ := runM_nxt hrun ez h1
    have fp := fph_at hP ks i (by omega)
    obtain ⟨p1, p2⟩ := ps_ph (P := P) (k := k) fp.z
    refine ⟨hs', n', g2, ?_, ?_, ?_, fun z => ?_⟩
    · unfold sstep at g1
      simp only at g1
      split at g1
      · split at g1 <;> cases g1; exact h2
      · rename_i hk
        split at g1
        · split at g1
          · cases g1
          · split at g1
            · cases g1
              exact List.nodup_append.mpr ⟨h2.erase _, by simp, fun a ha b hb => by rw [List.mem_singleton.mp hb]; exact fun z => hk (z ▸ List.mem_of_mem_erase ha)⟩
            · cases g1
        · split at g1
          · cases g1
            exact List.nodup_append.mpr ⟨h2, by simp, fun a ha b hb => by rw [List.mem_singleton.mp hb]; exact fun z => hk (z ▸ ha)⟩
          · cases g1
    · unfold sstep at g1
      simp only at g1
      split at g1
      · split at g1 <;> cases g1; exact h3
      · split at g1
        · split at g1
          · cases g1
          · split at g1
            · rename_i hx
              cases g1
              have := List.length_erase_of_mem hx
              have := List.length_pos_of_mem hx
              simp; omega
            · cases g1
        · split at g1
          · cases g1; simp; omega
          · cases g1
    · rw [psAt_s ek, p1, p2]
      exact low_step (st := ((psAt P ks i).1, (psAt P ks i).2.length)) h2 h3 fp.nw (fun z => h5 (List.length_eq_zero_iff.mp z)) h4 g1
    · have := (fph_at hP ks (i + 1) hi).z.mpr z
      omega
end
end Ab
namespace Ab
theorem lru_pre {κ : Type} [DecidableEq κ] {P : Nat} (ks : List κ) {i : Nat} : ∀ j, i + j ≤ ks.length → (lruAt P ks (i + j)).2.1.take i = (lruAt P ks i).2.1.take i
  | 0, _ => rfl
  | j + 1, h => by
    obtain ⟨k, ek⟩ : ∃ k, ks[i + j]? = some k := ⟨ks[i + j], by simp [show i + j < ks.length by omega]⟩
    have hl := lru_len2 (P := P) ks (i + j) (by omega)
    rw [← Nat.add_assoc, lruAt_s ek, List.take_append_of_le_length (by omega)]
    exact lru_pre ks j (by omega)
theorem lru_out {κ : Type} [DecidableEq κ] {P : Nat} (ks : List κ) {i : Nat} (hi : i < ks.length) : (lruAt P ks ks.length).2.1[i]? = some (lruStep P (lruAt P ks i).1 (ks[i])).2 := by
  obtain ⟨j, hj⟩ : ∃ j, ks.length = (i + 1) + j := ⟨ks.length - (i + 1), by omega⟩
  have h := lru_pre (P := P) ks (i := i + 1) j (by omega)
  rw [← hj] at h
  have ek : ks[i]? = some ks[i] := by simp [hi]
  have hl := lru_len2 (P := P) ks i (by omega)
  have e1 : ((lruAt P ks ks.length).2.1.take (i + 1))[i]? = (lruAt P ks ks.length).2.1[i]? := List.getElem?_take_of_lt (by omega)
  rw [← e1, h, lruAt_s ek, List.getElem?_take_of_lt (by omega), List.getElem?_append_right (by omega), hl, Nat.sub_self]
  rfl
end Ab
namespace Ab
open PySem PySem.Spec PyProof.Rows L2
theorem eqNil {n : Nat} {L : List D} {M : Mh} {p : Addr} {A B : Prop} (hn : n ≤ 50) (hp : M p = some (.lst L)) (h : ∀ d ∈ L, LtN n d) (h1 : L = [] → A) (h2 : L ≠ [] → B) :
    asPy (.ref p) M fun a => asPy (.lst []) M fun b => SeqAt.shaped a = true ∧ SeqAt.shaped b = true ∧ if a.eqv b = true then A else B := by
  obtain ⟨xs, e, c, dd⟩ := lt_all h
  have s : SeqAt.shaped (.list xs) = true := lt_sh (n := n + 1) (by omega) c (by show PyData.depthAll xs + 1 ≤ n + 1; omega)
  show mL M p fun ds => ∃ xs, dPs ds = some xs ∧ _
  rw [mL_of hp]
  refine ⟨xs, e, .list [], rfl, s, by decide +kernel, ?_⟩
  cases L with
  | nil =>
    have : xs = [] := by
      have e0 : dPs [] = some [] := rfl
      rw [e0] at e; exact (Option.some.inj e).symm
    subst this
    rw [if_pos (by rfl)]
    exact h1 rfl
  | cons d L =>
    cases xs with
    | nil =>
      unfold dPs at e
      split at e <;> cases e
    | cons x xs =>
      rw [if_neg (by intro z; cases z)]
      exact h2 (by simp)
theorem lru_sub {κ : Type} [DecidableEq κ] {P : Nat} {ks : List κ} : ∀ i, ∀ y ∈ (lruAt P ks i).1, y ∈ ks
  | 0, y, hy => by cases hy
  | i + 1, y, hy => by
    cases e : ks[i]? with
    | none =>
      have : lruAt P ks (i + 1) = lruAt P ks i := by show (match ks[i]? with | some k => _ | none => _) = _; rw [e]
      rw [this] at hy
      exact lru_sub i y hy
    | some k =>
      rw [lruAt_s e] at hy
      have ih := lru_sub (P := P) (ks := ks) i
      have hk := List.mem_of_getElem? e
      simp only [lruStep] at hy
      split at hy
      · rcases List.mem_append.mp hy with z | z
        · exact ih y (List.mem_of_mem_erase z)
        · rw [List.mem_singleton.mp z]; exact hk
      · split at hy
        · split at hy
          · rw [List.mem_singleton.mp hy]; exact hk
          · rename_i a r q
            rcases List.mem_append.mp hy with z | z
            · exact ih y (by rw [q]; exact List.mem_cons_of_mem _ z)
            · rw [List.mem_singleton.mp z]; exact hk
        · rcases List.mem_append.mp hy with z | z
          · exact ih y z
          · rw [List.mem_singleton.mp z]; exact hk
end Ab
namespace Ab
theorem ps_len1 {κ : Type} [DecidableEq κ] {P : Nat} (ks : List κ) : ∀ i, i ≤ ks.length → (psAt P ks i).1.length ≤ i
  | 0, _ => Nat.le_refl _
  | i + 1, hi => by
    obtain ⟨k, ek⟩ : ∃ k, ks[i]? = some k := ⟨ks[i], by simp [Nat.lt_of_succ_le hi]⟩
    have := ps_len1 (P := P) ks i (by omega)
    rw [psAt_s ek]
    unfold psStep
    split
    · simp
    · simp only
      split
      · omega
      · simp; omega
theorem ps_len2 {κ : Type} [DecidableEq κ] {P : Nat} (ks : List κ) : ∀ i, i ≤ ks.length → (psAt P ks i).2.length ≤ i
  | 0, _ => Nat.le_refl _
  | i + 1, hi => by
    obtain ⟨k, ek⟩ : ∃ k, ks[i]? = some k := ⟨ks[i], by simp [Nat.lt_of_succ_le hi]⟩
    have := ps_len2 (P := P) ks i (by omega)
    rw [psAt_s ek]
    unfold psStep
    split
    · simp; omega
    · simp only; omega
end Ab
namespace Ab
theorem lru_len3 {κ : Type} [DecidableEq κ] {P : Nat} (ks : List κ) : ∀ i, i ≤ ks.length → (lruAt P ks i).2.2.length ≤ i
  | 0, _ => Nat.le_refl _
  | i + 1, hi => by
    obtain ⟨k, ek⟩ : ∃ k, ks[i]? = some k := ⟨ks[i], by simp [Nat.lt_of_succ_le hi]⟩
    have := lru_len3 (P := P) ks i (by omega)
    rw [lruAt_s ek]
    simp only
    split
    · omega
    · simp; omega
end Ab

set_option Elab.async false
set_option linter.all false
set_option maxRecDepth 100000
set_option maxHeartbeats 4000000
namespace Ab
section
variable {κ : Type} [DecidableEq κ]
/-! ### the exchange: the farthest rule fetches least -/
/-- how many of H are used next before t -/
def nx (r H : List κ) (t : Nat) : Nat := H.countP fun x => decide (r.idxOf x < t)
theorem nx_out {k : κ} {r H : List κ} {t : Nat} (h : k ∉ H) : nx (k :: r) H (t + 1) = nx r H t := by
  unfold nx
  refine List.countP_congr fun x hx => ?_
  have : k ≠ x := fun z => h (z ▸ hx)
  rw [idx_ne this]
  simp
theorem nx_erase {r H : List κ} {y : κ} {t : Nat} (h : y ∈ H) : nx r H t = nx r (H.erase y) t + if r.idxOf y < t then 1 else 0 := by
  unfold nx
  rw [(List.perm_cons_erase h).countP_eq, List.countP_cons]
  simp
theorem nx_app {r H : List κ} {y : κ} {t : Nat} : nx r (H ++ [y]) t = nx r H t + if r.idxOf y < t then 1 else 0 := by
  unfold nx
  rw [List.countP_append, List.countP_singleton]
  simp
theorem nx_le {r H : List κ} {t : Nat} : nx r H t ≤ H.length := List.countP_le_length
theorem nx_all {r H : List κ} {t : Nat} (h : ∀ y ∈ H, r.idxOf y < t) : nx r H t = H.length := by
  unfold nx
  exact List.countP_eq_length.mpr fun y hy => by simpa using h y hy
structure Exch (P : Nat) (r H O : List κ) (n m : Nat) : Prop where
  nH : H.Nodup
  nO : O.Nodup
  len : H.length = O.length
  le : H.length ≤ P
  eq : H.length < P → ∀ x, x ∈ O ↔ x ∈ H
  lt : ∀ t, t ≤ r.length → nx r O t + n ≤ nx r H t + m
/-- what a step does -/
theorem ss_cases {P : Nat} {H H' : List κ} {n n' : Nat} {k : κ} {x : Option κ} (h : sstep P (H, n) (k, x) = some (H', n')) :
    (k ∈ H ∧ H' = H ∧ n' = n) ∨ (k ∉ H ∧ n' = n + 1 ∧ ((H.length = P ∧ ∃ a ∈ H, x = some a ∧ H' = H.erase a ++ [k]) ∨ (H.length ≠ P ∧ H' = H ++ [k]))) := by
  unfold sstep at h
  simp only at h
  split at h
  · rename_i hk
    split at h <;> cases h
    exact .inl ⟨hk, rfl, rfl⟩
  · rename_i hk
    split at h
    · rename_i hp
      split at h
      · cases h
      · split at h
        · rename_i ha
          cases h
          exact .inr ⟨hk, rfl, .inl ⟨by first | exact hp | simpa using hp, _, ha, rfl, rfl⟩⟩
        · cases h
    · rename_i hp
      split at h
      · cases h
        exact .inr ⟨hk, rfl, .inr ⟨by first | exact hp | simpa using hp, rfl⟩⟩
      · cases h
theorem nd_push {H : List κ} {k : κ} (h : H.Nodup) (hk : k ∉ H) : (H ++ [k]).Nodup := List.nodup_append.mpr ⟨h, by simp, fun a ha b hb => by rw [List.mem_singleton.mp hb]; exact fun z => hk (z ▸ ha)⟩
theorem nx_in {k : κ} {r H : List κ} {t : Nat} (nd : H.Nodup) (h : k ∈ H) : nx (k :: r) H (t + 1) + (if r.idxOf k < t then 1 else 0) = nx r H t + 1 := by
  have hk : k ∉ H.erase k := fun z => ((List.Nodup.mem_erase_iff nd).mp z).1 rfl
  rw [nx_erase h, nx_out hk, nx_erase (r := r) h, List.idxOf_cons_self, if_pos (by omega)]
  omega
theorem ex_step {P : Nat} (hP : 0 < P) {k : κ} {r H O H' O' : List κ} {n m n' m' : Nat} {x y : Option κ} (e : Exch P (k :: r) H O n m)
    (far : ∀ a, x = some a → k ∉ H → H.length = P → ∀ z ∈ H, (k :: r).idxOf z ≤ (k :: r).idxOf a)
    (h1 : sstep P (H, n) (k, x) = some (H', n')) (h2 : sstep P (O, m) (k, y) = some (O', m')) : Exch P r H' O' n' m' := by
  obtain ⟨nH, nO, len, le, eq, lt⟩ := e
  have lt1 : ∀ t, t ≤ r.length → nx (k :: r) O (t + 1) + n ≤ nx (k :: r) H (t + 1) + m := fun t ht => lt (t + 1) (by simpa using ht)
  have psh : ∀ {L : List κ} {a : κ}, L.Nodup → k ∉ L → (L.erase a ++ [k]).Nodup := fun h hk => nd_push (h.erase _) (fun z => hk (List.mem_of_mem_erase z))
  have ler : ∀ {L : List κ} {a : κ}, a ∈ L → (L.erase a ++ [k]).length = L.length := fun {L a} ha => by
    have := List.length_erase_of_mem ha
    have := List.length_pos_of_mem ha
    simp; omega
  rcases ss_cases h1 with ⟨kH, rfl, rfl⟩ | ⟨kH, rfl, c1⟩
  · rcases ss_cases h2 with ⟨kO, rfl, rfl⟩ | ⟨kO, rfl, c2⟩
    · refine ⟨nH, nO, len, le, eq, fun t ht => ?_⟩
      have a := lt1 t ht
      have b := nx_in (r := r) (t := t) nH kH
      have c := nx_in (r := r) (t := t) nO kO
      omega
    · rcases c2 with ⟨hp, a, ha, rfl, rfl⟩ | ⟨hp, rfl⟩
      · refine ⟨nH, psh nO kO, by rw [ler ha, len], le, fun z => by omega, fun t ht => ?_⟩
        have a1 := lt1 t ht
        have b := nx_in (r := r) (t := t) nH kH
        rw [nx_out kO, nx_erase ha] at a1
        rw [nx_app]
        omega
      · exact absurd ((eq (by omega) k).mpr kH) kO
  · rcases ss_cases h2 with ⟨kO, rfl, rfl⟩ | ⟨kO, rfl, c2⟩
    · rcases c1 with ⟨hp, a, ha, rfl, rfl⟩ | ⟨hp, rfl⟩
      · refine ⟨psh nH kH, nO, by rw [ler ha, len], by rw [ler ha]; exact le, fun z => by rw [ler ha] at z; omega, fun t ht => ?_⟩
        have a0 := lt1 0 (by omega)
        have b0 := nx_in (r := r) (t := 0) nO kO
        rw [nx_out kH] at a0
        have z0 : nx r H 0 = 0 := by unfold nx; simp
        have a1 := lt1 t ht
        have b := nx_in (r := r) (t := t) nO kO
        rw [nx_out kH] at a1
        have fz := far a rfl kH hp
        rw [nx_app]
        have c := nx_erase (r := r) (t := t) ha
        by_cases g : r.idxOf a < t
        · have hall : nx r H t = H.length := nx_all fun z hz => by
            have := fz z hz
            rw [idx_ne (x := k) (y := z) (fun q => kH (q ▸ hz)), idx_ne (x := k) (y := a) (fun q => kH (q ▸ ha))] at this
            omega
          have l1 := nx_le (r := r) (H := O') (t := t)
          rw [if_pos g] at c
          have l2 : nx (k :: r) O' (t + 1) ≤ O'.length := nx_le
          rw [if_neg (by omega)] at b0
          omega
        · rw [if_neg g] at c
          omega
      · exact absurd ((eq (by omega) k).mp kO) kH
    · rcases c1 with ⟨hp, a, ha, rfl, rfl⟩ | ⟨hp, rfl⟩
      · rcases c2 with ⟨hq, b, hb, rfl, rfl⟩ | ⟨hq, rfl⟩
        · refine ⟨psh nH kH, psh nO kO, by rw [ler ha, ler hb, len], by rw [ler ha]; exact le, fun z => by rw [ler ha] at z; omega, fun t ht => ?_⟩
          have a1 := lt1 t ht
          have a0 := lt1 0 (by omega)
          rw [nx_out kH, nx_out kO] at a1 a0
          have z0 : ∀ L : List κ, nx r L 0 = 0 := fun L => by unfold nx; simp
          rw [z0, z0] at a0
          have fz := far a rfl kH hp
          rw [nx_app, nx_app]
          have c := nx_erase (r := r) (t := t) ha
          have d := nx_erase (r := r) (t := t) hb
          by_cases g : r.idxOf a < t
          · have hall : nx r H t = H.length := nx_all fun z hz => by
              have := fz z hz
              rw [idx_ne (x := k) (y := z) (fun q => kH (q ▸ hz)), idx_ne (x := k) (y := a) (fun q => kH (q ▸ ha))] at this
              omega
            have l1 := nx_le (r := r) (H := O.erase b) (t := t)
            have l3 := List.length_erase_of_mem hb
            have l4 := List.length_pos_of_mem hb
            rw [if_pos g] at c
            split at d <;> omega
          · rw [if_neg g] at c
            split at d <;> omega
        · omega
      · rcases c2 with ⟨hq, b, hb, rfl, rfl⟩ | ⟨hq, rfl⟩
        · omega
        · refine ⟨nd_push nH kH, nd_push nO kO, by simp [len], by simp; omega, fun z w => ?_, fun t ht => ?_⟩
          · have := eq (by omega) w
            simp [this]
          · have a1 := lt1 t ht
            rw [nx_out kH, nx_out kO] at a1
            rw [nx_app, nx_app]
            omega
theorem ex_run {P : Nat} (hP : 0 < P) : ∀ {ks : List κ} {rs os : List (Option κ)} {H O : List κ} {n m : Nat} {e f : List κ × Nat}, Exch P ks H O n m → rs.length = ks.length → os.length = ks.length →
    (∀ i H1 n1, runM (sstep P) (H, n) ((ks.zip rs).take i) = some (H1, n1) → ∀ k a, ks[i]? = some k → rs[i]? = some (some a) → ∀ z ∈ H1, (ks.drop i).idxOf z ≤ (ks.drop i).idxOf a) →
    runM (sstep P) (H, n) (ks.zip rs) = some e → runM (sstep P) (O, m) (ks.zip os) = some f → e.2 ≤ f.2
  | [], rs, os, H, O, n, m, e, f, ex, hr, ho, far, h1, h2 => by
    have e1 : e = (H, n) := by
      have : rs = [] := List.length_eq_zero_iff.mp hr
      subst this; exact (Option.some.inj h1).symm
    have e2 : f = (O, m) := by
      have : os = [] := List.length_eq_zero_iff.mp ho
      subst this; exact (Option.some.inj h2).symm
    have := ex.lt 0 (Nat.zero_le _)
    have z0 : ∀ L : List κ, nx [] L 0 = 0 := fun L => by unfold nx; simp
    rw [z0, z0] at this
    rw [e1, e2]
    show n ≤ m
    omega
  | k :: ks, rs, os, H, O, n, m, e, f, ex, hr, ho, far, h1, h2 => by
    cases rs with
    | nil => cases hr
    | cons x rs =>
    cases os with
    | nil => cases ho
    | cons y os =>
    have g1 : runM (sstep P) (H, n) ([(k, x)] ++ ks.zip rs) = some e := h1
    have g2 : runM (sstep P) (O, m) ([(k, y)] ++ ks.zip os) = some f := h2
    rw [runM_app, runM_one] at g1 g2
    cases q1 : sstep P (H, n) (k, x) with
    | none => rw [q1] at g1; cases g1
    | some s1 =>
    cases q2 : sstep P (O, m) (k, y) with
    | none => rw [q2] at g2; cases g2
    | some s2 =>
    obtain ⟨H', n'⟩ := s1
    obtain ⟨O', m'⟩ := s2
    rw [q1] at g1
    rw [q2] at g2
    refine ex_run hP (ex_step hP ex (fun a ha hk hp z hz => ?_) q1 q2) (by simpa using hr) (by simpa using ho) (fun i H1 n1 hi j a hj ha z hz => ?_) g1 g2
    · exact far 0 H n rfl k a rfl (by rw [ha]; rfl) z hz
    · refine far (i + 1) H1 n1 ?_ j a hj ha z hz
      show runM (sstep P) (H, n) ([(k, x)] ++ (ks.zip rs).take i) = _
      rw [runM_app, runM_one, q1]
      exact hi
theorem ex_nil {P : Nat} {ks : List κ} : Exch P ks ([] : List κ) [] 0 0 := ⟨List.nodup_nil, List.nodup_nil, rfl, Nat.zero_le _, fun _ x => Iff.rfl, fun t _ => Nat.le_refl _⟩
end
end Ab

set_option Elab.async false
set_option linter.all false
set_option maxRecDepth 100000
set_option maxHeartbeats 4000000
namespace Ab
open PySem PySem.Spec PyProof.Rows L2
section
variable {κ : Type} [DecidableEq κ]
theorem srun_ok {P : Nat} : ∀ {l : List (κ × Option κ)} {hs H : List κ} {n m : Nat}, runM (sstep P) (hs, n) l = some (H, m) → hs.Nodup → hs.length ≤ P → H.Nodup ∧ H.length ≤ P ∧ ∀ y ∈ H, y ∈ hs ∨ y ∈ l.map Prod.fst
  | [], hs, H, n, m, h, nd, hl => by cases h; exact ⟨nd, hl, fun y hy => .inl hy⟩
  | (k, x) :: l, hs, H, n, m, h, nd, hl => by
    rw [runM_cons] at h
    cases q : sstep P (hs, n) (k, x) with
    | none => rw [q] at h; cases h
    | some s1 =>
      obtain ⟨hs1, n1⟩ := s1
      rw [q] at h
      have key : hs1.Nodup ∧ hs1.length ≤ P ∧ ∀ y ∈ hs1, y ∈ hs ∨ y = k := by
        rcases ss_cases q with ⟨kH, rfl, rfl⟩ | ⟨kH, rfl, ⟨hp, a, ha, rfl, rfl⟩ | ⟨hp, rfl⟩⟩
        · exact ⟨nd, hl, fun y hy => .inl hy⟩
        · refine ⟨nd_push (nd.erase a) (fun z => kH (List.mem_of_mem_erase z)), ?_, fun y hy => ?_⟩
          · have := List.length_erase_of_mem ha
            have := List.length_pos_of_mem ha
            simp; omega
          · rcases List.mem_append.mp hy with z | z
            · exact .inl (List.mem_of_mem_erase z)
            · exact .inr (List.mem_singleton.mp z)
        · refine ⟨nd_push nd kH, by simp; omega, fun y hy => ?_⟩
          rcases List.mem_append.mp hy with z | z
          · exact .inl z
          · exact .inr (List.mem_singleton.mp z)
      obtain ⟨a1, a2, a3⟩ := srun_ok (l := l) h key.1 key.2.1
      refine ⟨a1, a2, fun y hy => ?_⟩
      rcases a3 y hy with z | z
      · rcases key.2.2 y z with w | w
        · exact .inl w
        · exact .inr (by rw [w]; exact List.mem_cons_self)
      · exact .inr (List.mem_cons_of_mem _ z)
/-- a valid run over w holds t, v fetches -/
def Rc (P : Nat) (w t : List κ) (v : Int) : Prop := ∃ os H, ∃ n : Nat, os.length = w.length ∧ runM (sstep P) ([], 0) (w.zip os) = some (H, n) ∧ t.Perm H ∧ v = n
theorem Rc.nil {P : Nat} : Rc P ([] : List κ) [] 0 := ⟨[], [], 0, rfl, rfl, List.Perm.refl _, rfl⟩
theorem Rc.ok {P : Nat} {w t : List κ} {v : Int} (h : Rc P w t v) : t.Nodup ∧ t.length ≤ P ∧ ∀ y ∈ t, y ∈ w := by
  obtain ⟨os, H, n, hl, hr, pm, _⟩ := h
  obtain ⟨a, b, c⟩ := srun_ok hr List.nodup_nil (Nat.zero_le _)
  refine ⟨pm.symm.nodup a, by rw [pm.length_eq]; exact b, fun y hy => ?_⟩
  rcases c y (pm.mem_iff.mp hy) with z | z
  · cases z
  · obtain ⟨p, hp, e⟩ := List.mem_map.mp z
    obtain ⟨p1, p2⟩ := p
    have := (List.of_mem_zip hp).1
    exact e ▸ this
theorem zip_snoc2 {A B : Type} {a : List A} {b : List B} {x : A} {y : B} (h : b.length = a.length) : (a ++ [x]).zip (b ++ [y]) = a.zip b ++ [(x, y)] := by
  rw [List.zip_append h.symm]; rfl
theorem Rc.push {P : Nat} {w t t2 : List κ} {v v2 : Int} {k : κ} (h : Rc P w t v) (x : Option κ) (hs : ∀ H n, t.Perm H → v = (n : Nat) → ∃ H2, ∃ n2 : Nat, sstep P (H, n) (k, x) = some (H2, n2) ∧ t2.Perm H2 ∧ v2 = n2) : Rc P (w ++ [k]) t2 v2 := by
  obtain ⟨os, H, n, hl, hr, pm, e⟩ := h
  obtain ⟨H2, n2, h1, h2, h3⟩ := hs H n pm e
  refine ⟨os ++ [x], H2, n2, by simp [hl], ?_, h2, h3⟩
  rw [zip_snoc2 hl, runM_app, hr]
  exact runM_one.trans h1
theorem rc_hit {P : Nat} {w t : List κ} {v : Int} {k : κ} (h : Rc P w t v) (hk : k ∈ t) : Rc P (w ++ [k]) t v :=
  h.push none fun H n pm e => ⟨H, n, by unfold sstep; simp [pm.mem_iff.mp hk], pm, e⟩
theorem rc_add {P : Nat} {w t ys : List κ} {v : Int} {k : κ} (h : Rc P w t v) (hk : k ∉ t) (hl : t.length < P) (pm2 : ys.Perm (t ++ [k])) : Rc P (w ++ [k]) ys (v + 1) :=
  h.push none fun H n pm e => ⟨H ++ [k], n + 1, by
    have h1 : k ∉ H := fun z => hk (pm.mem_iff.mpr z)
    have h2 : ¬ H.length = P := by rw [← pm.length_eq]; omega
    unfold sstep; simp [h1, h2], pm2.trans (pm.append_right [k]), by omega⟩
theorem filt_erase {t : List κ} {r : κ} (nt : t.Nodup) : t.filter (fun y => decide (y ≠ r)) = t.erase r := by
  rw [List.Nodup.erase_eq_filter nt]
  refine List.filter_congr fun x _ => ?_
  by_cases e : x = r <;> simp [e]
theorem rc_rep {P : Nat} {w t ys : List κ} {v : Int} {k r : κ} (h : Rc P w t v) (hk : k ∉ t) (hl : ¬ t.length < P) (hr : r ∈ t) (pm2 : ys.Perm (t.filter (fun y => decide (y ≠ r)) ++ [k])) : Rc P (w ++ [k]) ys (v + 1) := by
  have ok := h.ok
  rw [filt_erase ok.1] at pm2
  refine h.push (some r) fun H n pm e => ⟨H.erase r ++ [k], n + 1, ?_, pm2.trans ((pm.erase r).append_right [k]), by omega⟩
  have h1 : k ∉ H := fun z => hk (pm.mem_iff.mpr z)
  have h2 : H.length = P := by rw [← pm.length_eq]; omega
  have h3 : r ∈ H := pm.mem_iff.mp hr
  unfold sstep; simp [h1, h2, h3]
structure Dq (P : Nat) (w : List Str) (l : List (List Str × Int)) : Prop where
  nd : (l.map Prod.fst).Nodup
  tr : ∀ p ∈ l, Rc P w p.1 p.2
theorem Dq.nil {P : Nat} {w : List Str} : Dq P w [] := ⟨List.nodup_nil, fun p hp => by cases hp⟩
theorem Dq.len {P : Nat} {w : List Str} {l : List (List Str × Int)} (h : Dq P w l) (hP : P ≤ 3) (hw : w.length ≤ 12) : l.length ≤ 1885 := by
  have := few_lists hw h.nd fun t ht => by
    obtain ⟨p, hp, e⟩ := List.mem_map.mp ht
    have q := (h.tr p hp).ok
    rw [e] at q
    exact ⟨by omega, q.2.2⟩
  rwa [List.length_map] at this
def mnW (l : List (List Str × Int)) (t : List Str) (v : Int) : Int := if v < (vK l t).getD v then v else (vK l t).getD v
theorem Dq.put {P : Nat} {w : List Str} {l : List (List Str × Int)} (h : Dq P w l) {t : List Str} {v x : Int} (ht : Rc P w t v) (hx : x = v ∨ vK l t = some x) : Dq P w (pK l t x) := by
  refine ⟨pK_nodup h.nd _ _, fun p hp => ?_⟩
  rcases pK_mem hp with e | e
  · subst e
    rcases hx with e | e
    · subst e; exact ht
    · exact h.tr (t, x) (vK_mem e)
  · exact h.tr p e
/-- l has t with at most v -/
def Hz (l : List (List Str × Int)) (H : List Str) (v : Int) : Prop := ∃ t u, vK l t = some u ∧ t.Perm H ∧ u ≤ v
theorem Hz.put {l : List (List Str × Int)} {H t : List Str} {v x : Int} (h : Hz l H v) (hx : ∀ u, vK l t = some u → x ≤ u) : Hz (pK l t x) H v := by
  obtain ⟨t2, u, h1, h2, h3⟩ := h
  by_cases e : t2 = t
  · subst e
    exact ⟨t2, x, by rw [vK_put, if_pos rfl], h2, Int.le_trans (hx u h1) h3⟩
  · exact ⟨t2, u, by rw [vK_put, if_neg e]; exact h1, h2, h3⟩
theorem Hz.new {l : List (List Str × Int)} {H t : List Str} {v x : Int} (pm : t.Perm H) (hx : x ≤ v) : Hz (pK l t x) H v := ⟨t, x, by rw [vK_put, if_pos rfl], pm, hx⟩
/-- what the good entry's options are -/
theorem best_opts {P : Nat} {H H2 t : List Str} {n n2 : Nat} {k : Str} {x : Option Str} {v : Int} (nt : t.Nodup) (hs : sstep P (H, n) (k, x) = some (H2, n2)) (pm : t.Perm H) (hv : v ≤ n) :
    (k ∈ t ∧ t.Perm H2 ∧ v ≤ n2) ∨ (k ∉ t ∧ v + 1 ≤ n2 ∧ ((t.length = P ∧ ∃ a ∈ t, x = some a ∧ (t.filter (fun y => decide (y ≠ a)) ++ [k]).Perm H2) ∨ (t.length ≠ P ∧ (t ++ [k]).Perm H2))) := by
  rcases ss_cases hs with ⟨kH, rfl, rfl⟩ | ⟨kH, rfl, ⟨hp, a, ha, rfl, rfl⟩ | ⟨hp, rfl⟩⟩
  · exact .inl ⟨pm.mem_iff.mpr kH, pm, hv⟩
  · refine .inr ⟨fun z => kH (pm.mem_iff.mp z), by omega, .inl ⟨by rw [pm.length_eq]; exact hp, a, pm.mem_iff.mpr ha, rfl, ?_⟩⟩
    rw [filt_erase nt]
    exact (pm.erase a).append_right [k]
  · exact .inr ⟨fun z => kH (pm.mem_iff.mp z), by omega, .inr ⟨by rw [pm.length_eq]; exact hp, pm.append_right [k]⟩⟩
end
end Ab

set_option Elab.async false
set_option linter.all false
set_option maxRecDepth 100000
set_option maxHeartbeats 4000000
namespace Ab
open PySem PySem.Spec PyProof.Rows L2
section
variable {X : Cx}
/-- sorted of a tuple of texts -/
def rSortedTS (K : PySem.W.Frag) : List V → Hp → VK → Prop := fun vs H Q => ∃ (a : Addr) (xs : List Str), vs = [V.ref a] ∧ SqT K H a (xs.map V.str) ∧ xs.length < 64 ∧
  ∀ (ys : List Str) (p : Addr), ys.Perm xs → sortedS ys = true → H p = none → Q (.ref p) (upd H p (.lst (ys.map V.str)))
theorem cr_sortedTS : CallR X (.builtin "sorted") (rSortedTS X.K) := by
  intro pins s σ H xs us Q I r q
  obtain ⟨a, ks, ex, hd, h64, q⟩ := q
  subst ex
  obtain ⟨u, eu, rx⟩ := vals1 r
  subst eu
  cases rx
  obtain ⟨its, rv, pl, hz⟩ := I.tuple hd
  have hS : StrsAre its ks := rv.strs
  have hal : its.length = ks.length := by have := rv.length; rw [List.length_map] at this; exact this.symm
  obtain ⟨o, ho, hc, n, hdt⟩ := pl
  refine Calls.call_function_entry PyProof.Rows.kind_sorted PyProof.Rows.plain_sorted PyProof.Rows.entry_sorted (PyProof.Rows.args_sorted1 _) ?_
  unfold Builtin.«sorted»
  refine wpAny_bind (m := checkCount "sorted" 1 1 _) (wpAny_pure ?_)
  refine wpAny_bind (wpAny_collect_seq a (.inr rfl) ho hc hdt (fun h' hk => ?_) (by simp only [List.size_toArray]; rw [hal, sizeLine_eq]; omega))
  have I1 : Inv X pins σ H { s with heap := h' } := I.kept (t' := s.toks) hk
  refine wpAny_bind (wpAny_newList ?_ (by simp only []; rw [hal, sizeLine_eq]; omega))
  have hoL : (h'.push (seqObj "list" its.toArray 0)).get? h'.objs.size = some (seqObj "list" its.toArray 0) := Heap.get?_push_size _ rfl
  show wpAny _ _ _ _ _ { s with heap := h'.push (seqObj "list" its.toArray 0) }
  refine wpAny_bind (wpAny_holding (wpAny_call_entry PyProof.Rows.slot_list_sort ⟨_, hoL, rfl⟩ PyProof.Rows.entry_list_sort
    (list_sort_treeK strKind_oneLt (s := { s with heap := h'.push (seqObj "list" its.toArray 0) }) hoL hS.keysOf (fun v₁ v₂ rest e => keyKind_strs (by rw [← e]; exact hS)) (by rw [hal]; exact h64) fun st' hp hs => ⟨_, rfl, ?_⟩)
    (PyProof.Rows.args_list_sort _)))
  obtain ⟨ys, g1, g2, g3⟩ := sorted_out_str hS hp hs
  obtain ⟨e', he'⟩ := PyProof.Rows.sortedHeap_at (vs := its) (out := (arrOf st').map (·.2)) hoL
  have hlen : (ys.map V.str).length ≤ sizeLine := by
    rw [List.length_map, g2.length_eq]
    exact Nat.le_trans (Nat.le_of_lt h64) (by decide)
  refine wpAny_pure ⟨_, rfl, .ref h'.objs.size, upd H h'.objs.size (.lst (ys.map V.str)), I1.laid (t' := s.toks) (fun b u e => ?_) (Nat.le_refl _)
    (show ObjOk X.prog X.w _ _ _ (.lst (ys.map V.str)) from ⟨hlen, ((arrOf st').map (·.2)).toList, e', vals_of_strs g1, by rw [Array.toArray_toList]; exact he'⟩), rfl, q ys _ g2 g3 (I1.hok.fresh (Nat.le_refl _))⟩
  have hb : b < h'.objs.size := Heap.lt_size e
  rw [PyProof.Rows.sortedHeap_old (Nat.ne_of_lt hb) (by rw [size_push']; exact Nat.lt_succ_of_lt hb)]
  exact Heap.get?_push_of_some _ e
end
section
variable {K : PySem.W.Frag} {T : Tt}
def bSortTS : XB K T where
  r := rSortedTS K
  w := fun ds M Φ => arg1 ds fun d => asT d fun es => asTx es fun xs => xs.length < 64 ∧ ∀ ys : List Str, ys.Perm xs → PyProof.Rows.sortedS ys = true → Φ (.lst (ys.map D.str)) M
  ok := fun h P H vs wr r Q hq => by
    obtain ⟨d, rfl, h1⟩ := h.get
    obtain ⟨v, rfl, r1⟩ := r.one
    obtain ⟨es, rfl, h2⟩ := h1.get
    obtain ⟨a, us, rfl, hs, hr⟩ := r1.toT
    unfold asTx at h2
    cases e : txts es with
    | none => rw [e] at h2; exact h2.elim
    | some xs =>
      rw [e] at h2
      have e2 := txts_rep hr e
      subst e2
      exact ⟨a, xs, rfl, wr.st hs, h2.1, fun ys p pm so hp => let s := Step.newP wr (o := .lst (ys.map V.str)) hp; hq _ _ _ _ _ (h2.2 ys pm so) s (.lst upd_same (repL_txts ys))⟩
end
end Ab

set_option Elab.async false
set_option linter.all false
set_option maxRecDepth 100000
set_option maxHeartbeats 4000000
namespace Ab
open PySem PySem.Spec PyProof.Rows L2
section
variable {K : PySem.W.Frag} {T : Tt}
/-! ### a comprehension with two generators -/
def NoX : XP := fun _ _ _ _ => False
def lc2W (it : XI K T) (g : CG) (q : XT K T) (it1 : XI K T) (g1 : CG) (q1 : XT K T) (e : XE K T) (ρ : Sl) (M : Mh) (F : List D → Mh → Prop) (Ξ : XP) : Prop :=
  it.w ρ M (fun ds St M1 => ∃ I : Nat → List D → Mh → Prop, I 0 [] M1 ∧ (∀ i acc M', I i acc M' → St M') ∧
    (∀ i d acc M', ds[i]? = some d → I i acc M' → g.w d (wipeD ρ (g.slots ++ g1.slots)) fun ρ2 => q.w ρ2 M' (fun b M2 => if b = true then
      it1.w ρ2 M2 (fun ds1 St1 M3 => ∃ I1 : Nat → List D → Mh → Prop, I1 0 acc M3 ∧ (∀ j acc M', I1 j acc M' → St1 M') ∧
        (∀ j d acc M', ds1[j]? = some d → I1 j acc M' → acc.length < 100000 ∧ g1.w d (wipeD ρ2 g1.slots) fun ρ3 => q1.w ρ3 M' (fun b M5 => if b = true then e.w ρ3 M5 (fun y M6 => I1 (j + 1) (acc ++ [y]) M6) NoX else I1 (j + 1) acc M5) NoX) ∧
        (∀ acc M', I1 ds1.length acc M' → I (i + 1) acc M')) NoX
      else I (i + 1) acc M2) NoX) ∧
    (∀ acc M', I ds.length acc M' → F acc M')) Ξ
theorem noX_h {P : Hp} {M : Mh} {H : Hp} : XH K T WX0 P M H NoX := fun _ _ _ _ _ _ _ z _ _ => z.elim
theorem wipe_in {σ σ4 : L2.St} {vs js : List Nat} (hsub : ∀ j ∈ js, j ∈ vs) (hl : σ4.length = (L2.wipe σ vs).length) (hk : ∀ j, j ∉ js → σ4[j]? = (L2.wipe σ vs)[j]?) : L2.wipe σ4 vs = L2.wipe σ vs := by
  have q1 : L2.wipe σ4 vs = L2.wipe (L2.wipe σ vs) vs := wipe_eq hl fun k hk2 => hk k fun z => hk2 (hsub k z)
  have q2 : L2.wipe (L2.wipe σ vs) vs = L2.wipe σ vs := wipe_eq (wipe_length σ vs) fun k hk => wipe_out hk
  rw [q1, q2]
theorem lc2_ok {it : XI K T} {g : CG} {q : XT K T} {it1 : XI K T} {g1 : CG} {q1 : XT K T} {e : XE K T} {ρ : Sl} {M : Mh} {F : List D → Mh → Prop} {Ξ : XP} {W : WX} (h : lc2W it g q it1 g1 q1 e ρ M F Ξ) {P : Hp} {σ : L2.St} {H : Hp} (wr : Wr K T P M H) (rs : RepS K P σ ρ) {Q : VK}
    (hq : ∀ p acc vs P' M' H', F acc M' → Step K T P M H P' M' H' → H p = none → H' p = some (.lst vs) → RepL K P' vs acc → P' p = none → M' p = none → ¬ T p → Q (.ref p) H') (hx : XH K T W P M H Ξ) :
    tLc2 (it.t W) (g.t K) (q.t WX0) (it1.t WX0) (g1.t K) (q1.t WX0) (e.t WX0) (g.slots ++ g1.slots) g1.slots σ H Q := by
  refine it.ok h wr rs (fun J ds St P1 M1 H1 h1 s1 hg => ?_) hx
  obtain ⟨I, h0, hst, hs, he⟩ := h1
  intro p hp
  have pf1 := s1.wr.pfree hp
  have mf1 := s1.wr.mfree hp
  have nt := s1.wr.tne hp
  have hH : H p = none := s1.back hp
  have S0 : Step K T P1 M1 H1 P1 M1 (upd H1 p (.lst [])) := (Step.refl s1.wr).side hp pf1 mf1 nt
  refine ⟨fun i m H' => m = ds.length - i ∧ i ≤ ds.length ∧ ∃ acc vs P' M', I i acc M' ∧ Step K T P1 M1 H1 P' M' H' ∧ H' p = some (.lst vs) ∧ RepL K P' vs acc ∧ P' p = none ∧ M' p = none,
    ⟨ds.length, by simp, Nat.zero_le _, [], [], P1, M1, h0, S0, upd_same, .nil, pf1, mf1⟩, ?_⟩
  rintro i m H' ⟨rfl, hi, acc, vs, P', M', hI, st, hp', hr, pp, mp⟩
  obtain ⟨gg1, gg2⟩ := hg P' M' H' st.w (hst i acc M' hI)
  by_cases hlt : i < ds.length
  · have ee : ds[i]? = some ds[i] := by simp [hlt]
    obtain ⟨k1, k2⟩ := gg1 i _ ee
    refine .inr ⟨k1, fun H2 => ∃ acc vs P' M', I (i + 1) acc M' ∧ Step K T P1 M1 H1 P' M' H2 ∧ H2 p = some (.lst vs) ∧ RepL K P' vs acc ∧ P' p = none ∧ M' p = none, fun H2 q => ⟨ds.length - (i + 1), by omega, rfl, hlt, q⟩, fun x H3 y => ?_⟩
    obtain ⟨P3, s3, r3⟩ := k2 x H3 y
    obtain ⟨hp3, pp3, mp3⟩ := s3.fr p _ hp' pp mp nt (fun _ z => nomatch z) (fun _ z => nomatch z)
    have st3 := st.trans s3
    have rs3 : RepS K P3 (L2.wipe σ (g.slots ++ g1.slots)) (wipeD ρ (g.slots ++ g1.slots)) := (rs.mono (s1.trans st3).ex).wipe _
    refine CG.ok (hs i _ acc M' ee hI) s3.wr rs3 r3 fun σ4 ρ4 h4 rs4 hl4 hk4 => ⟨wipe_in (fun j hj => List.mem_append_left _ hj) hl4 hk4, ?_⟩
    refine q.ok h4 s3.wr rs4 (fun b P5 M5 H5 h5 s5 => ?_) noX_h
    obtain ⟨hp5, pp5, mp5⟩ := s5.fr p _ hp3 pp3 mp3 nt (fun _ z => nomatch z) (fun _ z => nomatch z)
    have st5 := st3.trans s5
    have hr5 := RepL.mono (s3.trans s5).ex hr
    cases b with
    | false => exact ⟨acc, vs, P5, M5, h5, st5, hp5, hr5, pp5, mp5⟩
    | true =>
      refine it1.ok h5 s5.wr (rs4.mono s5.ex) (fun J1 ds1 St1 P6 M6 H6 h6 s6 hg6 => ?_) noX_h
      obtain ⟨I1, h01, hst1, hs1, he1⟩ := h6
      obtain ⟨hp6, pp6, mp6⟩ := s6.fr p _ hp5 pp5 mp5 nt (fun _ z => nomatch z) (fun _ z => nomatch z)
      have st6 := st5.trans s6
      have hr6 := RepL.mono s6.ex hr5
      refine ⟨fun j k H7 => k = ds1.length - j ∧ j ≤ ds1.length ∧ ∃ acc vs P7 M7, I1 j acc M7 ∧ Step K T P1 M1 H1 P7 M7 H7 ∧ StepW K T P6 M6 H6 P7 M7 H7 ∧ H7 p = some (.lst vs) ∧ RepL K P7 vs acc ∧ P7 p = none ∧ M7 p = none,
        ⟨ds1.length, by simp, Nat.zero_le _, acc, vs, P6, M6, h01, st6, (Step.refl s6.wr).w, hp6, hr6, pp6, mp6⟩, ?_⟩
      rintro j k H7 ⟨rfl, hj, acc7, vs7, P7, M7, hI7, sq7, st7, hp7, hr7, pp7, mp7⟩
      obtain ⟨w1, w2⟩ := hg6 P7 M7 H7 st7 (hst1 j acc7 M7 hI7)
      by_cases hlt1 : j < ds1.length
      · have ee1 : ds1[j]? = some ds1[j] := by simp [hlt1]
        obtain ⟨k3, k4⟩ := w1 j _ ee1
        refine .inr ⟨k3, fun H8 => ∃ acc vs P7 M7, I1 (j + 1) acc M7 ∧ Step K T P1 M1 H1 P7 M7 H8 ∧ StepW K T P6 M6 H6 P7 M7 H8 ∧ H8 p = some (.lst vs) ∧ RepL K P7 vs acc ∧ P7 p = none ∧ M7 p = none, fun H8 q => ⟨ds1.length - (j + 1), by omega, rfl, hlt1, q⟩, fun x8 H8 y8 => ?_⟩
        obtain ⟨P8, s8, r8⟩ := k4 x8 H8 y8
        obtain ⟨hp8, pp8, mp8⟩ := s8.fr p _ hp7 pp7 mp7 nt (fun _ z => nomatch z) (fun _ z => nomatch z)
        have rs8 : RepS K P8 (L2.wipe σ4 g1.slots) (wipeD ρ4 g1.slots) := (rs4.mono ((s5.trans s6).w.trans (st7.trans s8.w)).ex).wipe _
        obtain ⟨hal, hs9⟩ := hs1 j _ acc7 M7 ee1 hI7
        refine CG.ok hs9 s8.wr rs8 r8 fun σ9 ρ9 h9 rs9 hl9 hk9 => ⟨wipe_in (fun j hj => hj) hl9 hk9, ?_⟩
        refine q1.ok h9 s8.wr rs9 (fun b Pa Ma Ha ha sa => ?_) noX_h
        obtain ⟨hpa, ppa, mpa⟩ := sa.fr p _ hp8 pp8 mp8 nt (fun _ z => nomatch z) (fun _ z => nomatch z)
        have sta := (st7.trans s8.w).trans sa.w
        have sqa := (sq7.trans s8).trans sa
        have hra := RepL.mono (s8.trans sa).ex hr7
        cases b with
        | false => exact ⟨acc7, vs7, Pa, Ma, ha, sqa, sta, hpa, hra, ppa, mpa⟩
        | true =>
          refine e.ok ha sa.wr (rs9.mono sa.ex) (fun v d Pb Mb Hb hb sb rb => ?_) noX_h
          obtain ⟨hpb, ppb, mpb⟩ := sb.fr p _ hpa ppa mpa nt (fun _ z => nomatch z) (fun _ z => nomatch z)
          refine ⟨vs7, hpb, ?_, acc7 ++ [d], vs7 ++ [v], Pb, Mb, hb, (sqa.trans sb).side hp ppb mpb nt, (sta.trans sb.w).side (fun ob u z => by rw [hp6] at z; cases z) ppb mpb nt, upd_same, (RepL.mono sb.ex hra).app (.cons rb .nil), ppb, mpb⟩
          rw [hr7.len]; exact sz_lt hal
      · have ee1 : j = ds1.length := by omega
        subst ee1
        exact .inl ⟨w2, acc7, vs7, P7, M7, he1 acc7 M7 hI7, sq7, hp7, hr7, pp7, mp7⟩
  · have ee : i = ds.length := by omega
    subst ee
    exact .inl ⟨gg2, hq p acc vs P' M' H' (he acc M' hI) (s1.trans st) hH hp' hr pp mp nt⟩
def xLc2 (it : XI K T) (g : CG) (q : XT K T) (it1 : XI K T) (g1 : CG) (q1 : XT K T) (e : XE K T) : XE K T where
  t := fun W => tLc2 (it.t W) (g.t K) (q.t WX0) (it1.t WX0) (g1.t K) (q1.t WX0) (e.t WX0) (g.slots ++ g1.slots) g1.slots
  w := fun ρ M Φ Ξ => lc2W it g q it1 g1 q1 e ρ M (fun acc M' => Φ (.lst acc) M') Ξ
  ok := fun h P σ H wr rs Q hq hx => lc2_ok h wr rs (fun p acc vs P' M' H' h1 st hp hp' hr pp mp nt =>
    let s := st.adoptP hp pp mp nt hp'
    hq _ _ _ _ _ h1 s (.lst upd_same (RepL.mono (Ex.put pp) hr))) hx
def xLc2M (it : XI K T) (g : CG) (q : XT K T) (it1 : XI K T) (g1 : CG) (q1 : XT K T) (e : XE K T) : XE K T where
  t := fun W => tLc2 (it.t W) (g.t K) (q.t WX0) (it1.t WX0) (g1.t K) (q1.t WX0) (e.t WX0) (g.slots ++ g1.slots) g1.slots
  w := fun ρ M Φ Ξ => lc2W it g q it1 g1 q1 e ρ M (fun acc M' => ∀ p, M' p = none → Φ (.ref p) (um M' p (.lst acc))) Ξ
  ok := fun h P σ H wr rs Q hq hx => lc2_ok h wr rs (fun p acc vs P' M' H' h1 st hp hp' hr pp mp nt =>
    hq _ _ _ _ _ (h1 p mp) (st.adoptM hp pp mp nt hp' (.lst hr)) (.ref p)) hx
end
section
variable {X : Cx} {W : WX} {T : Tt} {it it1 : XI X.K T} {cg cg1 : CG} {q q1 : XT X.K T} {e : XE X.K T} {pos : Pos}
theorem dLc2 {elt tg iter tg1 iter1 : Expr} {ifs ifs1 : List Expr} {scope : Scope} {own : List (Str × Nat)} (mk : Bool) (hc : X.calm = true) (hN : X.N.Nodup) (ok : BlkOk X.N X.env.scope scope own) (hi : PI X tg iter (it.t W)) (ho : own.map (·.2) = cg.slots ++ cg1.slots)
    (hg : ∀ (s : Shared) (H : Hp) (C : Addr) (cl : List (Str × Addr)) (fp : List Addr), PG (X.blk s H scope (compEnvC scope cl C X.env) fp) tg (cg.t X.K)) (ht : ∀ (s : Shared) (H : Hp) (C : Addr) (cl : List (Str × Addr)) (fp : List Addr), PTs (X.blk s H scope (compEnvC scope cl C X.env) fp) ifs (q.t WX0))
    (hi1 : ∀ (s : Shared) (H : Hp) (C : Addr) (cl : List (Str × Addr)) (fp : List Addr), PI (X.blk s H scope (compEnvC scope cl C X.env) fp) tg1 iter1 (it1.t WX0))
    (hg1 : ∀ (s : Shared) (H : Hp) (C : Addr) (cl : List (Str × Addr)) (fp : List Addr), PG (X.blk s H scope (compEnvC scope cl C X.env) fp) tg1 (cg1.t X.K)) (ht1 : ∀ (s : Shared) (H : Hp) (C : Addr) (cl : List (Str × Addr)) (fp : List Addr), PTs (X.blk s H scope (compEnvC scope cl C X.env) fp) ifs1 (q1.t WX0))
    (he : ∀ (s : Shared) (H : Hp) (C : Addr) (cl : List (Str × Addr)) (fp : List Addr), PE (X.blk s H scope (compEnvC scope cl C X.env) fp) elt (e.t WX0)) (hs : ∀ x, foldedSetIterable iter X.env x = pure x := by intro _; rfl) (hs1 : ∀ env x, foldedSetIterable iter1 env x = pure x := by intro _ _; rfl) :
    PE X (.ListComp elt [⟨tg, iter, ifs, 0⟩, ⟨tg1, iter1, ifs1, 0⟩] scope pos) ((bif mk then xLc2M it cg q it1 cg1 q1 e else xLc2 it cg q it1 cg1 q1 e).t W) := by
  have h := pe_lc2 (pos := pos) (vs1 := cg1.slots) hc hN hi ok (fun i hi => by rw [ho]; exact List.mem_append_right _ hi) hg ht hi1 hg1 ht1 he hs hs1
  rw [ho] at h
  cases mk with
  | true => exact h
  | false => exact h
theorem dSetLc2 {elt tg iter tg1 iter1 : Expr} {ifs ifs1 : List Expr} {scope : Scope} {own : List (Str × Nat)} {i : Nat} {y : Str} {py spos : Pos} (mk : Bool) (hc : X.calm = true) (hN : X.N.Nodup) (hy : X.N[i]? = some y) (ok : BlkOk X.N X.env.scope scope own) (hi : PI X tg iter (it.t W)) (ho : own.map (·.2) = cg.slots ++ cg1.slots)
    (hg : ∀ (s : Shared) (H : Hp) (C : Addr) (cl : List (Str × Addr)) (fp : List Addr), PG (X.blk s H scope (compEnvC scope cl C X.env) fp) tg (cg.t X.K)) (ht : ∀ (s : Shared) (H : Hp) (C : Addr) (cl : List (Str × Addr)) (fp : List Addr), PTs (X.blk s H scope (compEnvC scope cl C X.env) fp) ifs (q.t WX0))
    (hi1 : ∀ (s : Shared) (H : Hp) (C : Addr) (cl : List (Str × Addr)) (fp : List Addr), PI (X.blk s H scope (compEnvC scope cl C X.env) fp) tg1 iter1 (it1.t WX0))
    (hg1 : ∀ (s : Shared) (H : Hp) (C : Addr) (cl : List (Str × Addr)) (fp : List Addr), PG (X.blk s H scope (compEnvC scope cl C X.env) fp) tg1 (cg1.t X.K)) (ht1 : ∀ (s : Shared) (H : Hp) (C : Addr) (cl : List (Str × Addr)) (fp : List Addr), PTs (X.blk s H scope (compEnvC scope cl C X.env) fp) ifs1 (q1.t WX0))
    (he : ∀ (s : Shared) (H : Hp) (C : Addr) (cl : List (Str × Addr)) (fp : List Addr), PE (X.blk s H scope (compEnvC scope cl C X.env) fp) elt (e.t WX0)) (hs : ∀ x, foldedSetIterable iter X.env x = pure x := by intro _; rfl) (hs1 : ∀ env x, foldedSetIterable iter1 env x = pure x := by intro _ _; rfl)
    (hyl : X.env.scope.names.lookup y = some .local := by rfl) (hsw : swapsWith (.ListComp elt [⟨tg, iter, ifs, 0⟩, ⟨tg1, iter1, ifs1, 0⟩] scope pos) (some (.Name y py)) spos.line X.env = pure true := by exact sw_true rfl rfl rfl (by decide +kernel)) :
    PS X (.Assign [.Name y py] (.ListComp elt [⟨tg, iter, ifs, 0⟩, ⟨tg1, iter1, ifs1, 0⟩] scope pos) spos) ((sAs (bif mk then xLc2M it cg q it1 cg1 q1 e else xLc2 it cg q it1 cg1 q1 e) (gN i)).t W) := by
  have h := ps_setLc2 (pos := pos) (spos := spos) (py := py) (vs1 := cg1.slots) hc hN hy hyl hsw hi ok (fun i hi => by rw [ho]; exact List.mem_append_right _ hi) hg ht hi1 hg1 ht1 he hs hs1
  rw [ho] at h
  cases mk with
  | true => exact h
  | false => exact h
end
end Ab

set_option Elab.async false
set_option linter.all false
set_option maxRecDepth 100000
set_option maxHeartbeats 4000000
namespace Ab
open PySem PySem.Spec PyProof.Rows L2
theorem callWith_typeK {M : Model} {A : Around} {E : Value → Shared → Prop} {s : Shared} {pos : Pos} {T : String} {args : List (Bool × Sem Value)} {keywords : List (Option Str × Sem Value)} {Q : Value → Shared → Prop}
    (hplain : args.any (·.1) = false) (hkw : keywords.any (·.1.isNone) = false)
    (h : wpAny M A (evalArgs (.type T) true args keywords) (fun a s₁ => wpAny M A (call (.type T) ([] ++ a.pos) a.kw) Q E s₁) E s) :
    wpAny M A (callWith pos (.type T) [] args keywords) Q E s := by
  unfold callWith
  refine wpAny_bind (wpAny_holding (wpAny_mono h (fun a s₁ h₁ => wpAny_bind (wpAny_standAt ?_)) fun _ _ x => x))
  simp only [hplain, hkw, Bool.or_false]
  refine wpAny_bind (wpAny_pure ?_)
  exact wpAny_bind (wpAny_mono h₁ (fun r s₂ hr => wpAny_bind (wpAny_holding (wpAny_point (wpAny_pure hr)))) fun _ _ x => x)
/-- the list at a as it stands at each turn, counted from k0 -/
def Itk (K : PySem.W.Frag) (k0 : Int) (a : Addr) : It :=
  ⟨fun i H => ∃ (xs : List V) (x : V), SqL K H a xs ∧ xs[i]? = some x, fun i H v H' => ∃ T x, v = .ref T ∧ H T = none ∧ H' = upd H T (.tup [.int (k0 + (i : Nat)), x]) ∧ ∀ xs, SqL K H a xs → xs[i]? = some x, fun i H => ∃ xs : List V, SqL K H a xs ∧ xs.length ≤ i⟩
theorem turn_enumK {P : Program} {w : World} {K : PySem.W.Frag} {elts : List Expr} {kk : Nat} {tpos : Pos} (k0 : Int) (a e it : Addr) (nai : a ≠ it) (nea : e ≠ a) :
    Turn P w K (.Tuple elts kk tpos) (Itk K k0 a) [e, it] e (fun i h => (∃ old, IsEnum h e it (k0 + (i : Nat)) old) ∧ h.IsListIter it a i ∧ e ≠ it) where
  mem := by simp
  obj := fun i h st b hb => by
    obtain ⟨⟨old, he⟩, ⟨o, ho, hc, hd⟩, _⟩ := st
    have e' : b = e ∨ b = it := by simpa using hb
    rcases e' with z | z
    · rw [z]; exact ⟨_, he, fun v q => nomatch q⟩
    · rw [z]; exact ⟨o, ho, fun v q => by rw [hd] at q; cases q⟩
  keep := fun i h h' st k => let ⟨⟨old, he⟩, hi, hne⟩ := st; ⟨⟨old, k e (by simp) _ he⟩, hi.at fun o q => k it (by simp) o q, hne⟩
  item := by
    intro X hP hw hK hc i pins s σ H E I hf st hg
    subst hP hw hK
    obtain ⟨⟨old, he⟩, hit, hne⟩ := st
    obtain ⟨xs, x, hq, hx⟩ := hg
    obtain ⟨its, rv, p, hz⟩ := I.list hq
    obtain ⟨u, hu, ru⟩ := rv.get hx
    have hil2 : i < its.toArray.size := by
      have := (List.getElem?_eq_some_iff.mp hu).1
      simpa using this
    have hel : e < s.heap.objs.size := Heap.lt_size he
    have hil : it < s.heap.objs.size := by obtain ⟨_, q, _⟩ := hit; exact Heap.lt_size q
    refine wpAny_pyNext_enum_itemC (Draws.list (prog := X.prog) (w := X.w) (A := X.A.in1) (I.ok.hd hc) it a nai its.toArray) he ⟨hit, p.isList⟩ hil2 hne (by simp; exact ⟨hne, nea⟩) fun x1 h' tk hP ho hst' hT hsz hk => ?_
    obtain ⟨hit', hl'⟩ := hst'
    have ex1 : x1 = u := by
      have : its.toArray[i]? = some x1 := hP
      rw [List.getElem?_toArray, hu] at this
      exact (Option.some.inj this).symm
    subst ex1
    refine ⟨_, rfl, wpAny_letOwnedTupleGo_enum (s := { s with heap := h', toks := tk + 1 }) ho fun h'' he' sb => ?_⟩
    have hT2 : h''.get? s.heap.objs.size = some { cls := .type "tuple", data := .seq #[.int (k0 + (i : Nat)) tk, x1] } := (sb.2 _ (Nat.ne_of_gt hel)).trans hT
    have new : ObjOk X.prog X.w (upd H s.heap.objs.size (.tup [.int (k0 + (i : Nat)), x])) h'' s.heap.objs.size (.tup [.int (k0 + (i : Nat)), x]) :=
      ⟨by show 2 ≤ sizeLine; decide, [.int (k0 + (i : Nat)) tk, x1], .cons ⟨_, rfl⟩ (.cons ru .nil), ⟨_, hT2, rfl, _, rfl⟩⟩
    have I1 : Inv X pins σ (upd H s.heap.objs.size (.tup [.int (k0 + (i : Nat)), x])) { s with heap := h'', toks := tk + 1 } :=
      I.turnedNew (ch := [e, it]) (fun b ob hb q => (sb.2 b (fun z => hb (by simp [z]))).trans (hk b ob (fun z => hb (by simp [z])) (fun z => hb (by simp [z])) q)) hf (Nat.le_refl _) new
    refine ⟨.ref s.heap.objs.size, _, I1, rfl, ⟨_, x, rfl, I.hok.fresh (Nat.le_refl _), rfl, fun ys hy => by rw [I.list_inj hy hq]; exact hx⟩, ⟨⟨x1, ?_⟩, hit'.at fun o q => (sb.2 it (Ne.symm hne)).trans q, hne⟩, fun b hb => ?_⟩
    · have e1 : k0 + ((i + 1 : Nat) : Int) = k0 + (i : Int) + 1 := by omega
      rw [e1]; exact he'
    · have hb' : b < s.heap.objs.size := by
        have e' : b = e ∨ b = it := by simpa using hb
        rcases e' with z | z
        · rw [z]; exact hel
        · rw [z]; exact hil
      rw [upd_ne (Nat.ne_of_lt hb')]
      exact (hf b hb).1
  done := by
    intro X hP hw hK hc i pins s σ H E I hf st hg
    subst hP hw hK
    obtain ⟨⟨old, he⟩, hit, hne⟩ := st
    obtain ⟨xs, hq, hx⟩ := hg
    obtain ⟨its, rv, p, hz⟩ := I.list hq
    obtain ⟨f0, f1, f2, f3, f4, f5⟩ := hf it (by simp)
    have hl := rv.length
    have hn : its.toArray[i]? = none := by rw [List.getElem?_toArray]; exact List.getElem?_eq_none (by omega)
    have D0 : Draws X.prog X.w X.A.in1 it [it, a] i (fun i v => True) (fun j h => j = i ∧ h.IsListIter it a i ∧ h.IsList a its.toArray) :=
      { live := fun _ _ st => let ⟨_, ⟨o, ho, _⟩, _⟩ := st; ⟨o, ho⟩
        frame := fun _ _ _ st hk => ⟨st.1, st.2.1.at fun o e => hk it (by simp) o e, st.2.2.at fun o e => hk a (by simp) o e⟩
        item := fun j s Q E hi st hQ => absurd st.1 (Nat.ne_of_lt hi)
        done := fun s Q E st hE => wpAny_nextOf_list_end (I.ok.hd hc) st.2.1 st.2.2 hn hE }
    exact wpAny_pyNext_enum_endD D0 he ⟨rfl, hit, p.isList⟩ fun h' eb => ⟨rfl, I.turned (t' := s.toks) (fun b o hb q => eb b o hb q) f0 f1 f3 f4 f5⟩
  self := fun A i s Q E st h => let ⟨⟨_, he⟩, _⟩ := st; wpAny_pyIter_enum he h
def iEnumK (K : PySem.W.Frag) (k0 : Int) (te : TE) : TI := fun σ H R => te σ H fun v H1 => ∃ a xs, v = .ref a ∧ SqL K H1 a xs ∧ R (Itk K k0 a) H1
theorem pi_enumK {X : Cx} {e : Expr} {te : TE} {k0 : Int} {j0 : Nat} {p pos tpos kp cp : Pos} {elts : List Expr} {kk : Nat} (h0 : -(2 ^ 63) ≤ k0) (h1 : k0 < 2 ^ 63) (hg : Gl X "enumerate") (hm : X.mg "enumerate" = none) (he : PE X e te)
    (hee : backTo pos (starEach [e] X.env) = (false, eval e X.env) :: backTo pos (starEach [] X.env) := by rfl) (hplain : (backTo pos (starEach [e] X.env)).any (·.1) = false := by rfl)
    (hall : (backToKw pos (keywordEach [⟨some "start", .Constant (.int k0) j0 cp, kp⟩] X.env)).all (·.1.isSome) = true := by rfl) (hkw : (backToKw pos (keywordEach [⟨some "start", .Constant (.int k0) j0 cp, kp⟩] X.env)).any (·.1.isNone) = false := by rfl)
    (hks : (backToKw pos (keywordEach [⟨some "start", .Constant (.int k0) j0 cp, kp⟩] X.env)).filterMap (·.1) = [Str.ofString "start"] := by rfl)
    (hkv : (backToKw pos (keywordEach [⟨some "start", .Constant (.int k0) j0 cp, kp⟩] X.env)).map (·.2) = [do let v ← eval (.Constant (.int k0) j0 cp) X.env; standAt pos; pure v] := by rfl) :
    PI X (.Tuple elts kk tpos) (.Call (.Name "enumerate" p) [e] [⟨some "start", .Constant (.int k0) j0 cp, kp⟩] pos) (iEnumK X.K k0 te) := by
  refine ⟨fun pins s σ H R I h => ?_⟩
  refine wpAny_Call_Name_kw (ld_blt I hg hm boot_enumerate ?_)
  refine callWith_typeK hplain hkw ?_
  rw [hee]
  refine evalArgs_kwB hall ?_
  refine Calls.spliced_cons (thn (he.run pins s σ H _ I h) fun u s1 ⟨v, H1, I1, r1, a, xs, ev, hq, q⟩ => Calls.spliced_nil ?_)
  subst ev
  obtain rfl : u = Value.ref a := r1
  rw [hkv, hks]
  refine wpAny_evalAll_cons (wpAny_bind (thn ((pe_int (X := X) (i := k0) (j := j0) (pos := cp)).run pins s1 σ H1 (fun x H2 => x = .int k0 ∧ H2 = H1) I1 ⟨rfl, rfl⟩) fun u2 s2 ⟨v2, H2, I2, r2, ev2, eH2⟩ => wpAny_bind (wpAny_standAt (wpAny_pure ?_))))
  refine wpAny_evalAll_nil ?_
  subst ev2 eH2
  obtain ⟨t, rfl⟩ := (show ∃ t, u2 = Value.int k0 t from r2)
  obtain ⟨its, rv, p', hz⟩ := I2.list hq
  have hal : a < s2.heap.objs.size := by obtain ⟨o, ho, _⟩ := p'.isList; exact Heap.lt_size ho
  refine enum_begins_start (begins_list a its.toArray) p'.isList h0 h1 fun h' he hit hsz hk => wpAny_pyIter_enum he ?_
  have I3 : Inv X pins σ H2 { s2 with heap := h' } := I2.kept (t' := s2.toks) hk
  refine ⟨s2.heap.objs.size + 1, [s2.heap.objs.size + 1, s2.heap.objs.size], _, _, H2, rfl, I3, turn_enumK k0 a (s2.heap.objs.size + 1) s2.heap.objs.size (Nat.ne_of_lt hal) (Nat.ne_of_gt (Nat.lt_succ_of_lt hal)), ⟨⟨.none, ?_⟩, ⟨_, hit, rfl, rfl⟩, Nat.succ_ne_self _⟩, fun b hb => ?_, q⟩
  · have : k0 + ((0 : Nat) : Int) = k0 := by omega
    rw [this]; exact he
  have e' : b = s2.heap.objs.size + 1 ∨ b = s2.heap.objs.size := by simpa using hb
  have hle : s2.heap.objs.size ≤ b := by
    rcases e' with z | z
    · rw [z]; exact Nat.le_add_right _ _
    · rw [z]; exact Nat.le_refl _
  exact I2.fpOk hle (I2.hok.fresh hle)
section
variable {K : PySem.W.Frag} {T : Tt}
/-- enumerate(xs, start=k0) -/
def enumKD (k0 : Int) (xs : List D) : List D := xs.mapIdx fun i d => .tup [.int (k0 + (i : Nat)), d]
theorem enumKD_get {k0 : Int} {xs : List D} {i : Nat} {d : D} (h : (enumKD k0 xs)[i]? = some d) : ∃ x, xs[i]? = some x ∧ d = .tup [.int (k0 + (i : Nat)), x] := by
  unfold enumKD at h
  rw [List.getElem?_mapIdx] at h
  cases e : xs[i]? with
  | none => rw [e] at h; cases h
  | some x => rw [e] at h; cases h; exact ⟨x, rfl, rfl⟩
theorem enumKD_len {k0 : Int} {xs : List D} : (enumKD k0 xs).length = xs.length := by unfold enumKD; rw [List.length_mapIdx]
def iEk (k0 : Int) (a : XE K T) : XI K T where
  t := fun W => iEnumK K k0 (a.t W)
  w := fun ρ M Φ Ξ => a.w ρ M (fun x M1 => asPL x fun xs => Φ (enumKD k0 xs) (fun _ => True) M1) Ξ
  ok := fun h P σ H wr rs R hq hx => a.ok h wr rs (fun v d P1 M1 H1 h1 s1 r1 => by
    obtain ⟨xs, rfl, h2⟩ := h1.get
    obtain ⟨l, vs, rfl, hl, hr⟩ := r1.toL
    refine ⟨l, vs, rfl, s1.wr.sl (SqL.of hl), hq _ _ _ P1 M1 H1 h2 s1 fun P3 M3 H3 s3 _ => ⟨fun i d e => ?_, ?_⟩⟩
    · obtain ⟨x, e1, rfl⟩ := enumKD_get e
      obtain ⟨v1, f1, g1⟩ := hr.getd e1
      have hs3 : SqL K H3 l vs := s3.wr.sl (SqL.of (s3.ex _ _ hl))
      refine ⟨⟨vs, v1, hs3, f1⟩, fun z H4 hy => ?_⟩
      obtain ⟨t, x1, rfl, hn, rfl, q1⟩ := hy
      have w1 := q1 vs hs3
      rw [f1] at w1; cases w1
      have s4 := Step.newP s3.wr (o := .tup [.int (k0 + (i : Nat)), v1]) hn
      exact ⟨_, s4, .tup upd_same (.cons (.int _) (.cons (g1.mono (s3.ex.trans s4.ex)) .nil))⟩
    · exact ⟨vs, s3.wr.sl (SqL.of (s3.ex _ _ hl)), by rw [enumKD_len, hr.len]; exact Nat.le_refl _⟩) hx
end
section
variable {X : Cx} {W : WX} {T : Tt} {a : XE X.K T} {ea : Expr} {pos : Pos}
theorem diEk {p tpos kp cp : Pos} {elts : List Expr} {kk : Nat} {k0 : Int} {j0 : Nat} (hm : X.mg "enumerate" = none) (he : PE X ea (a.t W)) (h0 : -(2 ^ 63) ≤ k0 := by decide) (h1 : k0 < 2 ^ 63 := by decide) (hg : Gl X "enumerate" := by rfl)
    (hee : backTo pos (starEach [ea] X.env) = (false, eval ea X.env) :: backTo pos (starEach [] X.env) := by rfl) (hplain : (backTo pos (starEach [ea] X.env)).any (·.1) = false := by rfl)
    (hall : (backToKw pos (keywordEach [⟨some "start", .Constant (.int k0) j0 cp, kp⟩] X.env)).all (·.1.isSome) = true := by rfl) (hkw : (backToKw pos (keywordEach [⟨some "start", .Constant (.int k0) j0 cp, kp⟩] X.env)).any (·.1.isNone) = false := by rfl)
    (hks : (backToKw pos (keywordEach [⟨some "start", .Constant (.int k0) j0 cp, kp⟩] X.env)).filterMap (·.1) = [Str.ofString "start"] := by rfl)
    (hkv : (backToKw pos (keywordEach [⟨some "start", .Constant (.int k0) j0 cp, kp⟩] X.env)).map (·.2) = [do let v ← eval (.Constant (.int k0) j0 cp) X.env; standAt pos; pure v] := by rfl) :
    PI X (.Tuple elts kk tpos) (.Call (.Name "enumerate" p) [ea] [⟨some "start", .Constant (.int k0) j0 cp, kp⟩] pos) ((iEk k0 a).t W) := pi_enumK h0 h1 hg hm he hee hplain hall hkw hks hkv
end
end Ab

set_option Elab.async false
set_option linter.all false
set_option maxRecDepth 100000
set_option maxHeartbeats 4000000
namespace Ab
open PySem PySem.Spec PyProof.Rows L2 LamX
section
variable {X : Cx} {pins : List (Addr × Obj)} {σ : L2.St} {H : Hp} {s : Shared}
theorem min_loop {scope : Scope} {x : Str} {i f c' S It l : Addr} {pm ctv : Value} {params : Arguments} {body : Expr} {k : Nat} {tb : TE} {cmp : V → V → Hp → Bool → Prop} {vs : List V} {df : Option V} {dw : Option Value} {Q : VK} (hc : X.calm = true) (hr : Room (k + 2) X.A) (L : Lam1 X.env.scope scope x)
    (hN : X.N[i]? = some x) (hnd : X.N.Nodup)
    (hbind : ∀ u, bindArgs (PySem.W.kla_fn "<lambda>" (X.env.qual ++ "<lambda>") params body scope (cloFrom X.env.cells scope.names []) pm (.ref c') ctv) ⟨[u], []⟩ = pure [(x, u)])
    (hbody : ∀ (A : Around) (outer : List Env) (s : Shared) (H : Hp), Room k (A.deeper (lamEnv X scope s.heap.objs.size f c')) → PE (lamCx X A outer s H C8.E0 scope f c') body tb) (hcmp : CmpOk X .Lt cmp)
    (hS : Fp X S) (hI : Fp X It) (nSI : S ≠ It) (nSf : f ≠ S) (nIf : f ≠ It) (hd : match df, dw with | none, none => True | some d, some w => RelV d w | _, _ => False) :
    ∀ (r : List V) (j : Nat) (b : Option (V × V)) (bu : List Value) (n : Nat) (oI : Obj) (H : Hp) (s : Shared), (∀ p ∈ pins, p.1 ≠ S) → (∀ p ∈ pins, p.1 ≠ It) →
      Inv X ((S, seqObj "list" bu.toArray n) :: (It, oI) :: (f, PySem.W.kla_obj "<lambda>" (X.env.qual ++ "<lambda>") params body scope (cloFrom X.env.cells scope.names []) pm c' ctv) :: pins) σ H s → oI.cls = .type "list_iterator" → oI.data = .fields #[.ref l, .int j 0] →
      vs.drop j = r → best2 b bu → loopK X.K c' (X.env.qual ++ "<lambda>") cmp tb σ i l vs df r b H Q →
      codeAny (model X.prog X.w) X.A (.builtin "min.loop" ⟨[.ref It, .ref f, .ref S], dfKw dw⟩) (fun r s' => match r with | .ok (.ret w) => EP X pins σ Q w s' | _ => False) s := by
  have hname : (toString "min" ++ toString ".loop" : String) = "min.loop" := by decide
  have hS1 : ∀ {o o2 : Obj} {ps : List (Addr × Obj)}, (∀ p ∈ ps, p.1 ≠ S) → ∀ p ∈ (It, o) :: (f, o2) :: ps, p.1 ≠ S := fun {o o2 ps} h p hp => by
    rcases List.mem_cons.mp hp with z | hp
    · subst z; exact nSI.symm
    · rcases List.mem_cons.mp hp with z | hp
      · subst z; exact nSf
      · exact h p hp
  have hI1 : ∀ {o o2 : Obj} {ps : List (Addr × Obj)}, (∀ p ∈ ps, p.1 ≠ It) → ∀ p ∈ (S, o) :: (f, o2) :: ps, p.1 ≠ It := fun {o o2 ps} h p hp => by
    rcases List.mem_cons.mp hp with z | hp
    · subst z; exact nSI
    · rcases List.mem_cons.mp hp with z | hp
      · subst z; exact nIf
      · exact h p hp
  have sw : ∀ {a b : Addr × Obj} {r : List (Addr × Obj)}, ∀ p ∈ a :: b :: r, p ∈ b :: a :: r := fun {a b r} p hp => by
    simp only [List.mem_cons] at hp ⊢
    rcases hp with z | z | z
    · exact .inr (.inl z)
    · exact .inl z
    · exact .inr (.inr z)
  intro r
  induction r with
  | nil =>
    intro j b bu n oI H s pS pI I oc od hv hb h
    obtain ⟨hq, h⟩ := h
    obtain ⟨its, rl, pl, _⟩ := I.list hq
    have gS := pin_in I List.mem_cons_self
    have gI := pin_in I (List.mem_cons_of_mem _ List.mem_cons_self)
    have hj : vs.length ≤ j := List.drop_eq_nil_iff.mp hv
    refine codeAny_builtin PySem.F.entry_min_loop ?_
    rw [Around.under_plainId PySem.F.plain_min_loop _]
    show wpAny _ X.A.in1 (seqItems? (.ref S) >>= _) _ _ _
    refine wpAny_bind (wpAny_seqItems gS rfl ?_)
    show wpAny _ X.A.in1 (tryCatch (pyNext (.ref It)) _ >>= _) _ _ _
    refine wpAny_bind (wpAny_tryCatch (wpAny_pyNext_list_end (I.ok.hd hc) ⟨oI, gI, oc, od⟩ pl.isList (by rw [List.getElem?_toArray, List.getElem?_eq_none]; rw [← rl.length]; exact hj) fun h' he' => ?_))
    have I1 : Inv X ((S, seqObj "list" bu.toArray n) :: (f, PySem.W.kla_obj "<lambda>" (X.env.qual ++ "<lambda>") params body scope (cloFrom X.env.cells scope.names []) pm c' ctv) :: pins) σ H { s with heap := h' } :=
      pin_lost (t := s.toks) (pins_to I sw) hI (hI1 pI) fun b u nb e => he' b u nb e
    cases b with
    | none =>
      have hb : bu = [] := hb
      subst hb
      cases df with
      | none => exact h.elim
      | some d =>
        cases dw with
        | none => exact hd.elim
        | some w =>
          show wpAny _ X.A.in1 (rule _ >>= _) _ _ _
          refine wpAny_bind (wpAny_rule (wpAny_pure ?_))
          exact ⟨d, H, pins_to I1 fun p hp => List.mem_cons_of_mem _ (List.mem_cons_of_mem _ hp), hd, h⟩
    | some xk =>
      obtain ⟨xb, k0⟩ := xk
      obtain ⟨u, w, rfl, r1, r2⟩ := hb
      have gS' := pin_in I1 List.mem_cons_self
      show wpAny _ X.A.in1 (updateSeq S (fun _ => #[]) >>= _) _ _ _
      refine wpAny_bind ?_
      refine wpAny_updateSeq gS' rfl (wpAny_bind (wpAny_letGo (wpAny_pure ?_)))
      have s1 := Heap.SameBut.update h' S (Obj.mapSeq fun _ => (#[] : Array Value))
      refine ⟨xb, H, pins_to (pin_lost (t := s.toks) I1 hS (fun p hp => ?_) fun b u nb e => (s1.2 b nb).trans e) fun p hp => List.mem_cons_of_mem _ hp, r1, h⟩
      rcases List.mem_cons.mp hp with z | hp
      · subst z; exact nSf
      · exact pS p hp
  | cons v r ih =>
    intro j b bu n oI H s pS pI I oc od hv hb h
    obtain ⟨hq, hco, h⟩ := h
    obtain ⟨its, rl, pl, _⟩ := I.list hq
    have gS := pin_in I List.mem_cons_self
    have gI := pin_in I (List.mem_cons_of_mem _ List.mem_cons_self)
    have hvj : vs[j]? = some v := by
      have := congrArg (fun l => l[0]?) hv
      simpa [List.getElem?_drop] using this
    have hv1 : vs.drop (j + 1) = r := by rw [← List.drop_drop, hv]; rfl
    obtain ⟨uv, huv, ruv⟩ := rl.get hvj
    refine codeAny_builtin PySem.F.entry_min_loop ?_
    rw [Around.under_plainId PySem.F.plain_min_loop _]
    show wpAny _ X.A.in1 (seqItems? (.ref S) >>= _) _ _ _
    refine wpAny_bind (wpAny_seqItems gS rfl ?_)
    show wpAny _ X.A.in1 (tryCatch (pyNext (.ref It)) _ >>= _) _ _ _
    refine wpAny_bind (wpAny_tryCatch (wpAny_pyNext_list_item ⟨oI, gI, oc, od⟩ pl.isList (x := uv) (by rw [List.getElem?_toArray]; exact huv) fun h' hit' sb => ?_))
    obtain ⟨oI', gI', oc', od'⟩ := hit'
    have I1 : Inv X ((S, seqObj "list" bu.toArray n) :: (It, oI') :: (f, PySem.W.kla_obj "<lambda>" (X.env.qual ++ "<lambda>") params body scope (cloFrom X.env.cells scope.names []) pm c' ctv) :: pins) σ H { s with heap := h' } :=
      pins_to (pin_turn (t := s.toks) (pins_to I sw) hI (hI1 pI) (fun b u nb e => (sb.2 b nb).trans e) gI' (fun z q => by rw [od'] at q; cases q)) sw
    show wpAny _ X.A.in1 (tryCatch (holding [uv] (call (.ref f) [uv])) _ >>= _) _ _ _
    refine wpAny_bind (wpAny_tryCatch (wpAny_holding (wpAny_call (codeAny_mono (lam_call1 I1 L (pin_in I1 (List.mem_cons_of_mem _ (List.mem_cons_of_mem _ List.mem_cons_self))) hco hN hnd ruv (show X.A.in1.frames = some X.stack from I.ok.frames) (room_in1 hr) (hbind uv) hbody h) fun r s2 hq2 => ?_))))
    cases r with
    | error e => exact hq2.elim
    | ok fl =>
    cases fl with
    | next => exact hq2.elim
    | brk => exact hq2.elim
    | cont => exact hq2.elim
    | ret w =>
    obtain ⟨kv, H2, I2, rk, h2⟩ := hq2
    have gS2 := pin_in I2 List.mem_cons_self
    have upd2 : ∀ {H3 : Hp} {s3 : Shared}, Inv X ((S, seqObj "list" bu.toArray n) :: (It, oI') :: (f, PySem.W.kla_obj "<lambda>" (X.env.qual ++ "<lambda>") params body scope (cloFrom X.env.cells scope.names []) pm c' ctv) :: pins) σ H3 s3 → loopK X.K c' (X.env.qual ++ "<lambda>") cmp tb σ i l vs df r (some (v, kv)) H3 Q →
        codeAny (model X.prog X.w) X.A (.builtin "min.loop" ⟨[.ref It, .ref f, .ref S], dfKw dw⟩) (fun r s' => match r with | .ok (.ret w) => EP X pins σ Q w s' | _ => False) { s3 with heap := s3.heap.update S (Obj.mapSeq fun _ => #[uv, w]) } := fun {H3 s3} I3 h3 => by
      have gS3 := pin_in I3 List.mem_cons_self
      have s1 := Heap.SameBut.update s3.heap S (Obj.mapSeq fun _ => #[uv, w])
      obtain ⟨c2, hc2⟩ : ∃ c2, (s3.heap.update S (Obj.mapSeq fun _ => #[uv, w])).get? S = some (seqObj "list" #[uv, w] c2) := ⟨_, get?_update_seq gS3 fun _ => #[uv, w]⟩
      have I4 := pin_turn (t := s3.toks) I3 hS (hS1 pS) (fun b u nb e => (s1.2 b nb).trans e) hc2 (fun z q => by cases q)
      exact ih (j + 1) (some (v, kv)) [uv, w] c2 oI' _ _ pS pI I4 oc' od' hv1 ⟨uv, w, rfl, ruv, rk⟩ h3
    cases b with
    | none =>
      have hb : bu = [] := hb
      subst hb
      show wpAny _ X.A.in1 (updateSeq S (fun _ => #[uv, w]) >>= _) _ _ _
      refine wpAny_bind ?_
      refine wpAny_updateSeq gS2 rfl ?_
      rw [hname]
      exact wpAny_pure ⟨plainId_quiet PySem.F.plain_min_loop _, upd2 I2 h2⟩
    | some xk =>
      obtain ⟨xb, k0⟩ := xk
      obtain ⟨u0, w0, rfl, r1, r2⟩ := hb
      obtain ⟨bb, hcm, h3⟩ := h2
      show wpAny _ X.A.in1 (tryCatch (holding [uv, w] (richCompare .Lt w w0 >>= _)) _ >>= _) _ _ _
      refine wpAny_bind (wpAny_tryCatch (wpAny_holding (wpAny_bind (hcmp _ _ _ _ _ _ _ _ _ _ _ I2 rk r2 hcm ?_))))
      refine wpAny_bind (wpAny_holding (wpAny_truthy_bool ?_))
      refine wpAny_bind (wpAny_letGo (wpAny_pure ?_))
      cases bb with
      | true =>
        simp only [if_true]
        refine wpAny_bind ?_
        refine wpAny_updateSeq gS2 rfl (wpAny_bind (wpAny_letGo ?_))
        rw [hname]
        exact wpAny_pure ⟨plainId_quiet PySem.F.plain_min_loop _, upd2 I2 h3⟩
      | false =>
        simp only [Bool.false_eq_true, if_false]
        refine wpAny_bind (wpAny_letGo ?_)
        rw [hname]
        exact wpAny_pure ⟨plainId_quiet PySem.F.plain_min_loop _, ih (j + 1) (some (xb, k0)) [u0, w0] n oI' _ _ pS pI I2 oc' od' hv1 ⟨u0, w0, rfl, r1, r2⟩ h3⟩
end
theorem kmk_min_keyD (a v d : Value) : argsOk "min" ⟨[a], [(Str.ofString "key", v), (Str.ofString "default", d)]⟩ := by unfold argsOk; kernel_rfl
section
variable {X : Cx} {pins : List (Addr × Obj)} {σ : L2.St} {H : Hp} {s : Shared}
theorem pe_minKN {x : Str} {i k : Nat} {c Pt : Addr} {params : Arguments} {body e : Expr} {scope : Scope} {te tb : TE} {cmp : V → V → Hp → Bool → Prop} {p lpos kpos pos cp dp : Pos} {j0 : Nat} (hc : X.calm = true) (hr : Room (k + 2) X.A) (hg : Gl X "min") (hm : X.mg "min" = none)
    (TB : TabB X.base X.mg c Pt) (hcode : X.env.code = .ref c) (L : Lam1 X.env.scope scope x) (hN : X.N[i]? = some x) (hnd : X.N.Nodup) (hdef : defaultsOf params X.env = ([], []))
    (hbind : ∀ (q : Str) (cl : List (Str × Addr)) (pm cv ctv u : Value), bindArgs (PySem.W.kla_fn "<lambda>" q params body scope cl pm cv ctv) ⟨[u], []⟩ = pure [(x, u)]) (hcmp : CmpOk X .Lt cmp) (he : PE X e te)
    (hbody : ∀ (A : Around) (outer : List Env) (s : Shared) (H : Hp) (f c' : Addr), Room k (A.deeper (lamEnv X scope s.heap.objs.size f c')) → PE (lamCx X A outer s H C8.E0 scope f c') body tb)
    (hee : backTo pos (starEach [e] X.env) = (false, eval e X.env) :: backTo pos (starEach [] X.env) := by rfl) (hplain : (backTo pos (starEach [e] X.env)).any (·.1) = false := by rfl)
    (hall : (backToKw pos (keywordEach [⟨some "key", .Lambda params body scope lpos, kpos⟩, ⟨some "default", .Constant .none j0 cp, dp⟩] X.env)).all (·.1.isSome) = true := by rfl) (hkw : (backToKw pos (keywordEach [⟨some "key", .Lambda params body scope lpos, kpos⟩, ⟨some "default", .Constant .none j0 cp, dp⟩] X.env)).any (·.1.isNone) = false := by rfl)
    (hks : (backToKw pos (keywordEach [⟨some "key", .Lambda params body scope lpos, kpos⟩, ⟨some "default", .Constant .none j0 cp, dp⟩] X.env)).filterMap (·.1) = [Str.ofString "key", Str.ofString "default"] := by rfl)
    (hkv : (backToKw pos (keywordEach [⟨some "key", .Lambda params body scope lpos, kpos⟩, ⟨some "default", .Constant .none j0 cp, dp⟩] X.env)).map (·.2) = [do let v ← eval (.Lambda params body scope lpos) X.env; standAt pos; pure v, do let v ← eval (.Constant .none j0 cp) X.env; standAt pos; pure v] := by rfl) :
    PE X (.Call (.Name "min" p) [e] [⟨some "key", .Lambda params body scope lpos, kpos⟩, ⟨some "default", .Constant .none j0 cp, dp⟩] pos) (tKeyed Pt (X.env.qual ++ "<lambda>") X.K cmp te tb i (some .non)) := by
  have hname : (toString "min" ++ toString ".loop" : String) = "min.loop" := by decide
  refine ⟨fun pins s σ H Q I h => ?_⟩
  refine wpAny_Call_Name_kw (ld_blt I hg hm (show bootBuiltins "min" = some (.builtin "min") by decide +kernel) ?_)
  refine PyProof.Rows.callWith_kw ?_ hee hplain hall hkw
  rw [hee]
  refine Calls.spliced_cons (thn (he.run pins s σ H _ I h) fun u s1 ⟨v, H1, I1, r1, l, vs, ev, hq, tS, h1⟩ => Calls.spliced_nil ?_)
  subst ev
  obtain rfl : u = Value.ref l := r1
  rw [hkv, hks]
  refine wpAny_evalAll_cons (wpAny_bind (lam_made I1 TB hcode tS hdef (L.has I1.ok) fun f c' pm ctv H2 s2 I2 eN T2 hf hfn hfr hco => wpAny_bind (wpAny_standAt (wpAny_pure ?_))))
  have I3 := pin_fun I2 hf rfl hfn hfr
  refine wpAny_evalAll_cons (wpAny_bind (thn ((pe_non (X := X) (j := j0) (pos := cp)).run _ s2 σ H2 (fun x H3 => x = .non ∧ H3 = H2) I3 ⟨rfl, rfl⟩) fun u3 s3 ⟨v3, H3, I4, r3, ev3, eH3⟩ => wpAny_bind (wpAny_standAt (wpAny_pure ?_))))
  rw [eH3] at I4
  rw [ev3] at r3
  obtain rfl : u3 = Value.none := r3
  refine wpAny_evalAll_nil ?_
  show wpAny _ X.A (call (.builtin "min") [.ref l] [(Str.ofString "key", .ref f), (Str.ofString "default", .none)]) _ _ _
  have h2 := h1 H2 c' eN T2 hco
  have hls : ∃ its, s3.heap.IsList l its := by
    cases vs with
    | nil => exact (by obtain ⟨hq, _⟩ := h2; obtain ⟨its, _, pl, _⟩ := I4.list hq; exact ⟨_, pl.isList⟩)
    | cons v r => exact (by obtain ⟨hq, _⟩ := h2; obtain ⟨its, _, pl, _⟩ := I4.list hq; exact ⟨_, pl.isList⟩)
  obtain ⟨its, hls⟩ := hls
  refine kmk_tree PySem.F.kind_min PySem.F.plain_min PySem.F.entry_min (kmk_min_keyD _ _ _) ?_
  show wpAny _ X.A.in1 (Builtin.Builtins.bindParams "min" ["key", "default"] 0 ⟨[], [(Str.ofString "key", .ref f), (Str.ofString "default", .none)]⟩ >>= _) _ _ _
  refine wpAny_bind (wpAny_of_eq (show Builtin.Builtins.bindParams "min" ["key", "default"] 0 ⟨[], [(Str.ofString "key", .ref f), (Str.ofString "default", .none)]⟩ = pure [some (.ref f), some .none] from rfl) ?_)
  refine wpAny_bind (wpAny_pure ?_)
  refine wpAny_bind (wpAny_pyIter_list hls ?_)
  refine wpAny_bind (wpAny_newList ?_ (Nat.zero_le _))
  rw [hname]
  have szI : s3.heap.objs.size ≤ (s3.heap.push { cls := .type "list_iterator", data := .fields #[.ref l, .int 0 0] }).objs.size := by rw [Heap.size_push]; exact Nat.le_succ _
  have I5 := pin_new (t := s3.toks) I4 (h' := s3.heap.push { cls := .type "list_iterator", data := .fields #[.ref l, .int 0 0] }) (a := s3.heap.objs.size) (fun b u e => Heap.get?_push_of_some _ e) (Nat.le_refl _) (Heap.get?_push_size _ rfl) (fun v q => by cases q)
  obtain ⟨fI, nI⟩ := fp_new I4 (Nat.le_refl _)
  obtain ⟨fS, nS⟩ := fp_new I5 (Nat.le_refl _)
  have I6 := pin_new (t := s3.toks) I5 (h' := (s3.heap.push { cls := .type "list_iterator", data := .fields #[.ref l, .int 0 0] }).push (seqObj "list" #[] 0)) (a := (s3.heap.push { cls := .type "list_iterator", data := .fields #[.ref l, .int 0 0] }).objs.size) (fun b u e => Heap.get?_push_of_some _ e) (Nat.le_refl _) (Heap.get?_push_size _ rfl) (fun v q => by cases q)
  refine wpAny_pure ⟨plainId_quiet PySem.F.plain_min_loop _, ?_⟩
  refine codeAny_mono (min_loop (df := some .non) (dw := some .none) hc hr L hN hnd (fun u => hbind _ _ _ _ _ u) (fun A outer s H hr2 => hbody A outer s H f c' hr2) hcmp fS fI (fun z => nS _ List.mem_cons_self z.symm) (nS _ (List.mem_cons_of_mem _ List.mem_cons_self)) (nI _ List.mem_cons_self) rfl
    vs 0 none [] 0 _ H2 _ (fun p hp => nS p (List.mem_cons_of_mem _ (List.mem_cons_of_mem _ hp))) (fun p hp => nI p (List.mem_cons_of_mem _ hp)) I6 rfl rfl rfl rfl h2) fun r s' hq => ?_
  cases r with
  | error e => exact hq.elim
  | ok fl =>
    cases fl with
    | ret u => exact hq
    | next => exact hq
    | brk => exact hq
    | cont => exact hq
end
end Ab

set_option Elab.async false
set_option linter.all false
set_option maxRecDepth 100000
set_option maxHeartbeats 4000000
namespace Ab
open PySem PySem.Spec PyProof.Rows L2 LamX
/-! ### while -/
section
variable {K : PySem.W.Frag} {T : Tt}
def sWhile (q : XT K T) (b : XS K T) : XS K T where
  t := fun W => tWhile (q.t W) (b.t W)
  w := fun ρ M ε Ξ => ∃ I : Nat → Sl → Mh → Prop, (∃ m, I m ρ M) ∧ ∀ m ρ' M', I m ρ' M' → q.w ρ' M' (fun k M1 => if k = true then b.w ρ' M1 ⟨fun ρ2 M2 => ∃ m', m' < m ∧ I m' ρ2 M2, ε.rt, ε.nx, fun ρ2 M2 => ∃ m', m' < m ∧ I m' ρ2 M2⟩ Ξ else ε.nx ρ' M1) Ξ
  ok := fun {W ρ M ε Ξ} h P σ H wr rs Dn hd hx => by
    obtain ⟨I, ⟨m0, h0⟩, hs⟩ := h
    refine ⟨fun m σ' H' => ∃ ρ' P' M', I m ρ' M' ∧ Step K T P M H P' M' H' ∧ RepS K P' σ' ρ', ⟨m0, ρ, P, M, h0, Step.refl wr, rs⟩, ?_⟩
    rintro m σ' H' ⟨ρ', P', M', hI, st, rs'⟩
    refine q.ok (hs m ρ' M' hI) st.wr rs' (fun k P1 M1 H1 h1 s1 => ?_) (hx.mono st)
    have st1 := st.trans s1
    cases k with
    | false => exact hd.nx _ _ _ _ _ h1 st1 (rs'.mono s1.ex)
    | true =>
      refine ⟨fun σ2 H2 => ∃ m', m' < m ∧ ∃ ρ' P' M', I m' ρ' M' ∧ Step K T P M H P' M' H2 ∧ RepS K P' σ2 ρ', fun σ2 H2 ⟨m', hm, z⟩ => ⟨m', hm, z⟩, ?_⟩
      exact b.ok h1 s1.wr (rs'.mono s1.ex) ⟨fun ρ2 σ2 P2 M2 H2 ⟨m', hm, z⟩ s2 r2 => ⟨m', hm, ρ2, P2, M2, z, st1.trans s2, r2⟩, fun v d P2 M2 H2 z s2 r2 => hd.rt _ _ _ _ _ z (st1.trans s2) r2,
        fun ρ2 σ2 P2 M2 H2 z s2 r2 => hd.nx _ _ _ _ _ z (st1.trans s2) r2, fun ρ2 σ2 P2 M2 H2 ⟨m', hm, z⟩ s2 r2 => ⟨m', hm, ρ2, P2, M2, z, st1.trans s2, r2⟩⟩ (hx.mono st1)
end
section
variable {X : Cx} {W : WX} {T : Tt} {q : XT X.K T} {s1 : XS X.K T} {pos : Pos}
theorem dWhile {ec : Expr} {body : List Stmt} (hp : PassesOwn (model X.prog X.w) X.A X.env X.xe) (hq : PT X ec (q.t W)) (hb : PSs X body (s1.t W)) : PS X (.While ec body [] pos) ((sWhile q s1).t W) := ps_while hp hq hb
end
/-! ### the best by a key that is data -/
def ltP (a b : PyData) : Bool := PySem.W.dataLt a b
/-- keys compared as data -/
def cmpD (K : PySem.W.Frag) (gt : Bool) : V → V → Hp → Bool → Prop := fun k k0 H bb => ∃ a b : PyData, L2.Dp K H k a ∧ L2.Dp K H k0 b ∧ PySem.W.alike a b = true ∧ a ≠ .none ∧ min a.depth b.depth ≤ 50 ∧ bb = if gt then ltP b a else ltP a b
theorem cmpD_gt {X : Cx} {k : Nat} (hr : Room k X.A) : CmpOk X .Gt (cmpD X.K true) := fun pins s σ H k k0 u w bb Q E I ru rw' hcm hq => by
  obtain ⟨a, b, ha, hb, h1, h2, h3, rfl⟩ := hcm
  obtain ⟨as, r1⟩ := L2.Dp.reads I a _ _ ha ru
  obtain ⟨bs, r2⟩ := L2.Dp.reads I b _ _ hb rw'
  exact PySem.W.gt_data (A := X.A.in1) r1 r2 h1 h2 (by have := hr.un; show X.A.units + 1 + _ < _; omega) hq
theorem cmpD_lt {X : Cx} {k : Nat} (hr : Room k X.A) : CmpOk X .Lt (cmpD X.K false) := fun pins s σ H k k0 u w bb Q E I ru rw' hcm hq => by
  obtain ⟨a, b, ha, hb, h1, h2, h3, rfl⟩ := hcm
  obtain ⟨as, r1⟩ := L2.Dp.reads I a _ _ ha ru
  obtain ⟨bs, r2⟩ := L2.Dp.reads I b _ _ hb rw'
  exact PySem.W.lt_data (A := X.A.in1) r1 r2 h1 h2 (by have := hr.un; show X.A.units + 1 + _ < _; omega) hq
section
variable {K : PySem.W.Frag} {T : Tt} {P : Hp} {M : Mh} {H : Hp}
def asDP (d : D) (k : PyData → Prop) : Prop := match dP d with | some a => k a | none => False
theorem asDP.get {d : D} {k : PyData → Prop} (h : asDP d k) : ∃ a, dP d = some a ∧ k a := by
  unfold asDP at h
  split at h
  · exact ⟨_, by assumption, h⟩
  · exact h.elim
theorem asDP_of {d : D} {a : PyData} {k : PyData → Prop} (h : dP d = some a) : asDP d k = k a := by unfold asDP; rw [h]
/-- the best by a data key -/
def keyWD (gt : Bool) (e : XE K T) (i : Nat) (ds : List D) (ρ : Sl) (M : Mh) (df : Option D) (Φ : D → Mh → Prop) : Prop := ∃ I : Nat → Option (D × PyData) → Mh → Prop, I 0 none M ∧
  (∀ j d b M', ds[j]? = some d → I j b M' → e.w (ρ.set i (some d)) M' (fun k M2 => asDP k fun a => match b with
    | none => I (j + 1) (some (d, a)) M2
    | some (x, a0) => PySem.W.alike a a0 = true ∧ a ≠ .none ∧ min a.depth a0.depth ≤ 50 ∧ I (j + 1) (if (if gt then ltP a0 a else ltP a a0) = true then some (d, a) else some (x, a0)) M2) (fun _ _ _ _ => False)) ∧
  (∀ b M', I ds.length b M' → match b, df with | some (x, _), _ => Φ x M' | none, some d => Φ d M' | none, none => False)
theorem keyWD.ok {gt : Bool} {e : XE K T} {i l c' : Addr} {q : Str} {ds : List D} {vs : List V} {ρ : Sl} {σ : L2.St} {df : Option D} {dv : Option V} {Φ : D → Mh → Prop} {Q : VK} (rs : RepS K P σ ρ) (h : keyWD gt e i ds ρ M df Φ) (wr : Wr K T P M H) (hl : P l = some (.lst vs)) (hr : RepL K P vs ds) (hc : P c' = some (CodeO c' q))
    (hd : match df, dv with | none, none => True | some d, some v => Rep K P v d | _, _ => False)
    (hq : ∀ v d P' M' H', Φ d M' → Step K T P M H P' M' H' → Rep K P' v d → Q v H') : loopK K c' q (cmpD K gt) (e.t WX0) σ i l vs dv vs none H Q := by
  obtain ⟨I, h0, hs, he⟩ := h
  have main : ∀ (r : List V) (j : Nat) (b : Option (V × V)) (bd : Option (D × PyData)) (P1 : Hp) (M1 : Mh) (H1 : Hp), vs.drop j = r → j ≤ vs.length → I j bd M1 → Step K T P M H P1 M1 H1 → (match b, bd with | none, none => True | some (x, k), some (d, a) => Rep K P1 x d ∧ ∃ kd, Rep K P1 k kd ∧ dP kd = some a | _, _ => False) → loopK K c' q (cmpD K gt) (e.t WX0) σ i l vs dv r b H1 Q := by
    intro r
    induction r with
    | nil =>
      intro j b bd P1 M1 H1 hv hj hI st hb
      have hj2 : j = ds.length := by have := List.drop_eq_nil_iff.mp hv; rw [← hr.len]; omega
      refine ⟨SqL.of ?_, ?_⟩
      · rcases st.wr.pure _ _ (st.ex _ _ hl) with z | ⟨_, _, z, _⟩
        · exact z
        · cases z
      have hf := he bd M1 (hj2 ▸ hI)
      cases b with
      | none =>
        cases bd with
        | some x => exact hb.elim
        | none =>
          cases df with
          | none => exact hf.elim
          | some d =>
            cases dv with
            | none => exact hd.elim
            | some v => exact hq _ _ _ _ _ hf st (Rep.mono st.ex hd)
      | some x =>
        cases bd with
        | none => exact hb.elim
        | some y => exact hq _ _ _ _ _ hf st hb.1
    | cons v r ih =>
      intro j b bd P1 M1 H1 hv hj hI st hb
      have hvj : vs[j]? = some v := by
        have := congrArg (fun l => l[0]?) hv
        simpa [List.getElem?_drop] using this
      have hv1 : vs.drop (j + 1) = r := by rw [← List.drop_drop, hv]; rfl
      have hlt : j < vs.length := (List.getElem?_eq_some_iff.mp hvj).1
      obtain ⟨d, hd1, rd⟩ := hr.get hvj
      refine ⟨SqL.of ?_, st.wr.code (st.ex _ _ hc), ?_⟩
      · rcases st.wr.pure _ _ (st.ex _ _ hl) with z | ⟨_, _, z, _⟩
        · exact z
        · cases z
      refine e.ok (hs j d bd M1 hd1 hI) st.wr ((rs.mono st.ex).set (Rep.mono st.ex rd) i) (fun k kd P2 M2 H2 h2 s2 r2 => ?_) (fun _ _ _ _ _ _ _ z _ _ => z.elim)
      obtain ⟨a, ea, h3⟩ := asDP.get h2
      have st2 := st.trans s2
      cases b with
      | none =>
        cases bd with
        | some y => exact hb.elim
        | none => exact ih (j + 1) _ (some (d, a)) P2 M2 H2 hv1 (by omega) h3 st2 ⟨Rep.mono st2.ex rd, kd, r2, ea⟩
      | some x =>
        cases bd with
        | none => exact hb.elim
        | some y =>
          obtain ⟨xv, xk⟩ := x
          obtain ⟨yd, a0⟩ := y
          obtain ⟨hb1, kd0, hb2, ea0⟩ := hb
          obtain ⟨c1, c2, c3, h3⟩ := h3
          refine ⟨if gt then ltP a0 a else ltP a a0, ⟨a, a0, dP_rep s2.wr r2 ea, dP_rep s2.wr (Rep.mono s2.ex hb2) ea0, c1, c2, c3, rfl⟩, ?_⟩
          by_cases g : (if gt then ltP a0 a else ltP a a0) = true
          · rw [g]
            simp only [if_pos g] at h3
            exact ih (j + 1) _ (some (d, a)) P2 M2 H2 hv1 (by omega) h3 st2 ⟨Rep.mono st2.ex rd, kd, r2, ea⟩
          · have g2 : (if gt then ltP a0 a else ltP a a0) = false := by cases e : (if gt then ltP a0 a else ltP a a0) <;> simp_all
            rw [g2]
            simp only [if_neg g] at h3
            exact ih (j + 1) _ (some (yd, a0)) P2 M2 H2 hv1 (by omega) h3 st2 ⟨Rep.mono s2.ex hb1, kd0, Rep.mono s2.ex hb2, ea0⟩
  exact main vs 0 none none P M H rfl (Nat.zero_le _) h0 (Step.refl wr) trivial
/-- max(a, key=lambda x: e), data for keys -/
def xMaxKD (a : XE K T) (i : Nat) (e : XE K T) : XE K T where
  t := fun W => fun σ H Q => ∀ Pt q, T.l Pt q → tKeyed Pt q K (cmpD K true) (a.t W) (e.t WX0) i none σ H Q
  w := fun ρ M Φ Ξ => a.w ρ M (fun d M1 => asPL d fun ds => keyWD true e i ds ρ M1 none Φ) Ξ
  ok := fun {W ρ M Φ Ξ} h P σ H wr rs Q hq hx Pt q hT => a.ok h wr rs (fun v d P1 M1 H1 h1 s1 r1 => by
    obtain ⟨ds, rfl, h2⟩ := h1.get
    obtain ⟨l, vs, rfl, hl, hr⟩ := r1.toL
    refine ⟨l, vs, rfl, s1.wr.sl (SqL.of hl), s1.wr.tabs hT, fun H2 c' mk tS hc => ?_⟩
    obtain ⟨P2, s2, pc⟩ := step_made s1.wr hT mk tS hc
    exact keyWD.ok (df := none) (dv := none) (rs.mono (s1.trans s2).ex) h2 s2.wr (s2.ex _ _ hl) (RepL.mono s2.ex hr) pc trivial fun v d P' M' H' h3 s3 r3 => hq _ _ _ _ _ h3 ((s1.trans s2).trans s3) r3) hx
/-- min(a, key=lambda x: e, default=None) -/
def xMinKN (a : XE K T) (i : Nat) (e : XE K T) : XE K T where
  t := fun W => fun σ H Q => ∀ Pt q, T.l Pt q → tKeyed Pt q K (cmpD K false) (a.t W) (e.t WX0) i (some .non) σ H Q
  w := fun ρ M Φ Ξ => a.w ρ M (fun d M1 => asPL d fun ds => keyWD false e i ds ρ M1 (some .non) Φ) Ξ
  ok := fun {W ρ M Φ Ξ} h P σ H wr rs Q hq hx Pt q hT => a.ok h wr rs (fun v d P1 M1 H1 h1 s1 r1 => by
    obtain ⟨ds, rfl, h2⟩ := h1.get
    obtain ⟨l, vs, rfl, hl, hr⟩ := r1.toL
    refine ⟨l, vs, rfl, s1.wr.sl (SqL.of hl), s1.wr.tabs hT, fun H2 c' mk tS hc => ?_⟩
    obtain ⟨P2, s2, pc⟩ := step_made s1.wr hT mk tS hc
    exact keyWD.ok (df := some .non) (dv := some .non) (rs.mono (s1.trans s2).ex) h2 s2.wr (s2.ex _ _ hl) (RepL.mono s2.ex hr) pc .non fun v d P' M' H' h3 s3 r3 => hq _ _ _ _ _ h3 ((s1.trans s2).trans s3) r3) hx
end
section
variable {X : Cx} {W : WX} {T : Tt} {a e : XE X.K T}
theorem dMaxKD {x : Str} {i k : Nat} {params : Arguments} {body ea : Expr} {scope : Scope} {p lpos kpos pos : Pos} (tb : TlB X.base X.mg T X.env.code (X.env.qual ++ "<lambda>")) (hc : X.calm = true) (hr : Room (k + 2) X.A) (hm : X.mg "max" = none) (L : Lam1 X.env.scope scope x) (hN : X.N[i]? = some x) (hnd : X.N.Nodup) (he : PE X ea (a.t W))
    (hbody : ∀ (A : Around) (outer : List Env) (s : Shared) (H : Hp) (f c' : Addr), Room k (A.deeper (lamEnv X scope s.heap.objs.size f c')) → PE (lamCx X A outer s H C8.E0 scope f c') body (e.t WX0))
    (hdef : defaultsOf params X.env = ([], []) := by rfl) (hbind : ∀ (q : Str) (cl : List (Str × Addr)) (pm cv ctv u : Value), bindArgs (PySem.W.kla_fn "<lambda>" q params body scope cl pm cv ctv) ⟨[u], []⟩ = pure [(x, u)] := by intros; rfl) (hg : Gl X "max" := by rfl)
    (hee : backTo pos (starEach [ea] X.env) = (false, eval ea X.env) :: backTo pos (starEach [] X.env) := by rfl) (hplain : (backTo pos (starEach [ea] X.env)).any (·.1) = false := by rfl)
    (hall : (backToKw pos (keywordEach [⟨some "key", .Lambda params body scope lpos, kpos⟩] X.env)).all (·.1.isSome) = true := by rfl) (hkw : (backToKw pos (keywordEach [⟨some "key", .Lambda params body scope lpos, kpos⟩] X.env)).any (·.1.isNone) = false := by rfl)
    (hks : (backToKw pos (keywordEach [⟨some "key", .Lambda params body scope lpos, kpos⟩] X.env)).filterMap (·.1) = [Str.ofString "key"] := by rfl)
    (hkv : (backToKw pos (keywordEach [⟨some "key", .Lambda params body scope lpos, kpos⟩] X.env)).map (·.2) = [do let v ← eval (.Lambda params body scope lpos) X.env; standAt pos; pure v] := by rfl) :
    PE X (.Call (.Name "max" p) [ea] [⟨some "key", .Lambda params body scope lpos, kpos⟩] pos) ((xMaxKD a i e).t W) := by
  obtain ⟨c, Pt, hcode, TB, hT⟩ := tb
  have h := pe_maxK (p := p) (i := i) hc hr hg hm TB hcode L hN hnd hdef hbind (cmpD_gt hr) he hbody hee hplain hall hkw hks hkv
  exact ⟨fun pins s σ H Q I hh => h.run pins s σ H Q I (hh Pt _ hT)⟩
theorem dMinKN {x : Str} {i k j0 : Nat} {params : Arguments} {body ea : Expr} {scope : Scope} {p lpos kpos pos cp dp : Pos} (tb : TlB X.base X.mg T X.env.code (X.env.qual ++ "<lambda>")) (hc : X.calm = true) (hr : Room (k + 2) X.A) (hm : X.mg "min" = none) (L : Lam1 X.env.scope scope x) (hN : X.N[i]? = some x) (hnd : X.N.Nodup) (he : PE X ea (a.t W))
    (hbody : ∀ (A : Around) (outer : List Env) (s : Shared) (H : Hp) (f c' : Addr), Room k (A.deeper (lamEnv X scope s.heap.objs.size f c')) → PE (lamCx X A outer s H C8.E0 scope f c') body (e.t WX0))
    (hdef : defaultsOf params X.env = ([], []) := by rfl) (hbind : ∀ (q : Str) (cl : List (Str × Addr)) (pm cv ctv u : Value), bindArgs (PySem.W.kla_fn "<lambda>" q params body scope cl pm cv ctv) ⟨[u], []⟩ = pure [(x, u)] := by intros; rfl) (hg : Gl X "min" := by rfl)
    (hee : backTo pos (starEach [ea] X.env) = (false, eval ea X.env) :: backTo pos (starEach [] X.env) := by rfl) (hplain : (backTo pos (starEach [ea] X.env)).any (·.1) = false := by rfl)
    (hall : (backToKw pos (keywordEach [⟨some "key", .Lambda params body scope lpos, kpos⟩, ⟨some "default", .Constant .none j0 cp, dp⟩] X.env)).all (·.1.isSome) = true := by rfl) (hkw : (backToKw pos (keywordEach [⟨some "key", .Lambda params body scope lpos, kpos⟩, ⟨some "default", .Constant .none j0 cp, dp⟩] X.env)).any (·.1.isNone) = false := by rfl)
    (hks : (backToKw pos (keywordEach [⟨some "key", .Lambda params body scope lpos, kpos⟩, ⟨some "default", .Constant .none j0 cp, dp⟩] X.env)).filterMap (·.1) = [Str.ofString "key", Str.ofString "default"] := by rfl)
    (hkv : (backToKw pos (keywordEach [⟨some "key", .Lambda params body scope lpos, kpos⟩, ⟨some "default", .Constant .none j0 cp, dp⟩] X.env)).map (·.2) = [do let v ← eval (.Lambda params body scope lpos) X.env; standAt pos; pure v, do let v ← eval (.Constant .none j0 cp) X.env; standAt pos; pure v] := by rfl) :
    PE X (.Call (.Name "min" p) [ea] [⟨some "key", .Lambda params body scope lpos, kpos⟩, ⟨some "default", .Constant .none j0 cp, dp⟩] pos) ((xMinKN a i e).t W) := by
  obtain ⟨c, Pt, hcode, TB, hT⟩ := tb
  have h := pe_minKN (p := p) (i := i) hc hr hg hm TB hcode L hN hnd hdef hbind (cmpD_lt hr) he hbody hee hplain hall hkw hks hkv
  exact ⟨fun pins s σ H Q I hh => h.run pins s σ H Q I (hh Pt _ hT)⟩
end
/-! ### orders of keys -/
theorem ltP_is {a b : Int} {x y : Str} : ltP (.tuple [.int a, .str x]) (.tuple [.int b, .str y]) = decide (a < b ∨ (a = b ∧ ltS x y = true)) := by
  have h := PySem.W.DatumOrd.lt_eq (α := Int × Str) (a, x) (b, y)
  refine (show ltP _ _ = _ from h).trans ?_
  show (if a = b then decide (x.cps.toList < y.cps.toList) else decide (a < b)) = _
  have e : ltS x y = decide (x.cps.toList < y.cps.toList) := by unfold ltS; rfl
  rw [e]
  by_cases h1 : a = b
  · subst h1; simp
  · rw [if_neg h1]; simp [h1]
end Ab

set_option Elab.async false
set_option linter.all false
set_option maxRecDepth 100000
set_option maxHeartbeats 4000000
namespace Ab
open PySem PySem.Spec PyProof.Rows L2
section
variable {K : PySem.W.Frag} {T : Tt} {P P2 : Hp} {M : Mh} {H H2 : Hp}
/-- new objects that do not change, many -/
theorem Step.grow (w : Wr K T P M H) (hH : ∀ b o, H b = some o → H2 b = some o) (hP : Ex P P2) (hn : ∀ a o, P2 a = some o → P a = some o ∨ (H a = none ∧ H2 a = some o)) : Step K T P M H P2 M H2 := by
  refine ⟨hP, ⟨fun a o e => ?_, fun a m e => ?_, fun a m e => ?_, fun a t => ?_⟩, fun a o h1 h2 h3 _ _ _ => ?_, fun a ob o h => hH _ _ h, fun a o h => ⟨o, hH _ _ h⟩⟩
  · rcases hn a o e with z | ⟨z1, z2⟩
    · rcases w.pure a o z with q | ⟨kvs, ob, q1, q2⟩
      · exact .inl (hH _ _ q)
      · exact .inr ⟨kvs, ob, q1, hH _ _ q2⟩
    · exact .inl z2
  · obtain ⟨o, h1, r⟩ := w.chg a m e
    exact ⟨o, hH _ _ h1, r.mono hP⟩
  · cases z : P2 a with
    | none => rfl
    | some o =>
      rcases hn a o z with q | ⟨q1, _⟩
      · rw [w.dis a m e] at q; cases q
      · obtain ⟨o2, h1, _⟩ := w.chg a m e
        rw [q1] at h1; cases h1
  · obtain ⟨⟨ps, e, tr, f⟩, t2, t3⟩ := w.tab a t
    refine ⟨⟨ps, hH _ _ e, tr, fun q tq pos cv hc => let ⟨c, a1, b1⟩ := f q tq pos cv hc; ⟨c, a1, hP _ _ b1⟩⟩, ?_, t3⟩
    cases z : P2 a with
    | none => rfl
    | some o =>
      rcases hn a o z with q | ⟨q1, _⟩
      · rw [t2] at q; cases q
      · rw [q1] at e; cases e
  · refine ⟨hH _ _ h1, ?_, h3⟩
    cases z : P2 a with
    | none => rfl
    | some o2 =>
      rcases hn a o2 z with q | ⟨q1, _⟩
      · rw [h2] at q; cases q
      · rw [q1] at h1; cases h1
end
/-! ### sorted(d.items()) of a dict by texts, ints for values -/
def encSI (e : Str × Int) : PyData := .tuple [.str e.1, .int e.2]
def srtSI (ks : List (Str × Int)) : List (Str × Int) := ks.mergeSort (PySem.W.dataLe false encSI)
def kdI (ks : List (Str × Int)) : List (Key × V) := ks.map fun e => (Sum.inr e.1, V.int e.2)
def rItemsK : V → List V → Hp → VK → Prop := fun x xs H Q => ∃ (a : Addr) (kvs : List (Key × V)), x = .ref a ∧ xs = [] ∧ H a = some (.dK kvs) ∧ ∀ p, H p = none → Q (.ref p) (upd H p (DX.itemsO p a))
theorem mt_itemsK {X : Cx} : MtR X "dict.items" rItemsK := by
  intro pins s σ H x xs v us Q I rx rxs h
  obtain ⟨a, kvs, rfl, rfl, ha, q⟩ := h
  cases rx
  cases rxs
  obtain ⟨z, hd, vs, rel, o, es, ep, ho, hx, hdat, _⟩ := dk_of I.hok ha
  refine _root_.DT.callItems (es := es) (ep := ep) hd ⟨o, ho, hx, hdat⟩ ?_
  have hf : H s.heap.objs.size = none := I.hok.fresh (Nat.le_refl _)
  exact ⟨.ref s.heap.objs.size, upd H s.heap.objs.size (DX.itemsO s.heap.objs.size a), I.laid (t' := s.toks) (fun b u e => Heap.get?_push_of_some _ e) (Nat.le_refl _) (DX.itemsO_ok (Heap.get?_push_size _ rfl)), rfl, q _ hf⟩
def rSortIK : List V → Hp → VK → Prop := fun vs H Q => ∃ (p a : Addr) (ks : List (Str × Int)), vs = [.ref p] ∧ H p = some (DX.itemsO p a) ∧ H a = some (.dK (kdI ks)) ∧ ks.length ≤ 100000 ∧
  ∀ (H' : Hp) (l : Addr) (as : List Addr), (∀ b o, H b = some o → H' b = some o) → H l = none → H' l = some (.lst (as.map V.ref)) → as.length = (srtSI ks).length →
    (∀ (j : Nat) (b : Addr) (e : Str × Int), as[j]? = some b → (srtSI ks)[j]? = some e → H b = none ∧ b ≠ l ∧ H' b = some (.tup [.str e.1, .int e.2])) → Q (.ref l) H'
theorem pairs_get {X : Cx} {es : List DictEntry} {kvs : List (Key × Value)} (h : Pairs (mixKind X.prog X.w) es kvs) {j : Nat} {e : DictEntry} (he : es[j]? = some e) : ∃ k v, kvs[j]? = some (k, v) ∧ (mixKind X.prog X.w).is k e.key = true ∧ e.val = v := by
  have hl := h.length
  have hj := (List.getElem?_eq_some_iff.mp he).1
  cases q : kvs[j]? with
  | none => have := List.getElem?_eq_none_iff.mp q; omega
  | some p =>
    obtain ⟨k, v⟩ := p
    exact ⟨k, v, rfl, h.get? he q⟩
theorem each_of_idx {α β : Type} {R : α → β → Prop} : ∀ {as : List α} {bs : List β}, as.length = bs.length → (∀ (j : Nat) a b, as[j]? = some a → bs[j]? = some b → R a b) → PySem.W.EachIs R as bs
  | [], [], _, _ => .nil
  | [], _ :: _, h, _ => by cases h
  | _ :: _, [], h, _ => by cases h
  | a :: as, b :: bs, h, f => .cons (f 0 a b rfl rfl) (each_of_idx (by simpa using h) fun j x y hx hy => f (j + 1) x y hx hy)
theorem each_at {α β : Type} {R : α → β → Prop} : ∀ {as : List α} {bs : List β}, PySem.W.EachIs R as bs → ∀ {j : Nat} {a : α} {b : β}, as[j]? = some a → bs[j]? = some b → R a b
  | _, _, .nil, j, a, b, h, _ => by cases h
  | _, _, .cons r _, 0, a, b, h, g => by cases h; cases g; exact r
  | _, _, .cons _ t, j + 1, a, b, h, g => each_at t (j := j) h g
theorem alike_si (e f : Str × Int) : PySem.W.alike (encSI e) (encSI f) = true := by
  unfold encSI; simp [PySem.W.alike, PySem.W.alikeAll]
theorem refs_inv : ∀ {out : List Value}, (∀ v ∈ out, ∃ a, v = Value.ref a) → ∃ as : List Addr, out = as.map Value.ref
  | [], _ => ⟨[], rfl⟩
  | v :: out, h => by
    obtain ⟨a, rfl⟩ := h v List.mem_cons_self
    obtain ⟨as, rfl⟩ := refs_inv (out := out) fun u hu => h u (List.mem_cons_of_mem _ hu)
    exact ⟨a :: as, rfl⟩
theorem vals_refs (as : List Addr) : Vals (as.map V.ref) (as.map Value.ref) := by
  induction as with
  | nil => exact .nil
  | cons a as ih => exact .cons rfl ih
theorem cr_sortIK {X : Cx} (hc : X.calm = true) (hu : X.A.units + 64 < cLine) : CallR X (.builtin "sorted") rSortIK := by
  intro pins s σ H xs us Q I r h
  obtain ⟨p, a, ks, rfl, hp, ha, hsz, q⟩ := h
  obtain rfl := Vals.ref1 r
  have view : s.heap.IsItemsView p a := (show ObjOk X.prog X.w H s.heap p (DX.itemsO p a) from I.hok p _ hp).1
  obtain ⟨z, hd, vs, rel, o, es, ep, ho, hx, hdat, hko, hps, hn⟩ := dk_of I.hok ha
  have l1 : (kdI ks).length = vs.length := Paired.length rel
  have l0 : (kdI ks).length = ks.length := List.length_map _
  have l2 : es.toList.length = vs.length := hps.length
  rw [Array.length_toList] at l2
  have hh : X.A.handled = none := I.ok.hd hc
  have sl : ∀ n, n ≤ 100000 → n ≤ sizeLine := fun n hn => by rw [sizeLine_eq]; omega
  refine _root_.DT.sortedI (es := es) (ep := ep) hh view ⟨o, ho, hx, hdat⟩ (sl _ (by omega)) fun h' tk as hk hlt hl hG => ?_
  have lak : as.length = ks.length := by omega
  -- what the entries are
  have ent : ∀ (j : Nat) (b : Addr) (e : Str × Int), as[j]? = some b → ks[j]? = some e → ∃ t t', h'.get? b = some { cls := .type "tuple", data := .seq #[Value.str e.1 t, Value.int e.2 t'] } := by
    intro j b e hj he
    obtain ⟨en, hen, hg⟩ := hG.pairs j b hj
    have hen2 : es.toList[j]? = some en := by rw [Array.getElem?_toList]; exact hen
    obtain ⟨k, v, hk1, hk2, hk3⟩ := pairs_get hps hen2
    have hkd : (kdI ks)[j]? = some (Sum.inr e.1, V.int e.2) := by unfold kdI; rw [List.getElem?_map, he]; rfl
    obtain ⟨y, hy, f1, f2⟩ := DX.pget rel hk1
    rw [hkd] at hy
    obtain rfl := Option.some.inj hy
    have f1 : Sum.inr e.1 = k := f1
    obtain ⟨t', ev⟩ := (show ∃ t', v = Value.int e.2 t' from f2)
    subst f1
    rcases L2.keyIs_shape (show L2.keyIs (Sum.inr e.1) en.key = true from hk2) with ⟨i, t, z1, _⟩ | ⟨x, t, z1, z2⟩
    · cases z1
    · cases z1
      refine ⟨t, t', ?_⟩
      rw [hg, z2, hk3, ev]
  have hob : (h'.push { cls := .type "list", data := .seq (as.map Value.ref).toArray }).get? h'.objs.size = some (seqObj "list" (as.map Value.ref).toArray 0) := Heap.get?_push_size _ rfl
  have kb : ∀ b o, h'.get? b = some o → (h'.push { cls := .type "list", data := .seq (as.map Value.ref).toArray }).get? b = some o := fun b o e => Heap.get?_push_of_some _ e
  have ne0 : ∀ b o, h'.get? b = some o → b ≠ h'.objs.size := fun b o e => Nat.ne_of_lt (Heap.lt_size e)
  generalize hh2 : h'.push { cls := .type "list", data := .seq (as.map Value.ref).toArray } = h2 at hob kb ⊢
  have eR : PySem.W.EachIs (fun v (e : Str × Int) => ∃ (j : Nat) (b : Addr), v = Value.ref b ∧ as[j]? = some b ∧ ks[j]? = some e) (as.map Value.ref) ks := by
    refine each_of_idx (by rw [List.length_map]; exact lak) fun j v e hv he => ?_
    rw [List.getElem?_map] at hv
    cases hj : as[j]? with
    | none => rw [hj] at hv; cases hv
    | some b => rw [hj] at hv; cases hv; exact ⟨j, b, rfl, hj, he⟩
  refine PySem.W.list_sort_data (s := { s with heap := h2, toks := tk }) (R := fun v (e : Str × Int) => ∃ (j : Nat) (b : Addr), v = Value.ref b ∧ as[j]? = some b ∧ ks[j]? = some e) (enc := encSI) hob eR (eR.mono fun v e he => ?_) (PySem.W.AllAlike.of alike_si) (PySem.W.Sortable.tuples fun e => ⟨_, _, rfl⟩) (sl _ hsz) (fun e _ => ?_) fun out ho2 eo => ?_
  · obtain ⟨j, b, rfl, hj, hke⟩ := he
    obtain ⟨t, t', hg⟩ := ent j b e hj hke
    exact ⟨[], Reads.tuple (kb _ _ hg) rfl rfl (.cons (.str _ _) (.cons (.int _ _) .nil)), by simp⟩
  · show X.A.units + 1 + 1 + (encSI e).depth < cLine
    have : (encSI e).depth ≤ 1 := by unfold encSI; simp [PyData.depth, PyData.depthAll]
    omega
  · obtain ⟨bs, rfl⟩ := refs_inv (out := out) fun v hv => by
      obtain ⟨e, _, j, b, hb, _⟩ := eo.left v hv
      exact ⟨b, hb⟩
    show EP X pins σ Q (.ref h'.objs.size) { s with heap := sortedHeap h2 h'.objs.size (as.map Value.ref) (List.toArray (bs.map Value.ref)), toks := tk }
    have kF : ∀ b o, b ≠ h'.objs.size → h2.get? b = some o → (sortedHeap h2 h'.objs.size (as.map Value.ref) (List.toArray (bs.map Value.ref))).get? b = some o := fun b o hb e => (PyProof.Rows.sortedHeap_old hb (Heap.lt_size e)).trans e
    have kS : ∀ b o, s.heap.get? b = some o → (sortedHeap h2 h'.objs.size (as.map Value.ref) (List.toArray (bs.map Value.ref))).get? b = some o := fun b o e => kF b o (ne0 _ _ (hk b o e)) (kb _ _ (hk b o e))
    obtain ⟨eF, heF⟩ := PyProof.Rows.sortedHeap_at (vs := as.map Value.ref) (out := List.toArray (bs.map Value.ref)) hob
    have I1 : Inv X pins σ H { s with heap := sortedHeap h2 h'.objs.size (as.map Value.ref) (List.toArray (bs.map Value.ref)), toks := tk } := I.kept (t' := tk) kS
    have hn0 : H h'.objs.size = none := I.hok.fresh (Nat.le_of_lt hlt)
    have lb : bs.length = ks.length := by rw [List.length_map] at ho2; exact ho2
    have I2 : Inv X pins σ (upd H h'.objs.size (.lst (bs.map V.ref))) { s with heap := sortedHeap h2 h'.objs.size (as.map Value.ref) (List.toArray (bs.map Value.ref)), toks := tk } :=
      I1.take (h' := sortedHeap h2 h'.objs.size (as.map Value.ref) (List.toArray (bs.map Value.ref))) (t' := tk) (fun b ob _ e => e) (I.fpOk (Nat.le_of_lt hlt) hn0)
        ⟨by rw [List.length_map]; exact sl _ (by omega), bs.map Value.ref, eF, vals_refs bs, heF⟩
    have nd : as.Nodup := List.Pairwise.imp (fun h => Nat.ne_of_lt h) hG.rise
    have bmem : ∀ (j : Nat) (b : Addr) (e : Str × Int), bs[j]? = some b → (srtSI ks)[j]? = some e → ∃ i, as[i]? = some b ∧ ks[i]? = some e := fun j b e hb he => by
      obtain ⟨i, b2, z1, z2, z3⟩ := each_at eo (j := j) (a := Value.ref b) (b := e) (by rw [List.getElem?_map, hb]; rfl) he
      cases z1
      exact ⟨i, z2, z3⟩
    have lsr : (srtSI ks).length = ks.length := List.length_mergeSort _
    obtain ⟨H2, I3, g, qt⟩ := DX.takeT (P := fun b vs => ∃ (i : Nat) (e : Str × Int), as[i]? = some b ∧ ks[i]? = some e ∧ vs = [.str e.1, .int e.2]) I as _ I2 nd fun b hb => by
      obtain ⟨i, hi⟩ := List.mem_iff_getElem?.mp hb
      have hil : i < ks.length := by have := (List.getElem?_eq_some_iff.mp hi).1; omega
      obtain ⟨e, he⟩ : ∃ e, ks[i]? = some e := ⟨ks[i], by simp [hil]⟩
      obtain ⟨t, t', hg⟩ := ent i b e hi he
      have hbl : s.heap.objs.size ≤ b := Nat.le_of_lt (hG.above b hb)
      refine ⟨hbl, ?_, [.str e.1, .int e.2], ⟨i, e, hi, he, rfl⟩, fun H3 => ⟨(by rw [sizeLine_eq]; show 2 ≤ 16777216; omega), [Value.str e.1 t, Value.int e.2 t'], .cons ⟨_, rfl⟩ (.cons ⟨_, rfl⟩ .nil), ⟨_, kF _ _ (ne0 _ _ hg) (kb _ _ hg), rfl, 0, rfl⟩⟩⟩
      rw [upd_ne (ne0 _ _ hg)]
      exact I.hok.fresh hbl
    have gr : ∀ b o, H b = some o → H2 b = some o := fun b o e => g b o (by rw [upd_ne (ne_of_none e hn0)]; exact e)
    refine ⟨.ref h'.objs.size, H2, I3, rfl, q H2 h'.objs.size bs gr hn0 (g _ _ upd_same) (by rw [lsr]; exact lb) fun j b e hb he => ?_⟩
    obtain ⟨i, i1, i2⟩ := bmem j b e hb he
    obtain ⟨vs, ⟨i', e', j1, j2, ev⟩, hH⟩ := qt b (List.mem_of_getElem? i1)
    have eij : i = i' := (List.getElem?_inj (List.getElem?_eq_some_iff.mp i1).1 nd).mp (i1.trans j1.symm)
    subst eij
    have ee : e' = e := Option.some.inj (j2.symm.trans i2)
    rw [ev, ee] at hH
    obtain ⟨t, t', hg⟩ := ent i b e i1 i2
    exact ⟨I.hok.fresh (Nat.le_of_lt (hG.above b (List.mem_of_getElem? i1))), ne0 _ _ hg, hH⟩
end Ab

set_option Elab.async false
set_option linter.all false
set_option maxRecDepth 100000
set_option maxHeartbeats 4000000
namespace Ab
open PySem PySem.Spec PyProof.Rows L2
section
variable {K : PySem.W.Frag} {T : Tt}
theorem zk_ints {P : Hp} : ∀ {kvs : List (Key × V)} {ks : List (Str × Int)}, Zk K P kvs (kd D.int ks) → kvs = kdI ks
  | [], [], _ => rfl
  | [], _ :: _, h => by cases h.1
  | _ :: _, [], h => by cases h.1
  | p :: kvs, e :: ks, h => by
    obtain ⟨d, r, e1, rp, h2⟩ := h.uncons
    have e2 : (Sum.inr e.1, D.int e.2) = (p.1, d) := (List.cons.inj e1).1
    have e3 : kd D.int ks = r := (List.cons.inj e1).2
    have e4 : d = D.int e.2 := (Prod.mk.inj e2).2.symm
    have e5 : p.1 = Sum.inr e.1 := (Prod.mk.inj e2).1.symm
    subst e4
    have ev := rp.toI
    rw [← e3] at h2
    have ih := zk_ints h2
    obtain ⟨k, v⟩ := p
    have e5 : k = Sum.inr e.1 := e5
    have ev : v = V.int e.2 := ev
    subst e5 ev
    rw [ih]; rfl
open Classical in
/-- P and the new objects of L -/
noncomputable def grow (P H H2 : Hp) (L : List Addr) : Hp := fun b => match P b with | some o => some o | none => if H b = none ∧ b ∈ L then H2 b else none
theorem grow_ex {P H H2 : Hp} {L : List Addr} : Ex P (grow P H H2 L) := fun a o e => by unfold grow; rw [e]
theorem grow_new {P H H2 : Hp} {L : List Addr} {b : Addr} {o : HO} (hp : P b = none) (hh : H b = none) (hb : b ∈ L) (e : H2 b = some o) : grow P H H2 L b = some o := by
  unfold grow; rw [hp]; show (if H b = none ∧ b ∈ L then H2 b else none) = some o; rw [if_pos ⟨hh, hb⟩]; exact e
theorem grow_of {P H H2 : Hp} {L : List Addr} (a : Addr) (o : HO) (h : grow P H H2 L a = some o) : P a = some o ∨ (H a = none ∧ H2 a = some o) := by
  unfold grow at h
  cases e : P a with
  | some u => rw [e] at h; exact .inl h
  | none =>
    rw [e] at h
    dsimp only at h
    split at h
    · rename_i q; exact .inr ⟨q.1, h⟩
    · cases h
theorem repL_at {P : Hp} : ∀ {vs : List V} {ds : List D}, vs.length = ds.length → (∀ (j : Nat) v d, vs[j]? = some v → ds[j]? = some d → Rep K P v d) → RepL K P vs ds
  | [], [], _, _ => .nil
  | [], _ :: _, h, _ => by cases h
  | _ :: _, [], h, _ => by cases h
  | v :: vs, d :: ds, h, f => .cons (f 0 v d rfl rfl) (repL_at (by simpa using h) fun j x y hx hy => f (j + 1) x y hx hy)
/-- sorted(o.items()): texts for keys, ints for values -/
def xSortIt (o : XE K T) : XE K T where
  t := fun W => tCB rSortIK (tCons (tBM0 K "dict" rItemsK (o.t W)) tNil)
  w := fun ρ M Φ Ξ => o.w ρ M (fun x M1 => asR x fun p => ∃ ks : List (Str × Int), M1 p = some (.dct (kd D.int ks)) ∧ ks.length ≤ 100000 ∧ Φ (.lst ((srtSI ks).map encP)) M1) Ξ
  ok := fun h P σ H wr rs Q hq hx => o.ok h wr rs (fun v x P1 M1 H1 h1 s1 r1 => by
    obtain ⟨a, rfl, ks, hm, hl, h2⟩ := asR.get h1
    obtain ⟨ob, ho, rm⟩ := s1.wr.chg _ _ hm
    cases rm with
    | @dct kvs _ hk hr =>
      have e := zk_ints (K := K) (P := P1) (kvs := kvs) (ks := ks) ⟨hk, hr⟩
      subst e
      rw [r1.toR]
      refine ⟨.inr (.inr (.inl ⟨rfl, .inl ⟨_, ho⟩⟩)), a, _, rfl, rfl, ho, fun p hp => ?_⟩
      have pa : p ≠ a := fun z => by rw [z, ho] at hp; cases hp
      have s2 : Step K T P1 M1 H1 P1 M1 (upd H1 p (DX.itemsO p a)) := (Step.refl s1.wr).side hp (s1.wr.pfree hp) (s1.wr.mfree hp) (s1.wr.tne hp)
      refine ⟨p, a, ks, rfl, upd_same, by rw [upd_ne pa.symm]; exact ho, hl, fun H' l as hH hl0 hl1 hlen hat => ?_⟩
      have s3 : Step K T P1 M1 (upd H1 p (DX.itemsO p a)) (grow P1 (upd H1 p (DX.itemsO p a)) H' (l :: as)) M1 H' := Step.grow s2.wr hH grow_ex grow_of
      have lp : P1 l = none := s2.wr.pfree hl0
      refine hq _ _ _ _ _ h2 ((s1.trans s2).trans s3) (.lst (grow_new lp hl0 List.mem_cons_self hl1) (repL_at (by simp [hlen]) fun j v d hv hd => ?_))
      rw [List.getElem?_map] at hv hd
      cases ea : as[j]? with
      | none => rw [ea] at hv; cases hv
      | some b =>
        cases es : (srtSI ks)[j]? with
        | none => rw [es] at hd; cases hd
        | some e =>
          rw [ea] at hv; rw [es] at hd
          cases hv; cases hd
          obtain ⟨q1, q2, q3⟩ := hat j b e ea es
          exact .tup (grow_new (s2.wr.pfree q1) q1 (List.mem_cons_of_mem _ (List.mem_of_getElem? ea)) q3) (.cons (.str _) (.cons (.int _) .nil))) hx
end
section
variable {X : Cx} {W : WX} {T : Tt} {xo : XE X.K T} {eo : Expr} {pos : Pos}
theorem dSortIt {apos cpos p : Pos} (hc : X.calm = true) (hu : X.A.units + 64 < cLine) (hm : X.mg "sorted" = none) (ho : PE X eo (xo.t W)) (hbase : attributeBase eo "items" X.env (eval eo X.env) = eval eo X.env := by rfl) (hline : (apos.endLine == cpos.line) = true := by rfl) (hg : Gl X "sorted" := by rfl)
    (he : starEach [.Call (.Attribute eo "items" apos) [] [] cpos] X.env = (false, eval (.Call (.Attribute eo "items" apos) [] [] cpos) X.env) :: starEach [] X.env := by rfl) (hpl : (backTo pos (starEach [] X.env)).any (·.1) = false := by rfl) :
    PE X (.Call (.Name "sorted" p) [.Call (.Attribute eo "items" apos) [] [] cpos] [] pos) ((xSortIt xo).t W) :=
  pe_callB (cr_sortIK hc hu) hg hm (show bootBuiltins "sorted" = some (.builtin "sorted") by decide +kernel) (pa_cons (pe_bm0 PySem.F.plainAttrs_dict PySem.F.slot_dict_items PySem.F.type_dict_items mt_itemsK ho hbase hline) pa_nil he) (by decide) (by decide) he hpl
end
/-! ### the rows in order -/
theorem ltS_irrefl (a : Str) : ltS a a = false := by
  unfold ltS
  exact decide_eq_false (List.lt_irrefl _)
theorem dle_si {e f : Str × Int} : PySem.W.dataLe false encSI e f = !(decide (ltS f.1 e.1 = true ∨ (f.1 = e.1 ∧ f.2 < e.2))) := by
  have h := PySem.W.DatumOrd.lt_eq (α := Str × Int) (f.1, f.2) (e.1, e.2)
  have h2 : PySem.W.dataLt (encSI f) (encSI e) = (if f.1 = e.1 then decide (f.2 < e.2) else decide (f.1.cps.toList < e.1.cps.toList)) := h
  rw [PySem.W.dataLe_eq]
  show (!PySem.W.dataLt (encSI f) (encSI e)) = _
  rw [h2]
  congr 1
  have e1 : ltS f.1 e.1 = decide (f.1.cps.toList < e.1.cps.toList) := by unfold ltS; rfl
  by_cases q : f.1 = e.1
  · rw [if_pos q]
    have : ltS f.1 e.1 = false := by rw [q]; exact ltS_irrefl _
    rw [this]; simp [q]
  · rw [if_neg q, ← e1]; simp [q]
theorem srtSI_perm (ks : List (Str × Int)) : (srtSI ks).Perm ks := List.mergeSort_perm _ _
theorem srtSI_len (ks : List (Str × Int)) : (srtSI ks).length = ks.length := List.length_mergeSort _
theorem srtSI_sorted {ks : List (Str × Int)} (nd : (ks.map Prod.fst).Nodup) : (srtSI ks).Pairwise fun a b => ltS a.1 b.1 = true := by
  have hp := srtSI_perm ks
  have nd2 : ((srtSI ks).map Prod.fst).Nodup := (hp.map Prod.fst).symm.nodup nd
  have srt : (srtSI ks).Pairwise fun a b => PySem.W.dataLe false encSI a b = true := by
    refine List.pairwise_mergeSort (fun a b c h1 h2 => ?_) (fun a b => ?_) ks
    · rw [dle_si] at h1 h2 ⊢
      simp only [Bool.not_eq_true', decide_eq_false_iff_not, not_or] at h1 h2 ⊢
      refine ⟨fun z => ?_, fun ⟨z1, z2⟩ => ?_⟩
      · by_cases q : b.1 = a.1
        · rw [← q] at z; exact h2.1 z
        · rcases ltS_tot q with w | w
          · exact h1.1 w
          · exact h2.1 (ltS_trans z w)
      · by_cases q : b.1 = a.1
        · have h3 : ¬ b.2 < a.2 := fun w => h1.2 ⟨q, w⟩
          have h4 : ¬ c.2 < b.2 := fun w => h2.2 ⟨by rw [z1, q], w⟩
          omega
        · rcases ltS_tot q with w | w
          · exact h1.1 w
          · rw [← z1] at w; exact h2.1 w
    · rw [dle_si, dle_si]
      by_cases q : a.1 = b.1
      · have i1 := ltS_irrefl b.1
        simp only [q, i1]
        simp; omega
      · rcases ltS_tot q with w | w
        · have : ltS b.1 a.1 = false := by
            cases z : ltS b.1 a.1 with
            | false => rfl
            | true => exact absurd (ltS_trans w z) (by rw [ltS_irrefl]; decide)
          simp [this, q, Ne.symm q]
        · have : ltS a.1 b.1 = false := by
            cases z : ltS a.1 b.1 with
            | false => rfl
            | true => exact absurd (ltS_trans w z) (by rw [ltS_irrefl]; decide)
          simp [this, q]
  rw [List.Nodup, List.pairwise_map] at nd2
  refine (List.Pairwise.and srt nd2).imp fun {a b} ⟨h1, h2⟩ => ?_
  rw [dle_si] at h1
  simp only [Bool.not_eq_true', decide_eq_false_iff_not, not_or] at h1
  rcases ltS_tot h2 with w | w
  · exact w
  · exact absurd w h1.1
end Ab

set_option Elab.async false
set_option linter.all false
set_option maxRecDepth 100000
set_option maxHeartbeats 4000000
namespace Ab
open PySem PySem.Spec PyProof.Rows L2
/-! ### plain data without truth values: equal or not -/
def Nb : Nat → D → Prop
  | 0, _ => False
  | n + 1, d => (d = .non ∨ (∃ i, d = .int i) ∨ ∃ s, d = .str s ∧ Kk s) ∨ ∃ ds : List D, (d = .tup ds ∨ d = .lst ds) ∧ ds.length ≤ 1000 ∧ ∀ x ∈ ds, Nb n x
theorem nb_non {n : Nat} : Nb (n + 1) .non := .inl (.inl rfl)
theorem nb_int {n : Nat} {i : Int} : Nb (n + 1) (.int i) := .inl (.inr (.inl ⟨i, rfl⟩))
theorem nb_str {n : Nat} {i : Str} (h : Kk i) : Nb (n + 1) (.str i) := .inl (.inr (.inr ⟨i, rfl, h⟩))
theorem nb_tup {n : Nat} {ds : List D} (hl : ds.length ≤ 1000) (h : ∀ x ∈ ds, Nb n x) : Nb (n + 1) (.tup ds) := .inr ⟨ds, .inl rfl, hl, h⟩
theorem nb_lst {n : Nat} {ds : List D} (hl : ds.length ≤ 1000) (h : ∀ x ∈ ds, Nb n x) : Nb (n + 1) (.lst ds) := .inr ⟨ds, .inr rfl, hl, h⟩
theorem Nb.up {n : Nat} : ∀ {d : D}, Nb n d → Nb (n + 1) d := by
  induction n with
  | zero => intro d h; exact h.elim
  | succ n ih =>
    intro d h
    rcases h with h | ⟨ds, h1, h2, h3⟩
    · exact .inl h
    · exact .inr ⟨ds, h1, h2, fun x hx => ih (h3 x hx)⟩
theorem Nb.pl {n : Nat} : ∀ {d : D}, Nb n d → Pl n d := by
  induction n with
  | zero => intro d h; exact h.elim
  | succ n ih =>
    intro d h
    rcases h with (h | h | ⟨s, h, _⟩) | ⟨ds, h1, h2, h3⟩
    · exact .inl (.inl h)
    · exact .inl (.inr (.inl h))
    · exact .inl (.inr (.inr ⟨s, h⟩))
    · exact .inr ⟨ds, h1, h2, fun x hx => ih (h3 x hx)⟩
theorem Nb.lt {n : Nat} : ∀ {d : D}, Nb n d → LtN n d := by
  induction n with
  | zero => intro d h; exact h.elim
  | succ n ih =>
    intro d h
    rcases h with (h | ⟨i, h⟩ | ⟨s, h, k⟩) | ⟨ds, h1, h2, h3⟩
    · rw [h]; exact lt_non
    · rw [h]; exact lt_int
    · rw [h]; exact lt_str k
    · rcases h1 with rfl | rfl
      · exact lt_tup fun x hx => ih (h3 x hx)
      · exact lt_lst fun x hx => ih (h3 x hx)
theorem dP_tup {ds : List D} {x : PyData} (h : dP (.tup ds) = some x) : ∃ xs, dPs ds = some xs ∧ x = .tuple xs := by
  unfold dP at h
  cases e : dPs ds with
  | none => rw [e] at h; cases h
  | some xs => rw [e] at h; cases h; exact ⟨xs, rfl, rfl⟩
theorem dP_lst {ds : List D} {x : PyData} (h : dP (.lst ds) = some x) : ∃ xs, dPs ds = some xs ∧ x = .list xs := by
  unfold dP at h
  cases e : dPs ds with
  | none => rw [e] at h; cases h
  | some xs => rw [e] at h; cases h; exact ⟨xs, rfl, rfl⟩
theorem dPs_cons {d : D} {ds : List D} {xs : List PyData} (h : dPs (d :: ds) = some xs) : ∃ x ys, dP d = some x ∧ dPs ds = some ys ∧ xs = x :: ys := by
  unfold dPs at h
  cases e1 : dP d with
  | none => rw [e1] at h; cases h
  | some x =>
    cases e2 : dPs ds with
    | none => rw [e1, e2] at h; cases h
    | some ys => rw [e1, e2] at h; cases h; exact ⟨x, ys, rfl, rfl, rfl⟩
theorem nb_eqv {n : Nat} : ∀ {a b : D} {x y : PyData}, Nb n a → Nb n b → dP a = some x → dP b = some y → (PyData.eqv x y = true ↔ a = b) := by
  induction n with
  | zero => intro a b x y h; exact h.elim
  | succ n ih =>
    intro a b x y ha hb ea eb
    have all : ∀ (as bs : List D) (xs ys : List PyData), (∀ d ∈ as, Nb n d) → (∀ d ∈ bs, Nb n d) → dPs as = some xs → dPs bs = some ys → (PyData.eqvAll xs ys = true ↔ as = bs) := by
      intro as
      induction as with
      | nil =>
        intro bs xs ys _ _ e1 e2
        cases e1
        cases bs with
        | nil => cases e2; simp [PyData.eqvAll]
        | cons b bs => obtain ⟨y, ys', _, _, rfl⟩ := dPs_cons e2; simp [PyData.eqvAll]
      | cons a as ih2 =>
        intro bs xs ys h1 h2 e1 e2
        obtain ⟨x, xs', q1, q2, rfl⟩ := dPs_cons e1
        cases bs with
        | nil => cases e2; simp [PyData.eqvAll]
        | cons b bs =>
          obtain ⟨y, ys', r1, r2, rfl⟩ := dPs_cons e2
          have i1 := ih (h1 a List.mem_cons_self) (h2 b List.mem_cons_self) q1 r1
          have i2 := ih2 bs xs' ys' (fun d hd => h1 d (List.mem_cons_of_mem _ hd)) (fun d hd => h2 d (List.mem_cons_of_mem _ hd)) q2 r2
          rw [PyData.eqvAll, Bool.and_eq_true, i1, i2]
          constructor
          · rintro ⟨rfl, rfl⟩; rfl
          · intro z; cases z; exact ⟨rfl, rfl⟩
    rcases ha with (rfl | ⟨i, rfl⟩ | ⟨s, rfl, _⟩) | ⟨as, ha1, _, ha3⟩
    · cases ea
      rcases hb with (rfl | ⟨j, rfl⟩ | ⟨t, rfl, _⟩) | ⟨bs, rfl | rfl, _, _⟩
      · cases eb; simp [PyData.eqv]
      · cases eb; simp [PyData.eqv]
      · cases eb; simp [PyData.eqv]
      · obtain ⟨_, _, rfl⟩ := dP_tup eb; simp [PyData.eqv]
      · obtain ⟨_, _, rfl⟩ := dP_lst eb; simp [PyData.eqv]
    · cases ea
      rcases hb with (rfl | ⟨j, rfl⟩ | ⟨t, rfl, _⟩) | ⟨bs, rfl | rfl, _, _⟩
      · cases eb; simp [PyData.eqv]
      · cases eb; simp [PyData.eqv]
      · cases eb; simp [PyData.eqv]
      · obtain ⟨_, _, rfl⟩ := dP_tup eb; simp [PyData.eqv]
      · obtain ⟨_, _, rfl⟩ := dP_lst eb; simp [PyData.eqv]
    · cases ea
      rcases hb with (rfl | ⟨j, rfl⟩ | ⟨t, rfl, _⟩) | ⟨bs, rfl | rfl, _, _⟩
      · cases eb; simp [PyData.eqv]
      · cases eb; simp [PyData.eqv]
      · cases eb; simp [PyData.eqv]
      · obtain ⟨_, _, rfl⟩ := dP_tup eb; simp [PyData.eqv]
      · obtain ⟨_, _, rfl⟩ := dP_lst eb; simp [PyData.eqv]
    · rcases ha1 with rfl | rfl
      · obtain ⟨xs, q, rfl⟩ := dP_tup ea
        rcases hb with (rfl | ⟨j, rfl⟩ | ⟨t, rfl, _⟩) | ⟨bs, rfl | rfl, _, hb3⟩
        · cases eb; simp [PyData.eqv]
        · cases eb; simp [PyData.eqv]
        · cases eb; simp [PyData.eqv]
        · obtain ⟨ys, r, rfl⟩ := dP_tup eb
          have := all as bs xs ys ha3 hb3 q r
          rw [PyData.eqv, this]
          exact ⟨fun z => by rw [z], fun z => by cases z; rfl⟩
        · obtain ⟨_, _, rfl⟩ := dP_lst eb; simp [PyData.eqv]
      · obtain ⟨xs, q, rfl⟩ := dP_lst ea
        rcases hb with (rfl | ⟨j, rfl⟩ | ⟨t, rfl, _⟩) | ⟨bs, rfl | rfl, _, hb3⟩
        · cases eb; simp [PyData.eqv]
        · cases eb; simp [PyData.eqv]
        · cases eb; simp [PyData.eqv]
        · obtain ⟨_, _, rfl⟩ := dP_tup eb; simp [PyData.eqv]
        · obtain ⟨ys, r, rfl⟩ := dP_lst eb
          have := all as bs xs ys ha3 hb3 q r
          rw [PyData.eqv, this]
          exact ⟨fun z => by rw [z], fun z => by cases z; rfl⟩
/-- two plain data compared -/
theorem eqNb {n : Nat} {a b : D} {M : Mh} {R : Bool → Prop} (hn : n ≤ 50) (ha : Nb n a) (hb : Nb n b) (h1 : a = b → R true) (h2 : a ≠ b → R false) : asPy a M fun x => asPy b M fun y => SeqAt.shaped x = true ∧ SeqAt.shaped y = true ∧ R (PyData.eqv x y) := by
  obtain ⟨x, e, c, dd⟩ := ha.lt
  obtain ⟨y, e', c', dd'⟩ := hb.lt
  have g : ∀ (d : D) (z : PyData), Nb n d → dP d = some z → ∀ k : PyData → Prop, k z → asPy d M k := fun d z hd ez k hk => by
    cases d with
    | ref p => cases ez
    | _ => exact ⟨z, ez, hk⟩
  refine g a x ha e _ (g b y hb e' _ ⟨lt_sh (by omega) c dd, lt_sh (by omega) c' dd', ?_⟩)
  have := nb_eqv ha hb e e'
  by_cases q : a = b
  · rw [this.mpr q]; exact h1 q
  · have : PyData.eqv x y = false := by
      cases z : PyData.eqv x y with
      | false => rfl
      | true => exact absurd (this.mp z) q
    rw [this]; exact h2 q
theorem nb_P {n : Nat} {p : Str × Int} (h : Kk p.1) : Nb (n + 2) (encP p) := nb_tup (by simp) fun x hx => by
  rcases List.mem_cons.mp hx with rfl | hx
  · exact nb_str h
  · rw [List.mem_singleton.mp hx]; exact nb_int
theorem bestL_mem : ∀ {L : List (Str × Int)} {p : Str × Int}, bestL L = some p → p ∈ L := by
  have key : ∀ (r : List (Str × Int)) {p : Str × Int}, bestL r.reverse = some p → p ∈ r.reverse := by
    intro r
    induction r with
    | nil => intro p h; cases h
    | cons a r ih =>
      intro p h
      rw [List.reverse_cons, bestL_snoc] at h
      rw [List.reverse_cons]
      cases e : bestL r.reverse with
      | none => rw [e] at h; cases h; exact List.mem_append_right _ (List.mem_singleton.mpr rfl)
      | some q =>
        rw [e] at h
        simp only at h
        split at h
        · cases h; exact List.mem_append_right _ (List.mem_singleton.mpr rfl)
        · cases h; exact List.mem_append_left _ (ih e)
  intro L p h
  have := key L.reverse (p := p) (by rw [List.reverse_reverse]; exact h)
  rwa [List.reverse_reverse] at this
theorem nb_ask {k : Str} {L : List (Str × Int)} (hl : L.length ≤ 1000) (hk : ∀ p ∈ L, Kk p.1) : Nb 3 (askL k L) := by
  unfold askL
  split
  · cases L with
    | nil => exact nb_non
    | cons p _ => exact nb_int
  · split
    · exact nb_int
    · split
      · exact nb_int
      · split
        · exact nb_tup (by rw [List.length_map]; exact hl) fun x hx => by
            obtain ⟨p, hp, rfl⟩ := List.mem_map.mp hx
            exact nb_P (hk p hp)
        · unfold encB
          cases e : bestL L with
          | none => exact nb_non
          | some p => exact nb_P (hk p (bestL_mem e))
/-! ### rows from the sorted items -/
theorem rows_of_items {ks : List (Str × Int)} (nd : (ks.map Prod.fst).Nodup) (x y : Str) : Rows (rmI ks) x y ((srtSI ks).filter fun e => inC x y e.1) := by
  refine ⟨(srtSI_sorted nd).filter _, fun k v => ?_⟩
  rw [List.mem_filter, (srtSI_perm ks).mem_iff]
  constructor
  · rintro ⟨h1, h2⟩; exact ⟨vK_of nd h1, h2⟩
  · rintro ⟨h1, h2⟩; exact ⟨vK_mem h1, h2⟩
/-! ### reach -/
def tchG (g : List Wt) (c : Str × Str) : Bool := g.any fun w => inC c.1 c.2 w.1
def tchs (g : List Wt) (cs : List (Str × Str)) : Bool := cs.any fun c => tchG g c
def rchN (L : List Cm) (cs : List (Str × Str)) (m : Nat) : Nat := m + ((L.drop m).takeWhile fun c => !tchs c.2 cs).length
theorem tw_at {α : Type} {p : α → Bool} : ∀ {l : List α} {j : Nat} {a : α}, j < (l.takeWhile p).length → l[j]? = some a → p a = true
  | [], j, a, h, _ => by simp at h
  | x :: l, j, a, h, e => by
    by_cases q : p x = true
    · rw [List.takeWhile_cons_of_pos q] at h
      cases j with
      | zero => cases e; exact q
      | succ j => exact tw_at (l := l) (by simpa using h) e
    · rw [List.takeWhile_cons_of_neg q] at h; simp at h
theorem tw_end {α : Type} {p : α → Bool} : ∀ {l : List α} {a : α}, l[(l.takeWhile p).length]? = some a → p a = false
  | [], a, e => by simp at e
  | x :: l, a, e => by
    by_cases q : p x = true
    · rw [List.takeWhile_cons_of_pos q] at e
      exact tw_end (l := l) e
    · rw [List.takeWhile_cons_of_neg q] at e
      cases e; simpa using q
theorem tw_len {α : Type} {p : α → Bool} (l : List α) : (l.takeWhile p).length ≤ l.length := (List.takeWhile_sublist p).length_le
theorem rch_le {L : List Cm} {cs : List (Str × Str)} {m : Nat} (h : m ≤ L.length) : m ≤ rchN L cs m ∧ rchN L cs m ≤ L.length := by
  unfold rchN
  have := tw_len (p := fun c : Cm => !tchs c.2 cs) (L.drop m)
  rw [List.length_drop] at this
  omega
theorem rch_no {L : List Cm} {cs : List (Str × Str)} {m j : Nat} {c : Cm} (h1 : m ≤ j) (h2 : j < rchN L cs m) (e : L[j]? = some c) : tchs c.2 cs = false := by
  unfold rchN at h2
  have := tw_at (p := fun c : Cm => !tchs c.2 cs) (l := L.drop m) (j := j - m) (a := c) (by omega) (by rw [List.getElem?_drop, show m + (j - m) = j by omega]; exact e)
  simpa using this
theorem rch_yes {L : List Cm} {cs : List (Str × Str)} {m : Nat} {c : Cm} (e : L[rchN L cs m]? = some c) : tchs c.2 cs = true := by
  have := tw_end (p := fun c : Cm => !tchs c.2 cs) (l := L.drop m) (a := c) (by rw [List.getElem?_drop]; exact e)
  simpa using this
theorem rch_eq {L : List Cm} {cs : List (Str × Str)} {m d : Nat} (hm : m ≤ d) (hd : d ≤ L.length) (no : ∀ j c, m ≤ j → j < d → L[j]? = some c → tchs c.2 cs = false) (yes : ∀ c, L[d]? = some c → tchs c.2 cs = true) : d = rchN L cs m := by
  have hml : m ≤ L.length := by omega
  obtain ⟨h1, h2⟩ := rch_le (cs := cs) hml
  rcases Nat.lt_trichotomy d (rchN L cs m) with h | h | h
  · have hdl : d < L.length := by omega
    have e : L[d]? = some L[d] := by simp [hdl]
    have a := yes _ e
    rw [rch_no hm h e] at a; cases a
  · exact h
  · have hdl : rchN L cs m < L.length := by omega
    have e : L[rchN L cs m]? = some L[rchN L cs m] := by simp [hdl]
    have a := no _ _ h1 h e
    rw [rch_yes e] at a; cases a
end Ab

set_option Elab.async false
set_option linter.all false
set_option maxRecDepth 100000
set_option maxHeartbeats 4000000
namespace Ab
open PySem PySem.Spec PyProof.Rows L2
section
variable {X : Cx} {W : WX} {T : Tt} {pos : Pos}
/-- a global text -/
theorem dGlS {i : Str} {x : Str} (hm : ∃ u, X.mg x = some u ∧ RelV (.str i) u) (hg : Gl X x := by rfl) (hd : (x == ("__debug__" : Str)) = false := by decide) : PE X (.Name x pos) ((xStr (K := X.K) (T := T) i).t W) := let ⟨_, hm, r⟩ := hm; pe_glob hg hm r hd
end
section
variable {K : PySem.W.Frag} {T : Tt}
/-- ord -/
def bOrd : XB K T where
  r := fun xs H Q => ∃ x, xs = [V.str x] ∧ x.length = 1 ∧ Q (V.int ↑(x.cps.getD 0 0)) H
  w := fun ds M Φ => arg1 ds fun d => asS d fun z => z.length = 1 ∧ Φ (.int (z.cps.getD 0 0)) M
  ok := fun h P H vs wr r Q hq => by
    obtain ⟨d, rfl, h1⟩ := h.get
    obtain ⟨v, rfl, r1⟩ := r.one
    obtain ⟨z, rfl, h2, h3⟩ := h1.get
    exact ⟨z, by rw [r1.toS], h2, hq _ _ _ _ _ h3 (Step.refl wr) (.int _)⟩
theorem call_ord1 {X : Cx} : CallR X (.builtin "ord") (bOrd (K := K) (T := T)).r := L2.call_ord
end
/-! ### sorted(xs), data -/
def rSortD (K : PySem.W.Frag) : List V → Hp → VK → Prop := fun vs H Q => ∃ (a : Addr) (xs : List V) (bs : List PyData), vs = [.ref a] ∧ SqL K H a xs ∧ xs.length = bs.length ∧ (∀ (j : Nat) x b, xs[j]? = some x → bs[j]? = some b → L2.Dp K H x b) ∧ PySem.W.AllAlike bs ∧ PySem.W.Sortable bs ∧ bs.length ≤ 100000 ∧ (∀ b ∈ bs, b.depth ≤ 8) ∧
  ∀ p, H p = none → Q (.ref p) (upd H p (.lst (((xs.zip bs).mergeSort (PySem.W.dataLe false Prod.snd)).map Prod.fst)))
theorem zip_snd {α β : Type} : ∀ {xs : List α} {bs : List β}, xs.length = bs.length → (xs.zip bs).map Prod.snd = bs := fun {xs bs} h => by rw [List.map_snd_zip]; omega
theorem cr_sortD {X : Cx} (hc : X.calm = true) (hu : X.A.units + 64 < cLine) : CallR X (.builtin "sorted") (rSortD X.K) := by
  intro pins s σ H xs us Q I r h
  obtain ⟨a, vs, bs, rfl, hq, hl, hd, al, so, sz, dp, q⟩ := h
  obtain rfl := Vals.ref1 r
  obtain ⟨its, rl, pl, hz⟩ := I.list hq
  have hil : its.length = vs.length := (Paired.length rl).symm
  have hzl : (vs.zip bs).length = vs.length := by rw [List.length_zip]; omega
  have zg : ∀ (j : Nat) (e : V × PyData), (vs.zip bs)[j]? = some e → vs[j]? = some e.1 ∧ bs[j]? = some e.2 := fun j e he => by
    rw [List.getElem?_zip_eq_some] at he; exact he
  have e2 : (vs.zip bs).map Prod.snd = bs := zip_snd hl
  refine PySem.W.sorted_data (β := V × PyData) (bs := vs.zip bs) (enc := Prod.snd) (R := fun v (e : V × PyData) => L2.RelV e.1 v) pl.isList (each_of_idx (by omega) fun j v e hv he => ?_) (each_of_idx (by omega) fun j v e hv he => ?_) (by rw [e2]; exact al) (by rw [e2]; exact so) (by rw [hzl, hl, sizeLine_eq]; omega) (fun e he => ?_) fun out ho eo => ?_
  · obtain ⟨h1, h2⟩ := zg j e he
    obtain ⟨uv, huv, ruv⟩ := rl.get h1
    rw [huv] at hv; cases hv; exact ruv
  · obtain ⟨h1, h2⟩ := zg j e he
    obtain ⟨uv, huv, ruv⟩ := rl.get h1
    rw [huv] at hv; cases hv
    exact L2.Dp.reads I _ _ _ (hd j _ _ h1 h2) ruv
  · have hm : e.2 ∈ bs := by
      obtain ⟨j, hj⟩ := List.getElem?_of_mem he
      exact List.mem_of_getElem? (zg j e hj).2
    have := dp _ hm
    show X.A.units + 2 + (e.2).depth < cLine
    omega
  · obtain ⟨e', he'⟩ := PyProof.Rows.sortedAll_at s.heap its out.toArray
    have hn : H (s.heap.objs.size + 1) = none := I.hok.fresh (Nat.le_succ _)
    have lo : out.length = vs.length := by omega
    have ls : ((vs.zip bs).mergeSort (PySem.W.dataLe false Prod.snd)).length = vs.length := by rw [List.length_mergeSort]; exact hzl
    have vo : Vals (((vs.zip bs).mergeSort (PySem.W.dataLe false Prod.snd)).map Prod.fst) out := by
      clear q he' ho lo ls
      generalize (vs.zip bs).mergeSort (PySem.W.dataLe false Prod.snd) = L at eo
      induction eo with
      | nil => exact .nil
      | cons r _ ih => exact .cons r ih
    refine ⟨.ref (s.heap.objs.size + 1), upd H (s.heap.objs.size + 1) (.lst (((vs.zip bs).mergeSort (PySem.W.dataLe false Prod.snd)).map Prod.fst)), I.laid (t' := s.toks) (fun b u e => PyProof.Rows.sortedAll_old e) (Nat.le_succ _) ?_, rfl, q _ hn⟩
    exact ⟨by rw [List.length_map, ls, hl, sizeLine_eq]; omega, out, e', vo, he'⟩
def srtD (ds : List D) (bs : List PyData) : List D := ((ds.zip bs).mergeSort (PySem.W.dataLe false Prod.snd)).map Prod.fst
section
variable {K : PySem.W.Frag} {T : Tt}
theorem dPs_len : ∀ {ds : List D} {bs : List PyData}, dPs ds = some bs → ds.length = bs.length
  | [], bs, h => by cases h; rfl
  | d :: ds, bs, h => by
    obtain ⟨x, ys, _, h2, rfl⟩ := dPs_cons h
    rw [List.length_cons, List.length_cons, dPs_len h2]
theorem dpAll_get {H : Hp} : ∀ {xs : List V} {bs : List PyData}, DpAll K H xs bs → ∀ {j : Nat} {x : V} {b : PyData}, xs[j]? = some x → bs[j]? = some b → L2.Dp K H x b
  | _, _, .nil, j, x, b, h, _ => by cases h
  | _, _, .cons r t, 0, x, b, h, g => by cases h; cases g; exact r
  | _, _, .cons r t, j + 1, x, b, h, g => dpAll_get t (j := j) h g
theorem repL_of_get {P : Hp} : ∀ {vs : List V} {ds : List D}, vs.length = ds.length → (∀ (j : Nat) v d, vs[j]? = some v → ds[j]? = some d → Rep K P v d) → RepL K P vs ds
  | [], [], _, _ => .nil
  | [], _ :: _, h, _ => by cases h
  | _ :: _, [], h, _ => by cases h
  | v :: vs, d :: ds, h, f => .cons (f 0 v d rfl rfl) (repL_of_get (by simpa using h) fun j x y hx hy => f (j + 1) x y hx hy)
theorem triples {P : Hp} : ∀ {vs : List V} {ds : List D} {bs : List PyData}, RepL K P vs ds → ds.length = bs.length → ∃ Z : List (V × D × PyData), vs = Z.map (fun z => z.1) ∧ ds = Z.map (fun z => z.2.1) ∧ bs = Z.map (fun z => z.2.2) ∧ ∀ z ∈ Z, Rep K P z.1 z.2.1
  | _, _, [], .nil, _ => ⟨[], rfl, rfl, rfl, by simp⟩
  | _, _, b :: bs, .nil, h => by cases h
  | _, _, [], .cons r t, h => by cases h
  | _, _, b :: bs, .cons (v := v) (d := d) r t, h => by
    obtain ⟨Z, h1, h2, h3, h4⟩ := triples t (by simpa using h)
    refine ⟨(v, d, b) :: Z, by rw [h1]; rfl, by rw [h2]; rfl, by rw [h3]; rfl, fun z hz => ?_⟩
    rcases List.mem_cons.mp hz with rfl | hz
    · exact r
    · exact h4 z hz
theorem srt_rep {P : Hp} {vs : List V} {ds : List D} {bs : List PyData} (hr : RepL K P vs ds) (hl : ds.length = bs.length) : RepL K P (((vs.zip bs).mergeSort (PySem.W.dataLe false Prod.snd)).map Prod.fst) (srtD ds bs) := by
  obtain ⟨Z, rfl, rfl, rfl, h4⟩ := triples hr hl
  unfold srtD
  have e1 : (Z.map (fun z => z.1)).zip (Z.map (fun z => z.2.2)) = Z.map (fun z => (z.1, z.2.2)) := by rw [List.zip_map']
  have e2 : (Z.map (fun z => z.2.1)).zip (Z.map (fun z => z.2.2)) = Z.map (fun z => (z.2.1, z.2.2)) := by rw [List.zip_map']
  have m1 := List.map_mergeSort (r := PySem.W.dataLe false (fun z : V × D × PyData => z.2.2)) (s := PySem.W.dataLe false Prod.snd) (f := fun z : V × D × PyData => (z.1, z.2.2)) (l := Z) (fun _ _ _ _ => rfl)
  have m2 := List.map_mergeSort (r := PySem.W.dataLe false (fun z : V × D × PyData => z.2.2)) (s := PySem.W.dataLe false Prod.snd) (f := fun z : V × D × PyData => (z.2.1, z.2.2)) (l := Z) (fun _ _ _ _ => rfl)
  rw [e1, e2, ← m1, ← m2, List.map_map, List.map_map]
  have hm : ∀ z ∈ Z.mergeSort (PySem.W.dataLe false (fun z : V × D × PyData => z.2.2)), Rep K P z.1 z.2.1 := fun z hz => h4 z ((List.mergeSort_perm _ _).mem_iff.mp hz)
  clear h4 hr hl e1 e2 m1 m2
  generalize Z.mergeSort (PySem.W.dataLe false (fun z : V × D × PyData => z.2.2)) = Y at hm
  induction Y with
  | nil => exact .nil
  | cons z Y ih => exact .cons (hm z List.mem_cons_self) (ih fun y hy => hm y (List.mem_cons_of_mem _ hy))
/-- sorted(xs), data -/
def bSortD : XB K T where
  r := rSortD K
  w := fun ds M Φ => arg1 ds fun d => asPL d fun es => ∃ bs, dPs es = some bs ∧ PySem.W.AllAlike bs ∧ PySem.W.Sortable bs ∧ bs.length ≤ 100000 ∧ (∀ b ∈ bs, b.depth ≤ 8) ∧ Φ (.lst (srtD es bs)) M
  ok := fun h P H vs wr r Q hq => by
    obtain ⟨d, rfl, h1⟩ := h.get
    obtain ⟨v, rfl, r1⟩ := r.one
    obtain ⟨es, rfl, bs, e, al, so, sz, dp, h2⟩ := h1.get
    obtain ⟨l, us, rfl, hl, hr⟩ := r1.toL
    have ln := dPs_len e
    have ul := hr.len
    refine ⟨l, us, bs, rfl, wr.sl (SqL.of hl), by omega, fun j x b hx hb => dpAll_get (dPs_rep wr hr e) hx hb, al, so, sz, dp, fun p hp => ?_⟩
    let s := Step.newP wr (o := .lst (((us.zip bs).mergeSort (PySem.W.dataLe false Prod.snd)).map Prod.fst)) hp
    exact hq _ _ _ _ _ h2 s (.lst upd_same (RepL.mono s.ex (srt_rep hr ln)))
/-- sorted(xs), ints -/
def bSortI : XB K T where
  r := rSortedI K
  w := fun ds M Φ => arg1 ds fun d => asL d M fun es => asIs es fun xs => ∀ ys : List Int, ys.Perm xs → ys.Pairwise (· ≤ ·) → Φ (.lst (ys.map D.int)) M
  ok := fun h P H vs wr r Q hq => by
    obtain ⟨d, rfl, h1⟩ := h.get
    obtain ⟨v, rfl, r1⟩ := r.one
    obtain ⟨es, a, us, h2, rfl, hs, hr⟩ := h1.rd wr r1
    unfold asIs at h2
    cases e : intsD es with
    | none => rw [e] at h2; exact h2.elim
    | some xs =>
      rw [e] at h2
      have e2 := intsD_rep hr e
      subst e2
      exact ⟨a, xs, rfl, hs, fun ys p pm so hp => let s := Step.newP wr (o := .lst (ys.map V.int)) hp; hq _ _ _ _ _ (h2 ys pm so) s (.lst upd_same (repL_ints ys))⟩
/-- list(d), to be changed -/
def bListDM : XB K T where
  r := fun xs H Q => ∃ (a : Addr) (kvs : List (Key × V)), xs = [.ref a] ∧ Rd H a (.dK kvs) ∧ ∀ p, H p = none → Q (.ref p) (upd H p (.lst (kvs.map fun kv => kV kv.1)))
  w := fun ds M Φ => arg1 ds fun d => asR d fun p => mDr M p fun kds => ∀ q, M q = none → Φ (.ref q) (um M q (.lst (kds.map fun kv => kD kv.1)))
  ok := fun h P H vs wr r Q hq => by
    obtain ⟨d, rfl, h1⟩ := h.get
    obtain ⟨v, rfl, r1⟩ := r.one
    obtain ⟨p, rfl, h2⟩ := asR.get h1
    obtain ⟨kds, kvs, h3, ho, z⟩ := h2.rd wr
    exact ⟨p, kvs, by rw [r1.toR], ho, fun q hp => hq _ _ _ _ _ (h3 q (wr.mfree hp)) (Step.newM wr hp (.lst (repL_keys z))) (.ref q)⟩
/-- sorted(d), a dict by ints -/
def keysI (kds : List (Key × D)) (k : List Int → Prop) : Prop := ∃ ks : List Int, kds.map Prod.fst = ks.map Sum.inl ∧ k ks
def bSortDI : XB K T where
  r := fun xs H Q => ∃ (a : Addr) (kvs : List (Key × V)) (ks : List Int), xs = [.ref a] ∧ Rd H a (.dK kvs) ∧ kvs.map (·.1) = ks.map Sum.inl ∧ ks.length < 64 ∧ ∀ (ys : List Int) (p : Addr), ys.Perm ks → ys.Pairwise (· ≤ ·) → H p = none → Q (.ref p) (upd H p (.lst (ys.map V.int)))
  w := fun ds M Φ => arg1 ds fun d => asR d fun p => mDr M p fun kds => keysI kds fun ks => ks.length < 64 ∧ ∀ ys : List Int, ys.Perm ks → ys.Pairwise (· ≤ ·) → Φ (.lst (ys.map D.int)) M
  ok := fun h P H vs wr r Q hq => by
    obtain ⟨d, rfl, h1⟩ := h.get
    obtain ⟨v, rfl, r1⟩ := r.one
    obtain ⟨p, rfl, h2⟩ := asR.get h1
    obtain ⟨kds, kvs, ⟨ks, e, l, h3⟩, ho, z⟩ := h2.rd wr
    exact ⟨p, kvs, ks, by rw [r1.toR], ho, by rw [← e]; exact z.1, l, fun ys q pm so hp => let s := Step.newP wr (o := .lst (ys.map V.int)) hp; hq _ _ _ _ _ (h3 ys pm so) s (.lst upd_same (repL_ints ys))⟩
end
end Ab

set_option Elab.async false
set_option linter.all false
set_option maxRecDepth 100000
set_option maxHeartbeats 4000000
namespace Ab
open PySem PySem.Spec PyProof.Rows L2 LamX
/-! ### min(d, key=lambda x: e, default=None), d a locked dict -/
def loopD (c' : Addr) (q : Str) (cmp : V → V → Hp → Bool → Prop) (tb : TE) (σ : L2.St) (i : Nat) (d : Addr) (ob : Obj) (kvs : List (Key × V)) (df : Option V) : List V → Option (V × V) → Hp → VK → Prop
  | [], b, H, Q => H d = some (.frz ob (.dK kvs)) ∧ match b, df with | some (x, _), _ => Q x H | none, some d => Q d H | none, none => False
  | v :: r, b, H, Q => H d = some (.frz ob (.dK kvs)) ∧ H c' = some (CodeO c' q) ∧ tb (σ.set i (some v)) H fun k H1 => match b with
    | none => loopD c' q cmp tb σ i d ob kvs df r (some (v, k)) H1 Q
    | some (x, k0) => ∃ bb, cmp k k0 H1 bb ∧ loopD c' q cmp tb σ i d ob kvs df r (if bb then some (v, k) else some (x, k0)) H1 Q
theorem loopD_hd {c' : Addr} {q : Str} {cmp : V → V → Hp → Bool → Prop} {tb : TE} {σ : L2.St} {i : Nat} {d : Addr} {ob : Obj} {kvs : List (Key × V)} {df : Option V} {vs : List V} {b : Option (V × V)} {H : Hp} {Q : VK} (h : loopD c' q cmp tb σ i d ob kvs df vs b H Q) : H d = some (.frz ob (.dK kvs)) := by
  cases vs with
  | nil => exact h.1
  | cons v r => exact h.1
def tKeyD (Pt : Addr) (q : Str) (cmp : V → V → Hp → Bool → Prop) (te tb : TE) (i : Nat) (df : Option V) : TE := fun σ H Q => te σ H fun x H1 => ∃ d ob kvs, x = .ref d ∧ H1 d = some (.frz ob (.dK kvs)) ∧ TabS H1 Pt q ∧
  ∀ H2 c', Made1 H1 H2 Pt c' q → TabS H2 Pt q → H2 c' = some (CodeO c' q) → loopD c' q cmp tb σ i d ob kvs df (kvs.map fun kv => kV kv.1) none H2 Q
section
variable {X : Cx} {pins : List (Addr × Obj)} {σ : L2.St} {H : Hp} {s : Shared}
theorem frz_ep (I : L2.Inv X pins σ H s) {d : Addr} {ob : Obj} {kvs : List (Key × V)} (h : H d = some (.frz ob (.dK kvs))) : ∃ es ep, ob.data = .dict es ep := by
  have := I.hok d _ h
  unfold L2.ObjOk at this
  obtain ⟨e, h2⟩ := this
  obtain ⟨_, _, vs, _, o, es, ep, ho, _, hd, _⟩ := h2
  rw [e] at ho; cases ho
  exact ⟨es, ep, hd⟩
theorem dk_frz (I : L2.Inv X pins σ H s) {d : Addr} {ob : Obj} {kvs : List (Key × V)} {ep : Nat} (h : H d = some (.frz ob (.dK kvs))) (hep : ∃ es, ob.data = .dict es ep) : ∃ vs, (d == sysModules) = false ∧ KV kvs vs ∧ Heap.DictAt (mixKind X.prog X.w) s.heap d vs ep := by
  have := I.hok d _ h
  unfold L2.ObjOk at this
  obtain ⟨e, h2⟩ := this
  obtain ⟨_, hs, vs, rel, o, es, ep2, ho, hx, hd, hk, hp, hn⟩ := h2
  rw [e] at ho; cases ho
  obtain ⟨es', hd'⟩ := hep
  rw [hd] at hd'; cases hd'
  exact ⟨vs, hs, rel, ob, es, e, hx, hd, hk, hp, hn⟩
theorem key_at {kvs : List (Key × V)} {vs : List (Key × Value)} (rel : KV kvs vs) {j : Nat} {k : Key} {v : V} (h : kvs[j]? = some (k, v)) : ∃ u, vs[j]? = some (k, u) := by
  have hl := Paired.length rel
  have hj := (List.getElem?_eq_some_iff.mp h).1
  obtain ⟨y, hy⟩ : ∃ y, vs[j]? = some y := ⟨_, List.getElem?_eq_getElem (by omega)⟩
  obtain ⟨z, hz, f1, _⟩ := DX.pget rel hy
  rw [h] at hz
  obtain rfl := Option.some.inj hz
  obtain ⟨k2, u⟩ := y
  have f1 : k = k2 := f1
  subst f1
  exact ⟨u, hy⟩
theorem rel_key {k : Key} {u : Value} (h : (mixKind X.prog X.w).is k u = true) : RelV (kV k) u := by
  rcases L2.keyIs_shape (show L2.keyIs k u = true from h) with ⟨i, t, z1, z2⟩ | ⟨x, t, z1, z2⟩
  · subst z1; rw [z2]; exact ⟨t, rfl⟩
  · subst z1; rw [z2]; exact ⟨t, rfl⟩
theorem minD_loop {scope : Scope} {x : Str} {i f c' S It d : Addr} {ob : Obj} {kvs : List (Key × V)} {ep : Nat} {pm ctv : Value} {params : Arguments} {body : Expr} {k : Nat} {tb : TE} {cmp : V → V → Hp → Bool → Prop} {df : Option V} {dw : Option Value} {Q : VK} (hc : X.calm = true) (hr : Room (k + 2) X.A) (L : Lam1 X.env.scope scope x)
    (hN : X.N[i]? = some x) (hnd : X.N.Nodup)
    (hbind : ∀ u, bindArgs (PySem.W.kla_fn "<lambda>" (X.env.qual ++ "<lambda>") params body scope (cloFrom X.env.cells scope.names []) pm (.ref c') ctv) ⟨[u], []⟩ = pure [(x, u)])
    (hbody : ∀ (A : Around) (outer : List Env) (s : Shared) (H : Hp), Room k (A.deeper (lamEnv X scope s.heap.objs.size f c')) → PE (lamCx X A outer s H C8.E0 scope f c') body tb) (hcmp : CmpOk X .Lt cmp)
    (hep : ∃ es, ob.data = .dict es ep) (hS : Fp X S) (hI : Fp X It) (nSI : S ≠ It) (nSf : f ≠ S) (nIf : f ≠ It) (hd : match df, dw with | none, none => True | some d, some w => RelV d w | _, _ => False) :
    ∀ (r : List V) (j : Nat) (b : Option (V × V)) (bu : List Value) (n : Nat) (oI : Obj) (H : Hp) (s : Shared), (∀ p ∈ pins, p.1 ≠ S) → (∀ p ∈ pins, p.1 ≠ It) →
      Inv X ((S, seqObj "list" bu.toArray n) :: (It, oI) :: (f, PySem.W.kla_obj "<lambda>" (X.env.qual ++ "<lambda>") params body scope (cloFrom X.env.cells scope.names []) pm c' ctv) :: pins) σ H s → oI.cls = .type "dict_keyiterator" → oI.data = .fields #[.ref d, .int j 0, .int kvs.length 0, .int ep 0] →
      (kvs.map fun kv => kV kv.1).drop j = r → best2 b bu → loopD c' (X.env.qual ++ "<lambda>") cmp tb σ i d ob kvs df r b H Q →
      codeAny (model X.prog X.w) X.A (.builtin "min.loop" ⟨[.ref It, .ref f, .ref S], dfKw dw⟩) (fun r s' => match r with | .ok (.ret w) => EP X pins σ Q w s' | _ => False) s := by
  have hname : (toString "min" ++ toString ".loop" : String) = "min.loop" := by decide
  have hS1 : ∀ {o o2 : Obj} {ps : List (Addr × Obj)}, (∀ p ∈ ps, p.1 ≠ S) → ∀ p ∈ (It, o) :: (f, o2) :: ps, p.1 ≠ S := fun {o o2 ps} h p hp => by
    rcases List.mem_cons.mp hp with z | hp
    · subst z; exact nSI.symm
    · rcases List.mem_cons.mp hp with z | hp
      · subst z; exact nSf
      · exact h p hp
  have hI1 : ∀ {o o2 : Obj} {ps : List (Addr × Obj)}, (∀ p ∈ ps, p.1 ≠ It) → ∀ p ∈ (S, o) :: (f, o2) :: ps, p.1 ≠ It := fun {o o2 ps} h p hp => by
    rcases List.mem_cons.mp hp with z | hp
    · subst z; exact nSI
    · rcases List.mem_cons.mp hp with z | hp
      · subst z; exact nIf
      · exact h p hp
  have sw : ∀ {a b : Addr × Obj} {r : List (Addr × Obj)}, ∀ p ∈ a :: b :: r, p ∈ b :: a :: r := fun {a b r} p hp => by
    simp only [List.mem_cons] at hp ⊢
    rcases hp with z | z | z
    · exact .inr (.inl z)
    · exact .inl z
    · exact .inr (.inr z)
  intro r
  induction r with
  | nil =>
    intro j b bu n oI H s pS pI I oc od hv hb h
    obtain ⟨hq, h⟩ := h
    obtain ⟨ps, _, rel, hat⟩ := dk_frz I hq hep
    have lps : ps.length = kvs.length := (Paired.length rel).symm
    have gS := pin_in I List.mem_cons_self
    have gI := pin_in I (List.mem_cons_of_mem _ List.mem_cons_self)
    have hj : kvs.length ≤ j := by have := List.drop_eq_nil_iff.mp hv; rwa [List.length_map] at this
    refine codeAny_builtin PySem.F.entry_min_loop ?_
    rw [Around.under_plainId PySem.F.plain_min_loop _]
    show wpAny _ X.A.in1 (seqItems? (.ref S) >>= _) _ _ _
    refine wpAny_bind (wpAny_seqItems gS rfl ?_)
    show wpAny _ X.A.in1 (tryCatch (pyNext (.ref It)) _ >>= _) _ _ _
    refine wpAny_bind (wpAny_tryCatch (wpAny_pyNext_dict_end (kvs := ps) (I.ok.hd hc) ⟨oI, gI, oc, by rw [lps]; exact od⟩ hat (by rw [List.getElem?_eq_none]; omega) fun h' he' => ?_))
    have I1 : Inv X ((S, seqObj "list" bu.toArray n) :: (f, PySem.W.kla_obj "<lambda>" (X.env.qual ++ "<lambda>") params body scope (cloFrom X.env.cells scope.names []) pm c' ctv) :: pins) σ H { s with heap := h' } :=
      pin_lost (t := s.toks) (pins_to I sw) hI (hI1 pI) fun b u nb e => he' b u nb e
    cases b with
    | none =>
      have hb : bu = [] := hb
      subst hb
      cases df with
      | none => exact h.elim
      | some d =>
        cases dw with
        | none => exact hd.elim
        | some w =>
          show wpAny _ X.A.in1 (rule _ >>= _) _ _ _
          refine wpAny_bind (wpAny_rule (wpAny_pure ?_))
          exact ⟨d, H, pins_to I1 fun p hp => List.mem_cons_of_mem _ (List.mem_cons_of_mem _ hp), hd, h⟩
    | some xk =>
      obtain ⟨xb, k0⟩ := xk
      obtain ⟨u, w, rfl, r1, r2⟩ := hb
      have gS' := pin_in I1 List.mem_cons_self
      show wpAny _ X.A.in1 (updateSeq S (fun _ => #[]) >>= _) _ _ _
      refine wpAny_bind ?_
      refine wpAny_updateSeq gS' rfl (wpAny_bind (wpAny_letGo (wpAny_pure ?_)))
      have s1 := Heap.SameBut.update h' S (Obj.mapSeq fun _ => (#[] : Array Value))
      refine ⟨xb, H, pins_to (pin_lost (t := s.toks) I1 hS (fun p hp => ?_) fun b u nb e => (s1.2 b nb).trans e) fun p hp => List.mem_cons_of_mem _ hp, r1, h⟩
      rcases List.mem_cons.mp hp with z | hp
      · subst z; exact nSf
      · exact pS p hp
  | cons v r ih =>
    intro j b bu n oI H s pS pI I oc od hv hb h
    obtain ⟨hq, hco, h⟩ := h
    obtain ⟨ps, _, rel, hat⟩ := dk_frz I hq hep
    have lps : ps.length = kvs.length := (Paired.length rel).symm
    have gS := pin_in I List.mem_cons_self
    have gI := pin_in I (List.mem_cons_of_mem _ List.mem_cons_self)
    have hvj : (kvs.map fun kv => kV kv.1)[j]? = some v := by
      have := congrArg (fun l => l[0]?) hv
      simpa [List.getElem?_drop] using this
    have hv1 : (kvs.map fun kv => kV kv.1).drop (j + 1) = r := by rw [← List.drop_drop, hv]; rfl
    obtain ⟨⟨kk, vv⟩, hkk, rfl⟩ := map_get hvj
    obtain ⟨pv, hpv⟩ := key_at rel hkk
    refine codeAny_builtin PySem.F.entry_min_loop ?_
    rw [Around.under_plainId PySem.F.plain_min_loop _]
    show wpAny _ X.A.in1 (seqItems? (.ref S) >>= _) _ _ _
    refine wpAny_bind (wpAny_seqItems gS rfl ?_)
    show wpAny _ X.A.in1 (tryCatch (pyNext (.ref It)) _ >>= _) _ _ _
    refine wpAny_bind (wpAny_tryCatch (wpAny_pyNext_dict_item (kvs := ps) ⟨oI, gI, oc, by rw [lps]; exact od⟩ hat hpv fun uv h' hks hit' sb => ?_))
    obtain ⟨oI', gI', oc', od'⟩ := hit'
    rw [lps] at od'
    have ruv : RelV (kV kk) uv := rel_key hks
    have I1 : Inv X ((S, seqObj "list" bu.toArray n) :: (It, oI') :: (f, PySem.W.kla_obj "<lambda>" (X.env.qual ++ "<lambda>") params body scope (cloFrom X.env.cells scope.names []) pm c' ctv) :: pins) σ H { s with heap := h' } :=
      pins_to (pin_turn (t := s.toks) (pins_to I sw) hI (hI1 pI) (fun b u nb e => (sb.2 b nb).trans e) gI' (fun z q => by rw [od'] at q; cases q)) sw
    show wpAny _ X.A.in1 (tryCatch (holding [uv] (call (.ref f) [uv])) _ >>= _) _ _ _
    refine wpAny_bind (wpAny_tryCatch (wpAny_holding (wpAny_call (codeAny_mono (lam_call1 I1 L (pin_in I1 (List.mem_cons_of_mem _ (List.mem_cons_of_mem _ List.mem_cons_self))) hco hN hnd ruv (show X.A.in1.frames = some X.stack from I.ok.frames) (room_in1 hr) (hbind uv) hbody h) fun r s2 hq2 => ?_))))
    cases r with
    | error e => exact hq2.elim
    | ok fl =>
    cases fl with
    | next => exact hq2.elim
    | brk => exact hq2.elim
    | cont => exact hq2.elim
    | ret w =>
    obtain ⟨kv, H2, I2, rk, h2⟩ := hq2
    have gS2 := pin_in I2 List.mem_cons_self
    have upd2 : ∀ {H3 : Hp} {s3 : Shared}, Inv X ((S, seqObj "list" bu.toArray n) :: (It, oI') :: (f, PySem.W.kla_obj "<lambda>" (X.env.qual ++ "<lambda>") params body scope (cloFrom X.env.cells scope.names []) pm c' ctv) :: pins) σ H3 s3 → loopD c' (X.env.qual ++ "<lambda>") cmp tb σ i d ob kvs df r (some (kV kk, kv)) H3 Q →
        codeAny (model X.prog X.w) X.A (.builtin "min.loop" ⟨[.ref It, .ref f, .ref S], dfKw dw⟩) (fun r s' => match r with | .ok (.ret w) => EP X pins σ Q w s' | _ => False) { s3 with heap := s3.heap.update S (Obj.mapSeq fun _ => #[uv, w]) } := fun {H3 s3} I3 h3 => by
      have gS3 := pin_in I3 List.mem_cons_self
      have s1 := Heap.SameBut.update s3.heap S (Obj.mapSeq fun _ => #[uv, w])
      obtain ⟨c2, hc2⟩ : ∃ c2, (s3.heap.update S (Obj.mapSeq fun _ => #[uv, w])).get? S = some (seqObj "list" #[uv, w] c2) := ⟨_, get?_update_seq gS3 fun _ => #[uv, w]⟩
      have I4 := pin_turn (t := s3.toks) I3 hS (hS1 pS) (fun b u nb e => (s1.2 b nb).trans e) hc2 (fun z q => by cases q)
      exact ih (j + 1) (some (kV kk, kv)) [uv, w] c2 oI' _ _ pS pI I4 oc' od' hv1 ⟨uv, w, rfl, ruv, rk⟩ h3
    cases b with
    | none =>
      have hb : bu = [] := hb
      subst hb
      show wpAny _ X.A.in1 (updateSeq S (fun _ => #[uv, w]) >>= _) _ _ _
      refine wpAny_bind ?_
      refine wpAny_updateSeq gS2 rfl ?_
      rw [hname]
      exact wpAny_pure ⟨plainId_quiet PySem.F.plain_min_loop _, upd2 I2 h2⟩
    | some xk =>
      obtain ⟨xb, k0⟩ := xk
      obtain ⟨u0, w0, rfl, r1, r2⟩ := hb
      obtain ⟨bb, hcm, h3⟩ := h2
      show wpAny _ X.A.in1 (tryCatch (holding [uv, w] (richCompare .Lt w w0 >>= _)) _ >>= _) _ _ _
      refine wpAny_bind (wpAny_tryCatch (wpAny_holding (wpAny_bind (hcmp _ _ _ _ _ _ _ _ _ _ _ I2 rk r2 hcm ?_))))
      refine wpAny_bind (wpAny_holding (wpAny_truthy_bool ?_))
      refine wpAny_bind (wpAny_letGo (wpAny_pure ?_))
      cases bb with
      | true =>
        simp only [if_true]
        refine wpAny_bind ?_
        refine wpAny_updateSeq gS2 rfl (wpAny_bind (wpAny_letGo ?_))
        rw [hname]
        exact wpAny_pure ⟨plainId_quiet PySem.F.plain_min_loop _, upd2 I2 h3⟩
      | false =>
        simp only [Bool.false_eq_true, if_false]
        refine wpAny_bind (wpAny_letGo ?_)
        rw [hname]
        exact wpAny_pure ⟨plainId_quiet PySem.F.plain_min_loop _, ih (j + 1) (some (xb, k0)) [u0, w0] n oI' _ _ pS pI I2 oc' od' hv1 ⟨u0, w0, rfl, r1, r2⟩ h3⟩
end
section
variable {X : Cx} {pins : List (Addr × Obj)} {σ : L2.St} {H : Hp} {s : Shared}
theorem pe_minKD {x : Str} {i k : Nat} {c Pt : Addr} {params : Arguments} {body e : Expr} {scope : Scope} {te tb : TE} {cmp : V → V → Hp → Bool → Prop} {p lpos kpos pos cp dp : Pos} {j0 : Nat} (hc : X.calm = true) (hr : Room (k + 2) X.A) (hg : Gl X "min") (hm : X.mg "min" = none)
    (TB : TabB X.base X.mg c Pt) (hcode : X.env.code = .ref c) (L : Lam1 X.env.scope scope x) (hN : X.N[i]? = some x) (hnd : X.N.Nodup) (hdef : defaultsOf params X.env = ([], []))
    (hbind : ∀ (q : Str) (cl : List (Str × Addr)) (pm cv ctv u : Value), bindArgs (PySem.W.kla_fn "<lambda>" q params body scope cl pm cv ctv) ⟨[u], []⟩ = pure [(x, u)]) (hcmp : CmpOk X .Lt cmp) (he : PE X e te)
    (hbody : ∀ (A : Around) (outer : List Env) (s : Shared) (H : Hp) (f c' : Addr), Room k (A.deeper (lamEnv X scope s.heap.objs.size f c')) → PE (lamCx X A outer s H C8.E0 scope f c') body tb)
    (hee : backTo pos (starEach [e] X.env) = (false, eval e X.env) :: backTo pos (starEach [] X.env) := by rfl) (hplain : (backTo pos (starEach [e] X.env)).any (·.1) = false := by rfl)
    (hall : (backToKw pos (keywordEach [⟨some "key", .Lambda params body scope lpos, kpos⟩, ⟨some "default", .Constant .none j0 cp, dp⟩] X.env)).all (·.1.isSome) = true := by rfl) (hkw : (backToKw pos (keywordEach [⟨some "key", .Lambda params body scope lpos, kpos⟩, ⟨some "default", .Constant .none j0 cp, dp⟩] X.env)).any (·.1.isNone) = false := by rfl)
    (hks : (backToKw pos (keywordEach [⟨some "key", .Lambda params body scope lpos, kpos⟩, ⟨some "default", .Constant .none j0 cp, dp⟩] X.env)).filterMap (·.1) = [Str.ofString "key", Str.ofString "default"] := by rfl)
    (hkv : (backToKw pos (keywordEach [⟨some "key", .Lambda params body scope lpos, kpos⟩, ⟨some "default", .Constant .none j0 cp, dp⟩] X.env)).map (·.2) = [do let v ← eval (.Lambda params body scope lpos) X.env; standAt pos; pure v, do let v ← eval (.Constant .none j0 cp) X.env; standAt pos; pure v] := by rfl) :
    PE X (.Call (.Name "min" p) [e] [⟨some "key", .Lambda params body scope lpos, kpos⟩, ⟨some "default", .Constant .none j0 cp, dp⟩] pos) (tKeyD Pt (X.env.qual ++ "<lambda>") cmp te tb i (some .non)) := by
  have hname : (toString "min" ++ toString ".loop" : String) = "min.loop" := by decide
  refine ⟨fun pins s σ H Q I h => ?_⟩
  refine wpAny_Call_Name_kw (ld_blt I hg hm (show bootBuiltins "min" = some (.builtin "min") by decide +kernel) ?_)
  refine PyProof.Rows.callWith_kw ?_ hee hplain hall hkw
  rw [hee]
  refine Calls.spliced_cons (thn (he.run pins s σ H _ I h) fun u s1 ⟨v, H1, I1, r1, d, ob, kvs, ev, hq, tS, h1⟩ => Calls.spliced_nil ?_)
  subst ev
  obtain rfl : u = Value.ref d := r1
  rw [hkv, hks]
  refine wpAny_evalAll_cons (wpAny_bind (lam_made I1 TB hcode tS hdef (L.has I1.ok) fun f c' pm ctv H2 s2 I2 eN T2 hf hfn hfr hco => wpAny_bind (wpAny_standAt (wpAny_pure ?_))))
  have I3 := pin_fun I2 hf rfl hfn hfr
  refine wpAny_evalAll_cons (wpAny_bind (thn ((pe_non (X := X) (j := j0) (pos := cp)).run _ s2 σ H2 (fun x H3 => x = .non ∧ H3 = H2) I3 ⟨rfl, rfl⟩) fun u3 s3 ⟨v3, H3, I4, r3, ev3, eH3⟩ => wpAny_bind (wpAny_standAt (wpAny_pure ?_))))
  rw [eH3] at I4
  rw [ev3] at r3
  obtain rfl : u3 = Value.none := r3
  refine wpAny_evalAll_nil ?_
  show wpAny _ X.A (call (.builtin "min") [.ref d] [(Str.ofString "key", .ref f), (Str.ofString "default", .none)]) _ _ _
  have h2 := h1 H2 c' eN T2 hco
  have hq2 : H2 d = some (.frz ob (.dK kvs)) := loopD_hd h2
  obtain ⟨es, ep, hep⟩ := frz_ep I4 hq2
  obtain ⟨ps, hsm, rel, hat⟩ := dk_frz I4 hq2 ⟨es, hep⟩
  have lps : ps.length = kvs.length := (Paired.length rel).symm
  refine kmk_tree PySem.F.kind_min PySem.F.plain_min PySem.F.entry_min (kmk_min_keyD _ _ _) ?_
  show wpAny _ X.A.in1 (Builtin.Builtins.bindParams "min" ["key", "default"] 0 ⟨[], [(Str.ofString "key", .ref f), (Str.ofString "default", .none)]⟩ >>= _) _ _ _
  refine wpAny_bind (wpAny_of_eq (show Builtin.Builtins.bindParams "min" ["key", "default"] 0 ⟨[], [(Str.ofString "key", .ref f), (Str.ofString "default", .none)]⟩ = pure [some (.ref f), some .none] from rfl) ?_)
  refine wpAny_bind (wpAny_pure ?_)
  refine wpAny_bind (wpAny_pyIter_dict hsm hat ?_)
  refine wpAny_bind (wpAny_newList ?_ (Nat.zero_le _))
  rw [hname]
  have szI : s3.heap.objs.size ≤ (s3.heap.push { cls := .type "dict_keyiterator", data := .fields #[.ref d, .int 0 0, .int ps.length 0, .int ep 0] }).objs.size := by rw [Heap.size_push]; exact Nat.le_succ _
  have I5 := pin_new (t := s3.toks) I4 (h' := s3.heap.push { cls := .type "dict_keyiterator", data := .fields #[.ref d, .int 0 0, .int ps.length 0, .int ep 0] }) (a := s3.heap.objs.size) (fun b u e => Heap.get?_push_of_some _ e) (Nat.le_refl _) (Heap.get?_push_size _ rfl) (fun v q => by cases q)
  obtain ⟨fI, nI⟩ := fp_new I4 (Nat.le_refl _)
  obtain ⟨fS, nS⟩ := fp_new I5 (Nat.le_refl _)
  have I6 := pin_new (t := s3.toks) I5 (h' := (s3.heap.push { cls := .type "dict_keyiterator", data := .fields #[.ref d, .int 0 0, .int ps.length 0, .int ep 0] }).push (seqObj "list" #[] 0)) (a := (s3.heap.push { cls := .type "dict_keyiterator", data := .fields #[.ref d, .int 0 0, .int ps.length 0, .int ep 0] }).objs.size) (fun b u e => Heap.get?_push_of_some _ e) (Nat.le_refl _) (Heap.get?_push_size _ rfl) (fun v q => by cases q)
  refine wpAny_pure ⟨plainId_quiet PySem.F.plain_min_loop _, ?_⟩
  refine codeAny_mono (minD_loop (ep := ep) (df := some .non) (dw := some .none) hc hr L hN hnd (fun u => hbind _ _ _ _ _ u) (fun A outer s H hr2 => hbody A outer s H f c' hr2) hcmp ⟨es, hep⟩ fS fI (fun z => nS _ List.mem_cons_self z.symm) (nS _ (List.mem_cons_of_mem _ List.mem_cons_self)) (nI _ List.mem_cons_self) rfl
    (kvs.map fun kv => kV kv.1) 0 none [] 0 _ H2 _ (fun p hp => nS p (List.mem_cons_of_mem _ (List.mem_cons_of_mem _ hp))) (fun p hp => nI p (List.mem_cons_of_mem _ hp)) I6 rfl (by rw [lps]; rfl) rfl rfl h2) fun r s' hq => ?_
  cases r with
  | error e => exact hq.elim
  | ok fl =>
    cases fl with
    | ret u => exact hq
    | next => exact hq
    | brk => exact hq
    | cont => exact hq
end
end Ab

set_option Elab.async false
set_option linter.all false
set_option maxRecDepth 100000
set_option maxHeartbeats 4000000
namespace Ab
open PySem PySem.Spec PyProof.Rows L2 LamX
section
variable {K : PySem.W.Frag} {T : Tt} {P : Hp} {M : Mh} {H : Hp}
theorem keyWD.okD {gt : Bool} {e : XE K T} {i d c' : Addr} {ob : Obj} {kvs : List (Key × V)} {q : Str} {ρ : Sl} {σ : L2.St} {df : Option D} {dv : Option V} {Φ : D → Mh → Prop} {Q : VK} (rs : RepS K P σ ρ) {vs : List V} {ds : List D} (h : keyWD gt e i ds ρ M df Φ) (wr : Wr K T P M H) (hl : H d = some (.frz ob (.dK kvs))) (hr : RepL K P vs ds) (hc : P c' = some (CodeO c' q))
    (hd : match df, dv with | none, none => True | some d, some v => Rep K P v d | _, _ => False)
    (hq : ∀ v d P' M' H', Φ d M' → Step K T P M H P' M' H' → Rep K P' v d → Q v H') : loopD c' q (cmpD K gt) (e.t WX0) σ i d ob kvs dv vs none H Q := by
  obtain ⟨I, h0, hs, he⟩ := h
  have main : ∀ (r : List V) (j : Nat) (b : Option (V × V)) (bd : Option (D × PyData)) (P1 : Hp) (M1 : Mh) (H1 : Hp), vs.drop j = r → j ≤ vs.length → I j bd M1 → Step K T P M H P1 M1 H1 → (match b, bd with | none, none => True | some (x, k), some (d, a) => Rep K P1 x d ∧ ∃ kd, Rep K P1 k kd ∧ dP kd = some a | _, _ => False) → loopD c' q (cmpD K gt) (e.t WX0) σ i d ob kvs dv r b H1 Q := by
    intro r
    induction r with
    | nil =>
      intro j b bd P1 M1 H1 hv hj hI st hb
      have hj2 : j = ds.length := by have := List.drop_eq_nil_iff.mp hv; rw [← hr.len]; omega
      refine ⟨st.fz _ _ _ hl, ?_⟩
      have hf := he bd M1 (hj2 ▸ hI)
      cases b with
      | none =>
        cases bd with
        | some x => exact hb.elim
        | none =>
          cases df with
          | none => exact hf.elim
          | some d =>
            cases dv with
            | none => exact hd.elim
            | some v => exact hq _ _ _ _ _ hf st (Rep.mono st.ex hd)
      | some x =>
        cases bd with
        | none => exact hb.elim
        | some y => exact hq _ _ _ _ _ hf st hb.1
    | cons v r ih =>
      intro j b bd P1 M1 H1 hv hj hI st hb
      have hvj : vs[j]? = some v := by
        have := congrArg (fun l => l[0]?) hv
        simpa [List.getElem?_drop] using this
      have hv1 : vs.drop (j + 1) = r := by rw [← List.drop_drop, hv]; rfl
      have hlt : j < vs.length := (List.getElem?_eq_some_iff.mp hvj).1
      obtain ⟨dd, hd1, rd⟩ := hr.get hvj
      refine ⟨st.fz _ _ _ hl, st.wr.code (st.ex _ _ hc), ?_⟩
      refine e.ok (hs j dd bd M1 hd1 hI) st.wr ((rs.mono st.ex).set (Rep.mono st.ex rd) i) (fun k kd P2 M2 H2 h2 s2 r2 => ?_) (fun _ _ _ _ _ _ _ z _ _ => z.elim)
      obtain ⟨a, ea, h3⟩ := asDP.get h2
      have st2 := st.trans s2
      cases b with
      | none =>
        cases bd with
        | some y => exact hb.elim
        | none => exact ih (j + 1) _ (some (dd, a)) P2 M2 H2 hv1 (by omega) h3 st2 ⟨Rep.mono st2.ex rd, kd, r2, ea⟩
      | some x =>
        cases bd with
        | none => exact hb.elim
        | some y =>
          obtain ⟨xv, xk⟩ := x
          obtain ⟨yd, a0⟩ := y
          obtain ⟨hb1, kd0, hb2, ea0⟩ := hb
          obtain ⟨c1, c2, c3, h3⟩ := h3
          refine ⟨if gt then ltP a0 a else ltP a a0, ⟨a, a0, dP_rep s2.wr r2 ea, dP_rep s2.wr (Rep.mono s2.ex hb2) ea0, c1, c2, c3, rfl⟩, ?_⟩
          by_cases g : (if gt then ltP a0 a else ltP a a0) = true
          · rw [g]
            simp only [if_pos g] at h3
            exact ih (j + 1) _ (some (dd, a)) P2 M2 H2 hv1 (by omega) h3 st2 ⟨Rep.mono st2.ex rd, kd, r2, ea⟩
          · have g2 : (if gt then ltP a0 a else ltP a a0) = false := by cases e : (if gt then ltP a0 a else ltP a a0) <;> simp_all
            rw [g2]
            simp only [if_neg g] at h3
            exact ih (j + 1) _ (some (yd, a0)) P2 M2 H2 hv1 (by omega) h3 st2 ⟨Rep.mono s2.ex hb1, kd0, Rep.mono s2.ex hb2, ea0⟩
  exact main vs 0 none none P M H rfl (Nat.zero_le _) h0 (Step.refl wr) trivial
/-- the pairs of a locked dict -/
def lkD (M : Mh) (p : Addr) (k : List (Key × D) → Prop) : Prop := match M p with | some (.dlk kds) => k kds | _ => False
theorem lkD_1 {M : Mh} {p : Addr} {k : List (Key × D) → Prop} {kds : List (Key × D)} (h : M p = some (.dlk kds)) : lkD M p k = k kds := by unfold lkD; rw [h]
/-- min(d, key=lambda x: e, default=None), d a locked dict -/
def xMinD (a : XE K T) (i : Nat) (e : XE K T) : XE K T where
  t := fun W => fun σ H Q => ∀ Pt q, T.l Pt q → tKeyD Pt q (cmpD K false) (a.t W) (e.t WX0) i (some .non) σ H Q
  w := fun ρ M Φ Ξ => a.w ρ M (fun d M1 => asR d fun p => lkD M1 p fun kds => keyWD false e i (kds.map fun kv => kD kv.1) ρ M1 (some .non) Φ) Ξ
  ok := fun {W ρ M Φ Ξ} h P σ H wr rs Q hq hx Pt q hT => a.ok h wr rs (fun v d P1 M1 H1 h1 s1 r1 => by
    obtain ⟨p, rfl, h2⟩ := asR.get h1
    unfold lkD at h2
    split at h2
    · rename_i kds hm
      obtain ⟨o, ho, rm⟩ := s1.wr.chg _ _ hm
      cases rm with
      | @dlk ob kvs _ hk hr =>
        have z : Zk K P1 kvs kds := ⟨hk, hr⟩
        refine ⟨p, ob, kvs, r1.toR, ho, s1.wr.tabs hT, fun H2 c' mk tS hc => ?_⟩
        obtain ⟨P2, s2, pc⟩ := step_made s1.wr hT mk tS hc
        exact keyWD.okD (df := some .non) (dv := some .non) (rs.mono (s1.trans s2).ex) h2 s2.wr (s2.fz _ _ _ ho) (repL_keys (z.mono s2.ex)) pc .non fun v d P' M' H' h3 s3 r3 => hq _ _ _ _ _ h3 ((s1.trans s2).trans s3) r3
    · exact h2.elim) hx
end
section
variable {X : Cx} {W : WX} {T : Tt} {a e : XE X.K T}
theorem dMinD {x : Str} {i k j0 : Nat} {params : Arguments} {body ea : Expr} {scope : Scope} {p lpos kpos pos cp dp : Pos} (tb : TlB X.base X.mg T X.env.code (X.env.qual ++ "<lambda>")) (hc : X.calm = true) (hr : Room (k + 2) X.A) (hm : X.mg "min" = none) (L : Lam1 X.env.scope scope x) (hN : X.N[i]? = some x) (hnd : X.N.Nodup) (he : PE X ea (a.t W))
    (hbody : ∀ (A : Around) (outer : List Env) (s : Shared) (H : Hp) (f c' : Addr), Room k (A.deeper (lamEnv X scope s.heap.objs.size f c')) → PE (lamCx X A outer s H C8.E0 scope f c') body (e.t WX0))
    (hdef : defaultsOf params X.env = ([], []) := by rfl) (hbind : ∀ (q : Str) (cl : List (Str × Addr)) (pm cv ctv u : Value), bindArgs (PySem.W.kla_fn "<lambda>" q params body scope cl pm cv ctv) ⟨[u], []⟩ = pure [(x, u)] := by intros; rfl) (hg : Gl X "min" := by rfl)
    (hee : backTo pos (starEach [ea] X.env) = (false, eval ea X.env) :: backTo pos (starEach [] X.env) := by rfl) (hplain : (backTo pos (starEach [ea] X.env)).any (·.1) = false := by rfl)
    (hall : (backToKw pos (keywordEach [⟨some "key", .Lambda params body scope lpos, kpos⟩, ⟨some "default", .Constant .none j0 cp, dp⟩] X.env)).all (·.1.isSome) = true := by rfl) (hkw : (backToKw pos (keywordEach [⟨some "key", .Lambda params body scope lpos, kpos⟩, ⟨some "default", .Constant .none j0 cp, dp⟩] X.env)).any (·.1.isNone) = false := by rfl)
    (hks : (backToKw pos (keywordEach [⟨some "key", .Lambda params body scope lpos, kpos⟩, ⟨some "default", .Constant .none j0 cp, dp⟩] X.env)).filterMap (·.1) = [Str.ofString "key", Str.ofString "default"] := by rfl)
    (hkv : (backToKw pos (keywordEach [⟨some "key", .Lambda params body scope lpos, kpos⟩, ⟨some "default", .Constant .none j0 cp, dp⟩] X.env)).map (·.2) = [do let v ← eval (.Lambda params body scope lpos) X.env; standAt pos; pure v, do let v ← eval (.Constant .none j0 cp) X.env; standAt pos; pure v] := by rfl) :
    PE X (.Call (.Name "min" p) [ea] [⟨some "key", .Lambda params body scope lpos, kpos⟩, ⟨some "default", .Constant .none j0 cp, dp⟩] pos) ((xMinD a i e).t W) := by
  obtain ⟨c, Pt, hcode, TB, hT⟩ := tb
  have h := pe_minKD (p := p) (i := i) hc hr hg hm TB hcode L hN hnd hdef hbind (cmpD_lt hr) he hbody hee hplain hall hkw hks hkv
  exact ⟨fun pins s σ H Q I hh => h.run pins s σ H Q I (hh Pt _ hT)⟩
end
end Ab

set_option Elab.async false
set_option linter.all false
set_option maxRecDepth 100000
set_option maxHeartbeats 4000000
namespace Ab
open PySem PySem.Spec PyProof.Rows L2
/-! ### nested data that hold changing lists -/
mutual
/-- the text of d, changing lists read down to a depth -/
def dM (M : Mh) : Nat → D → Option PyData
  | 0, _ => none
  | _ + 1, .non => some .none
  | _ + 1, .bl b => some (.bool b)
  | _ + 1, .int i => some (.int i)
  | _ + 1, .str s => some (.str s)
  | n + 1, .tup ds => (dMs M n ds).map .tuple
  | n + 1, .lst ds => (dMs M n ds).map .list
  | n + 1, .ref p => match M p with | some (.lst ds) => (dMs M n ds).map .list | _ => none
  | _ + 1, _ => none
def dMs (M : Mh) : Nat → List D → Option (List PyData)
  | _, [] => some []
  | 0, _ :: _ => none
  | n + 1, d :: r => match dM M (n + 1) d, dMs M (n + 1) r with | some x, some xs => some (x :: xs) | _, _ => none
end
section
variable {K : PySem.W.Frag} {T : Tt}
theorem dMs_cons {M : Mh} {n : Nat} {d : D} {r : List D} {xs : List PyData} (h : dMs M n (d :: r) = some xs) : ∃ x ys, dM M n d = some x ∧ dMs M n r = some ys ∧ xs = x :: ys := by
  cases n with
  | zero => unfold dMs at h; cases h
  | succ n =>
    unfold dMs at h
    cases e1 : dM M (n + 1) d with
    | none => rw [e1] at h; cases h
    | some x =>
      cases e2 : dMs M (n + 1) r with
      | none => rw [e1, e2] at h; cases h
      | some ys => rw [e1, e2] at h; cases h; exact ⟨x, ys, rfl, rfl, rfl⟩
theorem dM_rep {P : Hp} {M : Mh} {H : Hp} (w : Wr K T P M H) : ∀ (n : Nat) {v : V} {d : D} {x : PyData}, Rep K P v d → dM M n d = some x → L2.Dp K H v x := by
  intro n
  induction n with
  | zero => intro v d x _ h; unfold dM at h; cases h
  | succ n ih =>
    have all : ∀ {ds : List D} {vs : List V} {xs : List PyData}, RepL K P vs ds → dMs M n ds = some xs → DpAll K H vs xs := by
      intro ds
      induction ds with
      | nil =>
        intro vs xs r h
        cases r
        cases n <;> (unfold dMs at h; cases h; exact .nil)
      | cons d ds ih2 =>
        intro vs xs r h
        obtain ⟨x, ys, h1, h2, rfl⟩ := dMs_cons h
        cases r with
        | cons r1 r2 => exact .cons (ih r1 h1) (ih2 r2 h2)
    intro v d x r h
    cases r with
    | non => unfold dM at h; cases h; exact .non
    | bl b => unfold dM at h; cases h; exact .bl b
    | int b => unfold dM at h; cases h; exact .int b
    | str b => unfold dM at h; cases h; exact .str b
    | ref p =>
      unfold dM at h
      cases em : M p with
      | none => rw [em] at h; cases h
      | some m =>
        rw [em] at h
        cases m with
        | lst ds =>
          simp only at h
          cases e : dMs M n ds with
          | none => rw [e] at h; cases h
          | some xs =>
            rw [e] at h; cases h
            obtain ⟨o, ho, rm⟩ := w.chg _ _ em
            cases rm with
            | lst hr => exact .lst (SqL.of ho) (all hr e)
        | _ => cases h
    | tup hs hr =>
      rename_i ds
      unfold dM at h
      cases e : dMs M n ds with
      | none => rw [e] at h; cases h
      | some xs => rw [e] at h; cases h; exact .tup (w.st (SqT.of hs)) (all hr e)
    | lst hs hr =>
      rename_i ds
      unfold dM at h
      cases e : dMs M n ds with
      | none => rw [e] at h; cases h
      | some xs => rw [e] at h; cases h; exact .lst (w.sl (SqL.of hs)) (all hr e)
    | _ => unfold dM at h; cases h
/-- as nested data, changing lists at any depth -/
def asPn (d : D) (M : Mh) (k : PyData → Prop) : Prop := ∃ n x, dM M n d = some x ∧ k x
def oEqN (neg : Bool) : XO K T where
  r := if neg then rNeD K else rEqD K
  w := fun x y M Φ => asPn x M fun a => asPn y M fun b => SeqAt.shaped a = true ∧ SeqAt.shaped b = true ∧ Φ (.bl (if neg then !PyData.eqv a b else PyData.eqv a b)) M
  ok := fun h P H vx vy wr rx ry Q hq => by
    obtain ⟨n, a, e1, m, b, e2, s1, s2, h6⟩ := h
    cases neg with
    | false => exact ⟨a, b, dM_rep wr n rx e1, dM_rep wr m ry e2, s1, s2, hq _ _ _ _ _ h6 (Step.refl wr) (.bl _)⟩
    | true => exact ⟨a, b, dM_rep wr n rx e1, dM_rep wr m ry e2, s1, s2, hq _ _ _ _ _ h6 (Step.refl wr) (.bl _)⟩
end
section
variable {X : Cx} {T : Tt}
theorem op_eqN (hu : X.A.units + 64 < cLine) : OpR X (compareOp .Eq) (oEqN (K := X.K) (T := T) false).r := op_eqD hu
theorem op_neN (hu : X.A.units + 64 < cLine) : OpR X (compareOp .NotEq) (oEqN (K := X.K) (T := T) true).r := op_neD hu
end
end Ab

set_option Elab.async false
set_option linter.all false
set_option maxRecDepth 100000
set_option maxHeartbeats 2000000
namespace Ab
/-! ### bundles: lists by receiver, filled up one after another -/
section
variable {α κ : Type} [DecidableEq κ] {rc : α → κ}
/-- the last place of a receiver -/
def lastI (r : κ) : List (κ × List α) → Option Nat
  | [] => none
  | b :: bs => match lastI r bs with | some j => some (j + 1) | none => if b.1 = r then some 0 else none
theorem lastI_none {r : κ} : ∀ {bs : List (κ × List α)}, lastI r bs = none ↔ ∀ b ∈ bs, b.1 ≠ r
  | [] => by simp [lastI]
  | b :: bs => by
    have ih := lastI_none (r := r) (bs := bs)
    unfold lastI
    cases e : lastI r bs with
    | some j =>
      have : ¬ ∀ b ∈ bs, b.1 ≠ r := fun z => by rw [ih.mpr z] at e; cases e
      constructor
      · intro z; cases z
      · intro z; exact absurd (fun x hx => z x (List.mem_cons_of_mem _ hx)) this
    | none =>
      have h := ih.mp e
      by_cases q : b.1 = r
      · simp [q]
      · simp only [if_neg q, true_iff]
        intro x hx
        rcases List.mem_cons.mp hx with rfl | hx
        · exact q
        · exact h x hx
theorem lastI_some {r : κ} : ∀ {bs : List (κ × List α)} {j : Nat}, lastI r bs = some j → ∃ A x B, bs = A ++ (r, x) :: B ∧ A.length = j ∧ ∀ b ∈ B, b.1 ≠ r
  | [], j, h => by cases h
  | b :: bs, j, h => by
    unfold lastI at h
    cases e : lastI r bs with
    | some i =>
      rw [e] at h; cases h
      obtain ⟨A, x, B, rfl, rfl, hB⟩ := lastI_some e
      exact ⟨b :: A, x, B, rfl, rfl, hB⟩
    | none =>
      rw [e] at h
      by_cases q : b.1 = r
      · simp only [if_pos q] at h
        cases h
        obtain ⟨b1, b2⟩ := b
        simp only at q
        subst q
        exact ⟨[], b2, bs, rfl, rfl, lastI_none.mp e⟩
      · simp only [if_neg q] at h
        cases h
theorem lastI_snoc {r : κ} (b : κ × List α) : ∀ bs : List (κ × List α), lastI r (bs ++ [b]) = if b.1 = r then some bs.length else lastI r bs
  | [] => by simp [lastI]
  | a :: bs => by
    have ih := lastI_snoc (r := r) b bs
    rw [List.cons_append]
    show (match lastI r (bs ++ [b]) with | some j => some (j + 1) | none => if a.1 = r then some 0 else none) = _
    rw [ih]
    by_cases q : b.1 = r
    · rw [if_pos q, if_pos q]; rfl
    · rw [if_neg q, if_neg q]; rfl
theorem lastI_congr {r : κ} : ∀ {bs cs : List (κ × List α)}, bs.map Prod.fst = cs.map Prod.fst → lastI r bs = lastI r cs
  | [], [], _ => rfl
  | [], _ :: _, h => by cases h
  | _ :: _, [], h => by cases h
  | b :: bs, c :: cs, h => by
    rw [List.map_cons, List.map_cons] at h
    injection h with h1 h2
    unfold lastI
    rw [lastI_congr h2, h1]
theorem lastI_lt {r : κ} {bs : List (κ × List α)} {j : Nat} (h : lastI r bs = some j) : j < bs.length := by
  obtain ⟨A, x, B, rfl, rfl, _⟩ := lastI_some h
  simp
/-- one letter more -/
def stepB (rc : α → κ) (lim : Nat) (bs : List (κ × List α)) (a : α) : List (κ × List α) := match lastI (rc a) bs with
  | none => bs ++ [(rc a, [a])]
  | some j => match bs[j]? with
    | none => bs
    | some b => if lim ≤ b.2.length then bs ++ [(rc a, [a])] else bs.set j (b.1, b.2 ++ [a])
def packB (rc : α → κ) (lim : Nat) (ls : List α) : List (κ × List α) := ls.foldl (stepB rc lim) []
/-- the parts of one receiver -/
def proj (r : κ) (bs : List (κ × List α)) : List (List α) := (bs.filter fun b => decide (b.1 = r)).map Prod.snd
def stepC (lim : Nat) (cs : List (List α)) (a : α) : List (List α) := match cs.getLast? with
  | none => cs ++ [[a]]
  | some c => if lim ≤ c.length then cs ++ [[a]] else cs.dropLast ++ [c ++ [a]]
theorem proj_app (r : κ) (A B : List (κ × List α)) : proj r (A ++ B) = proj r A ++ proj r B := by unfold proj; rw [List.filter_append, List.map_append]
theorem proj_one (r : κ) (b : κ × List α) : proj r [b] = if b.1 = r then [b.2] else [] := by
  unfold proj
  by_cases h : b.1 = r
  · simp [h]
  · simp [h]
theorem proj_no {r : κ} {B : List (κ × List α)} (h : ∀ b ∈ B, b.1 ≠ r) : proj r B = [] := by
  unfold proj
  rw [List.filter_eq_nil_iff.mpr (fun b hb => by simpa using h b hb)]; rfl
theorem proj_same {lim : Nat} {bs : List (κ × List α)} {a : α} : proj (rc a) (stepB rc lim bs a) = stepC lim (proj (rc a) bs) a := by
  unfold stepB
  cases e : lastI (rc a) bs with
  | none =>
    have h := proj_no (lastI_none.mp e)
    simp only
    rw [proj_app, proj_one, if_pos rfl, h]
    rfl
  | some j =>
    obtain ⟨A, x, B, rfl, rfl, hB⟩ := lastI_some e
    have hb : (A ++ (rc a, x) :: B)[A.length]? = some (rc a, x) := by simp
    have hp : proj (rc a) (A ++ (rc a, x) :: B) = proj (rc a) A ++ [x] := by
      rw [proj_app, show (rc a, x) :: B = [(rc a, x)] ++ B from rfl, proj_app, proj_one, if_pos rfl, proj_no hB, List.append_nil]
    simp only [hb]
    unfold stepC
    rw [hp, List.getLast?_append]
    simp only [List.getLast?_singleton, Option.some_or]
    by_cases g : lim ≤ x.length
    · rw [if_pos g, if_pos g, proj_app, hp, proj_one, if_pos rfl]
    · rw [if_neg g, if_neg g, List.set_append_right _ _ (Nat.le_refl _), Nat.sub_self]
      rw [List.set_cons_zero, proj_app, show (rc a, x ++ [a]) :: B = [(rc a, x ++ [a])] ++ B from rfl, proj_app, proj_one, if_pos rfl, proj_no hB, List.append_nil, List.dropLast_concat]
theorem proj_other {lim : Nat} {bs : List (κ × List α)} {a : α} {r : κ} (h : rc a ≠ r) : proj r (stepB rc lim bs a) = proj r bs := by
  unfold stepB
  cases e : lastI (rc a) bs with
  | none =>
    simp only
    rw [proj_app, proj_one, if_neg h, List.append_nil]
  | some j =>
    obtain ⟨A, x, B, rfl, rfl, hB⟩ := lastI_some e
    have hb : (A ++ (rc a, x) :: B)[A.length]? = some (rc a, x) := by simp
    simp only [hb]
    by_cases g : lim ≤ x.length
    · rw [if_pos g, proj_app, proj_one, if_neg h, List.append_nil]
    · rw [if_neg g, List.set_append_right _ _ (Nat.le_refl _), Nat.sub_self, List.set_cons_zero, proj_app, proj_app]
      rw [show (rc a, x ++ [a]) :: B = [(rc a, x ++ [a])] ++ B from rfl, show (rc a, x) :: B = [(rc a, x)] ++ B from rfl, proj_app, proj_app, proj_one, proj_one, if_neg h, if_neg h]
/-- all full but the last, which holds one or more -/
structure Full (lim : Nat) (cs : List (List α)) (n : Nat) : Prop where
  len : cs.flatten.length = n
  num : cs.length = (n + lim - 1) / lim
  last : ∀ c, cs.getLast? = some c → 1 ≤ c.length ∧ c.length ≤ lim ∧ n = lim * (cs.length - 1) + c.length
  nil : cs = [] → n = 0
theorem stepC_flat {lim : Nat} {cs : List (List α)} {a : α} : (stepC lim cs a).flatten = cs.flatten ++ [a] := by
  unfold stepC
  cases e : cs.getLast? with
  | none =>
    simp only
    rw [List.flatten_append]; simp
  | some c =>
    simp only
    by_cases g : lim ≤ c.length
    · rw [if_pos g, List.flatten_append]; simp
    · rw [if_neg g]
      obtain ⟨ds, rfl⟩ := List.getLast?_eq_some_iff.mp e
      rw [List.dropLast_concat, List.flatten_append, List.flatten_append]
      simp
theorem Full.step {lim n : Nat} {cs : List (List α)} {a : α} (hl : 1 ≤ lim) (h : Full lim cs n) : Full lim (stepC lim cs a) (n + 1) := by
  have hf := stepC_flat (lim := lim) (cs := cs) (a := a)
  refine ⟨by rw [hf, List.length_append, h.len]; rfl, ?_, ?_, ?_⟩
  · unfold stepC
    cases e : cs.getLast? with
    | none =>
      have hc := List.getLast?_eq_none_iff.mp e
      have hn := h.nil hc
      subst hc
      subst hn
      simp only [List.nil_append, List.length_cons, List.length_nil]
      have : (0 + 1 + lim - 1) / lim = 1 := by
        rw [show 0 + 1 + lim - 1 = lim by omega]
        exact Nat.div_self (by omega)
      omega
    | some c =>
      obtain ⟨l1, l2, l3⟩ := h.last c e
      obtain ⟨ds, rfl⟩ := List.getLast?_eq_some_iff.mp e
      simp only
      rw [List.length_append] at l3
      simp only [List.length_cons, List.length_nil] at l3
      have l3 : n = lim * ds.length + c.length := by rw [l3]; congr 1
      by_cases g : lim ≤ c.length
      · rw [if_pos g]
        simp only [List.length_append, List.length_cons, List.length_nil]
        have : n + 1 + lim - 1 = lim * (ds.length + 2) := by rw [Nat.mul_add]; omega
        rw [this, Nat.mul_div_cancel_left _ (by omega)]
      · rw [if_neg g]
        simp only [List.dropLast_concat, List.length_append, List.length_cons, List.length_nil]
        have : n + 1 + lim - 1 = lim * (ds.length + 1) + c.length := by rw [Nat.mul_add]; omega
        rw [this, Nat.mul_add_div (by omega), Nat.div_eq_of_lt (by omega)]
  · intro c hc
    unfold stepC at hc ⊢
    cases e : cs.getLast? with
    | none =>
      rw [e] at hc
      have hcs := List.getLast?_eq_none_iff.mp e
      have hn := h.nil hcs
      subst hcs
      simp at hc
      subst hc
      simp [hn, hl]
    | some d =>
      rw [e] at hc
      obtain ⟨l1, l2, l3⟩ := h.last d e
      obtain ⟨ds, rfl⟩ := List.getLast?_eq_some_iff.mp e
      simp only [List.length_append, List.length_cons, List.length_nil] at l3
      have l3 : n = lim * ds.length + d.length := by rw [l3]; congr 1
      by_cases g : lim ≤ d.length
      · simp only [if_pos g, List.getLast?_append, List.getLast?_singleton, Option.some_or, Option.some.injEq] at hc
        subst hc
        simp only [if_pos g, List.length_append, List.length_cons, List.length_nil]
        have : lim * (ds.length + 1) = lim * ds.length + lim := Nat.mul_succ _ _
        refine ⟨Nat.le_refl _, hl, ?_⟩
        rw [show ds.length + (0 + 1) + (0 + 1) - 1 = ds.length + 1 by omega, this]; omega
      · simp only [if_neg g, List.getLast?_append, List.getLast?_singleton, Option.some_or, Option.some.injEq] at hc
        subst hc
        simp only [if_neg g, List.dropLast_concat, List.length_append, List.length_cons, List.length_nil]
        refine ⟨by omega, by omega, ?_⟩
        rw [show ds.length + (0 + 1) - 1 = ds.length by omega]; omega
  · intro z
    have := congrArg List.flatten z
    rw [hf] at this
    simp at this
theorem pack_proj {lim : Nat} (hl : 1 ≤ lim) (r : κ) (rs : List α) : (proj r (packB rc lim rs.reverse)).flatten = rs.reverse.filter (fun a => decide (rc a = r)) ∧ Full lim (proj r (packB rc lim rs.reverse)) (rs.reverse.filter fun a => decide (rc a = r)).length := by
  induction rs with
  | nil =>
    refine ⟨rfl, ⟨rfl, ?_, (fun c hc => by cases hc), fun _ => rfl⟩⟩
    show 0 = (0 + lim - 1) / lim
    rw [Nat.div_eq_of_lt (by omega)]
  | cons a rs ih =>
    have e : packB rc lim (a :: rs).reverse = stepB rc lim (packB rc lim rs.reverse) a := by unfold packB; rw [List.reverse_cons, List.foldl_append]; rfl
    rw [e, List.reverse_cons, List.filter_append]
    by_cases h : rc a = r
    · subst h
      rw [proj_same, stepC_flat, ih.1, List.filter_cons_of_pos (by simp), List.filter_nil, List.length_append]
      exact ⟨rfl, ih.2.step hl⟩
    · rw [proj_other h, List.filter_cons_of_neg (by simpa using h), List.filter_nil, List.append_nil]
      exact ih
end
end Ab

set_option Elab.async false
set_option linter.all false
set_option maxRecDepth 100000
set_option maxHeartbeats 4000000
namespace Ab
open PySem PySem.Spec PyProof.Rows L2
theorem dMs_map {M : Mh} {n : Nat} : ∀ {ds : List D} {es : List D}, ds.length = es.length → (∀ (i : Nat) d e, ds[i]? = some d → es[i]? = some e → dM M n d = dP e) → (ds = [] ∨ 0 < n) → dMs M n ds = dPs es
  | [], [], _, _, _ => by cases n <;> (unfold dMs dPs; rfl)
  | [], _ :: _, h, _, _ => by cases h
  | _ :: _, [], h, _, _ => by cases h
  | d :: ds, e :: es, h, f, hn => by
    cases n with
    | zero => rcases hn with z | z; cases z; omega
    | succ n =>
      have h0 := f 0 d e rfl rfl
      have ht := dMs_map (n := n + 1) (ds := ds) (es := es) (by simpa using h) (fun i x y hx hy => f (i + 1) x y hx hy) (.inr (Nat.succ_pos _))
      unfold dMs dPs
      rw [h0, ht]
      all_goals (cases dP e <;> cases dPs es <;> rfl)
/-- plain data read the same -/
theorem dM_nb {M : Mh} : ∀ {n : Nat} {d : D}, Nb n d → dM M (n + 1) d = dP d := by
  intro n
  induction n with
  | zero => intro d h; exact h.elim
  | succ n ih =>
    intro d h
    rcases h with (rfl | ⟨i, rfl⟩ | ⟨s, rfl, _⟩) | ⟨ds, rfl | rfl, _, h3⟩
    · unfold dM dP; rfl
    · unfold dM dP; rfl
    · unfold dM dP; rfl
    · have := dMs_map (M := M) (n := n + 1) (ds := ds) (es := ds) rfl (fun i a b ha hb => by rw [ha] at hb; cases hb; exact ih (h3 a (List.mem_of_getElem? ha))) (.inr (Nat.succ_pos _))
      unfold dM dP
      rw [this]
    · have := dMs_map (M := M) (n := n + 1) (ds := ds) (es := ds) rfl (fun i a b ha hb => by rw [ha] at hb; cases hb; exact ih (h3 a (List.mem_of_getElem? ha))) (.inr (Nat.succ_pos _))
      unfold dM dP
      rw [this]
theorem asPn_nb {M : Mh} {n : Nat} {d : D} {k : PyData → Prop} (h : Nb n d) (hk : asPy d M k) : asPn d M k := by
  have e := dM_nb (M := M) h
  have : ∃ x, dP d = some x ∧ k x := by
    cases n with
    | zero => exact h.elim
    | succ n =>
      rcases h with (rfl | ⟨i, rfl⟩ | ⟨s, rfl, _⟩) | ⟨ds, rfl | rfl, _, _⟩ <;> exact hk
  obtain ⟨x, hx, q⟩ := this
  exact ⟨_, x, e.trans hx, q⟩
theorem asPy_mono {M : Mh} {d : D} {k l : PyData → Prop} (h : asPy d M k) (f : ∀ x, k x → l x) : asPy d M l := by
  cases d with
  | ref p =>
    obtain ⟨ds, hm, xs, e, q⟩ := mL.get h
    show mL M p _
    rw [mL_of hm]
    exact ⟨xs, e, f _ q⟩
  | _ => obtain ⟨x, e, q⟩ := h; exact ⟨x, e, f _ q⟩
theorem eqNn {n : Nat} {a b a' b' : D} {M : Mh} {R : Bool → Prop} (hn : n ≤ 50) (fa : ∀ k, asPy a' M k → asPn a M k) (fb : ∀ k, asPy b' M k → asPn b M k) (ha : Nb n a') (hb : Nb n b') (h1 : a' = b' → R true) (h2 : a' ≠ b' → R false) : asPn a M fun x => asPn b M fun y => SeqAt.shaped x = true ∧ SeqAt.shaped y = true ∧ R (PyData.eqv x y) :=
  fa _ (asPy_mono (eqNb hn ha hb h1 h2) fun _ q => fb _ q)
/-- a changing list, read as a plain one -/
theorem asPn_ref {M : Mh} {p : Addr} {n : Nat} {ds es : List D} {k : PyData → Prop} (hm : M p = some (.lst ds)) (hl : ds.length = es.length) (hn : 0 < n) (h : ∀ (i : Nat) d e, ds[i]? = some d → es[i]? = some e → dM M n d = dP e) (hk : asPy (.lst es) M k) : asPn (.ref p) M k := by
  obtain ⟨x, e, q⟩ := (show ∃ x, dP (.lst es) = some x ∧ k x from hk)
  refine ⟨n + 1, x, ?_, q⟩
  unfold dM
  rw [hm]
  simp only
  rw [dMs_map hl h (.inr hn)]
  unfold dP at e
  exact e
end Ab

set_option Elab.async false
set_option linter.all false
set_option maxRecDepth 100000
set_option maxHeartbeats 4000000
namespace Ab
open PySem PySem.Spec PyProof.Rows L2
/-- equal data that hold changing lists -/
theorem neSn {n : Nat} {a b d : D} {M : Mh} {R : PyData → PyData → Prop} (hn : n ≤ 60) (hd : ∀ p, d ≠ .ref p) (fa : ∀ k, asPy d M k → asPn a M k) (fb : ∀ k, asPy d M k → asPn b M k) (h : LtN n d) (hR : ∀ x, PyData.eqv x x = true → R x x) : asPn a M fun x => asPn b M fun y => SeqAt.shaped x = true ∧ SeqAt.shaped y = true ∧ R x y :=
  fa _ (asPy_mono (neSame hn hd h hR) fun _ q => fb _ q)
/-- a plain list whose items read the same -/
theorem asPn_lst {M : Mh} {n : Nat} {ds : List D} {k : PyData → Prop} (hn : 0 < n) (h : ∀ d ∈ ds, dM M n d = dP d) (hk : asPy (.lst ds) M k) : asPn (.lst ds) M k := by
  obtain ⟨x, e, q⟩ := (show ∃ x, dP (.lst ds) = some x ∧ k x from hk)
  refine ⟨n + 1, x, ?_, q⟩
  unfold dM
  rw [dMs_map (es := ds) rfl (fun i a b ha hb => by rw [ha] at hb; cases hb; exact h a (List.mem_of_getElem? ha)) (.inr hn)]
  unfold dP at e
  exact e
end Ab

set_option Elab.async false
set_option linter.all false
set_option maxRecDepth 100000
set_option maxHeartbeats 2000000
namespace Ab
open PySem PySem.Spec PyProof.Rows L2
section
variable {K : PySem.W.Frag} {T : Tt}
/-- enumerate over a list that may change -/
def iEM (a : XE K T) : XI K T where
  t := fun W => iEnum K (tCons (a.t W) tNil)
  w := fun ρ M Φ Ξ => a.w ρ M (fun x M1 => asR x fun p => mL M1 p fun xs => Φ (enumD xs) (fun M2 => M2 p = some (.lst xs)) M1) Ξ
  ok := fun h P σ H wr rs R hq hx => a.ok h wr rs (fun v d P1 M1 H1 h1 s1 r1 => by
    obtain ⟨p, rfl, h2⟩ := asR.get h1
    obtain ⟨xs, hm, h3⟩ := mL.get h2
    obtain ⟨o, ho, rm⟩ := s1.wr.chg _ _ hm
    cases rm with
    | @lst vs _ hr =>
      refine ⟨p, vs, by rw [r1.toR], SqL.of ho, hq _ _ _ _ _ _ h3 s1 fun P3 M3 H3 s3 hm3 => ?_⟩
      obtain ⟨o3, ho3, rm3⟩ := s3.wr.chg _ _ hm3
      cases rm3 with
      | @lst vs3 _ hr3 =>
        refine ⟨fun i d e => ?_, ⟨vs3, SqL.of ho3, by rw [enumD_len, hr3.len]; exact Nat.le_refl _⟩⟩
        obtain ⟨x, e1, rfl⟩ := enumD_get e
        obtain ⟨v1, f1, g1⟩ := hr3.getd e1
        refine ⟨⟨vs3, v1, SqL.of ho3, f1⟩, fun z H4 hy => ?_⟩
        obtain ⟨t, x1, rfl, hn, rfl, q1⟩ := hy
        have w1 := q1 vs3 (SqL.of ho3)
        rw [f1] at w1; cases w1
        have s4 := Step.newP s3.wr (o := .tup [.int (i : Nat), v1]) hn
        exact ⟨_, s4, .tup upd_same (.cons (.int _) (.cons (g1.mono s4.ex) .nil))⟩) hx
/-- enumerate(xs, start=k0) over a list that may change -/
def iEkM (k0 : Int) (a : XE K T) : XI K T where
  t := fun W => iEnumK K k0 (a.t W)
  w := fun ρ M Φ Ξ => a.w ρ M (fun x M1 => asR x fun p => mL M1 p fun xs => Φ (enumKD k0 xs) (fun M2 => M2 p = some (.lst xs)) M1) Ξ
  ok := fun h P σ H wr rs R hq hx => a.ok h wr rs (fun v d P1 M1 H1 h1 s1 r1 => by
    obtain ⟨p, rfl, h2⟩ := asR.get h1
    obtain ⟨xs, hm, h3⟩ := mL.get h2
    obtain ⟨o, ho, rm⟩ := s1.wr.chg _ _ hm
    cases rm with
    | @lst vs _ hr =>
      refine ⟨p, vs, r1.toR, SqL.of ho, hq _ _ _ _ _ _ h3 s1 fun P3 M3 H3 s3 hm3 => ?_⟩
      obtain ⟨o3, ho3, rm3⟩ := s3.wr.chg _ _ hm3
      cases rm3 with
      | @lst vs3 _ hr3 =>
        refine ⟨fun i d e => ?_, ⟨vs3, SqL.of ho3, by rw [enumKD_len, hr3.len]; exact Nat.le_refl _⟩⟩
        obtain ⟨x, e1, rfl⟩ := enumKD_get e
        obtain ⟨v1, f1, g1⟩ := hr3.getd e1
        refine ⟨⟨vs3, v1, SqL.of ho3, f1⟩, fun z H4 hy => ?_⟩
        obtain ⟨t, x1, rfl, hn, rfl, q1⟩ := hy
        have w1 := q1 vs3 (SqL.of ho3)
        rw [f1] at w1; cases w1
        have s4 := Step.newP s3.wr (o := .tup [.int (k0 + (i : Nat)), v1]) hn
        exact ⟨_, s4, .tup upd_same (.cons (.int _) (.cons (g1.mono s4.ex) .nil))⟩) hx
/-- xs.extend(ys) -/
def xExt (o a : XE K T) : XE K T where
  t := fun W => tBM K "list" rExtend (o.t W) (tCons (a.t W) tNil)
  w := fun ρ M Φ Ξ => o.w ρ M (fun x M1 => asR x fun p => mL M1 p fun _ => a.w ρ M1 (fun y M2 => asLt y M2 fun es => mL M2 p fun ds => ds.length + es.length ≤ 100000 ∧ Φ .non (um M2 p (.lst (ds ++ es)))) Ξ) Ξ
  ok := fun h _ _ _ wr rs _ hq hx => o.ok h wr rs (fun v x P1 M1 H1 h1 s1 r1 => by
    obtain ⟨p, rfl, h2⟩ := asR.get h1
    obtain ⟨ds0, hm0, h3⟩ := mL.get h2
    obtain ⟨o0, ho0, rm0⟩ := s1.wr.chg _ _ hm0
    rw [r1.toR]
    cases rm0 with
    | lst hr0 =>
      refine ⟨.inl ⟨rfl, _, SqL.of ho0⟩, a.ok h3 s1.wr (rs.mono s1.ex) (fun u y P2 M2 H2 h4 s2 r2 => ?_) (hx.mono s1)⟩
      obtain ⟨es, b, us, h5, rfl, hb, hu⟩ := h4.rd s2.wr r2
      obtain ⟨ds, hm, h6, h7⟩ := mL.get h5
      obtain ⟨ob, ho, rm⟩ := s2.wr.chg _ _ hm
      cases rm with
      | lst hr => exact ⟨p, b, _, us, rfl, rfl, ho, hb, by rw [hr.len, hu.len]; exact sz_of h6, hq _ _ _ _ _ h7 ((s1.trans s2).trans (Step.put s2.wr hm (.lst (hr.app hu)))) .non⟩) hx
/-- all are truth values -/
def blsD : List D → Option (List Bool)
  | [] => some []
  | .bl s :: r => (blsD r).map (s :: ·)
  | _ :: _ => none
theorem blsD_rep {P : Hp} : ∀ {vs : List V} {ds : List D} {xs : List Bool}, RepL K P vs ds → blsD ds = some xs → vs = xs.map V.bl
  | _, _, _, .nil, h => by cases h; rfl
  | _, .bl s :: ds, xs, .cons r t, h => by
    unfold blsD at h
    cases e : blsD ds with
    | none => rw [e] at h; cases h
    | some ys => rw [e] at h; cases h; rw [r.toB, blsD_rep t e]; rfl
theorem blsD_map : ∀ (xs : List Bool), blsD (xs.map D.bl) = some xs
  | [] => rfl
  | x :: xs => by show (blsD (xs.map D.bl)).map (x :: ·) = _; rw [blsD_map xs]; rfl
def asBls (ds : List D) (k : List Bool → Prop) : Prop := match blsD ds with | some xs => k xs | none => False
theorem asBls_ {xs : List Bool} {k : List Bool → Prop} : asBls (xs.map D.bl) k = k xs := by unfold asBls; rw [blsD_map]
/-- any(a list of truth values) -/
def bAny : XB K T where
  r := rAny K
  w := fun ds M Φ => arg1 ds fun d => asL d M fun es => asBls es fun xs => Φ (.bl (xs.any id)) M
  ok := fun h P H vs wr r Q hq => by
    obtain ⟨d, rfl, h1⟩ := h.get
    obtain ⟨v, rfl, r1⟩ := r.one
    obtain ⟨es, a, us, h2, rfl, hs, hr⟩ := h1.rd wr r1
    unfold asBls at h2
    cases e : blsD es with
    | none => rw [e] at h2; exact h2.elim
    | some xs =>
      rw [e] at h2
      have e2 := blsD_rep hr e
      subst e2
      exact ⟨a, xs, rfl, hs, hq _ _ _ _ _ h2 (Step.refl wr) (.bl _)⟩
/-- x in a list, data -/
def oInN (neg : Bool) : XO K T where
  r := if neg then rNotInD K else rInD K
  w := fun x y M Φ => asPy x M fun a => asPy y M fun b => SeqAt.shaped a = true ∧ SeqAt.shaped b = true ∧ ∃ ds, b = .list ds ∧ Φ (.bl (if neg then !ds.any (fun z => PyData.eqv z a) else ds.any fun z => PyData.eqv z a)) M
  ok := fun {x y M Φ} h P H vx vy wr rx ry Q hq => by
    obtain ⟨a, h1, h2⟩ := asPy.rd h wr rx
    obtain ⟨b, h3, h4, h5, ds, rfl, h6⟩ := asPy.rd h2 wr ry
    cases neg with
    | true => exact ⟨a, ds, h1, h3, h4, h5, hq _ _ _ _ _ h6 (Step.refl wr) (.bl _)⟩
    | false => exact ⟨a, ds, h1, h3, h4, h5, hq _ _ _ _ _ h6 (Step.refl wr) (.bl _)⟩
theorem dPs_get : ∀ {ds : List D} {xs : List PyData}, dPs ds = some xs → ∀ (x : D) (a : PyData) (n : Nat), Nb n x → dP x = some a → (∀ d ∈ ds, Nb n d) → (xs.any (fun z => PyData.eqv z a) = true ↔ x ∈ ds)
  | [], xs, h, x, a, n, hx, ha, hd => by
    have : xs = [] := by unfold dPs at h; exact (Option.some.inj h).symm
    subst this; simp
  | d :: ds, xs, h, x, a, n, hx, ha, hd => by
    obtain ⟨z, ys, e1, e2, rfl⟩ := dPs_cons h
    have ih := dPs_get e2 x a n hx ha fun d hd2 => hd d (List.mem_cons_of_mem _ hd2)
    rw [List.any_cons, Bool.or_eq_true, ih, nb_eqv (hd d List.mem_cons_self) hx e1 ha, List.mem_cons]
    exact ⟨fun q => q.elim (fun z => .inl z.symm) .inr, fun q => q.elim (fun z => .inl z.symm) .inr⟩
/-- not e, e any thing that has a truth -/
def xNotT (a : XE K T) : XE K T where
  t := fun W => tNotT K (a.t W)
  w := fun ρ M Φ Ξ => a.w ρ M (fun d M1 => trD M1 d fun b => Φ (.bl (!b)) M1) Ξ
  ok := fun h P σ H wr rs Q hq hx => a.ok h wr rs (fun v d P1 M1 H1 h1 s1 r1 => by
    obtain ⟨b, h2, h3⟩ := h1.rd s1.wr r1
    exact ⟨b, h3, hq _ _ _ _ _ h2 s1 (.bl _)⟩) hx
/-- a dict by tuples, read -/
def mT (M : Mh) (p : Addr) (k : List (List Key × D) → Prop) : Prop := match M p with | some (.dcT kds) => k kds | _ => False
theorem mT_of {M : Mh} {p : Addr} {k : List (List Key × D) → Prop} {kds : List (List Key × D)} (h : M p = some (.dcT kds)) : mT M p k = k kds := by unfold mT; rw [h]
theorem mT.get {M : Mh} {p : Addr} {k : List (List Key × D) → Prop} (h : mT M p k) : ∃ kds, M p = some (.dcT kds) ∧ k kds := by
  unfold mT at h
  split at h
  · exact ⟨_, by assumption, h⟩
  · exact h.elim
def bLenT : XB K T where
  r := rLenT
  w := fun ds M Φ => arg1 ds fun d => asR d fun p => mT M p fun kds => Φ (.int kds.length) M
  ok := fun h P H vs wr r Q hq => by
    obtain ⟨d, rfl, h1⟩ := h.get
    obtain ⟨v, rfl, r1⟩ := r.one
    obtain ⟨p, rfl, h2⟩ := asR.get h1
    obtain ⟨kds, hm, h3⟩ := h2.get
    obtain ⟨ob, ho, rm⟩ := wr.chg _ _ hm
    cases rm with
    | @dcT kvs _ hk hr =>
      have z1 : kvs.length = kds.length := by have := congrArg List.length hk; simpa using this
      exact ⟨p, kvs, by rw [r1.toR], ho, by rw [z1]; exact hq _ _ _ _ _ h3 (Step.refl wr) (.int _)⟩
theorem know_all {P : Hp} {M : Mh} {H : Hp} (w : Wr K T P M H) {kvs : List (List Key × V)} {bs : List Addr} (h : IsKeys H kvs bs) : ∃ P', Step K T P M H P' M H ∧ RepL K P' (bs.map V.ref) (kvs.map fun kv => D.tup (kv.1.map kD)) := by
  unfold IsKeys at h
  induction h with
  | nil => exact ⟨P, Step.refl w, .nil⟩
  | @cons x y xs ys h t ih =>
    obtain ⟨P1, s1, r1⟩ := ih
    have s2 := Step.knowT s1.wr h
    have kk : ∀ {P : Hp} (ks : List Key), RepL K P (ks.map kV) (ks.map kD) := fun {P} ks => by
      induction ks with
      | nil => exact .nil
      | cons k ks ih => exact .cons (rep_kd k) ih
    exact ⟨_, s1.trans s2, .cons (.tup upd_same (kk _)) (RepL.mono s2.ex r1)⟩
/-- list(a dict by tuples) -/
def bListDT : XB K T where
  r := fun xs H Q => ∃ d kvs, xs = [V.ref d] ∧ Rd H d (.dT kvs) ∧ ∀ p bs, H p = none → IsKeys H kvs bs → Q (.ref p) (upd H p (.lst (bs.map V.ref)))
  w := fun ds M Φ => arg1 ds fun d => asR d fun p => mT M p fun kds => Φ (.lst (kds.map fun kv => .tup (kv.1.map kD))) M
  ok := fun h P H vs wr r Q hq => by
    obtain ⟨d, rfl, h1⟩ := h.get
    obtain ⟨v, rfl, r1⟩ := r.one
    obtain ⟨p, rfl, h2⟩ := asR.get h1
    obtain ⟨kds, hm, h3⟩ := h2.get
    obtain ⟨ob, ho, rm⟩ := wr.chg _ _ hm
    cases rm with
    | @dcT kvs _ hk hr =>
      refine ⟨p, kvs, by rw [r1.toR], .inl ho, fun q bs hn hi => ?_⟩
      obtain ⟨P1, s1, r2⟩ := know_all wr hi
      have e : (kvs.map fun kv => D.tup (kv.1.map kD)) = kds.map fun kv => D.tup (kv.1.map kD) := by
        have := congrArg (List.map fun k : List Key => D.tup (k.map kD)) hk
        rw [List.map_map, List.map_map] at this
        exact this
      rw [e] at r2
      have s2 := Step.newP s1.wr (o := .lst (bs.map V.ref)) hn
      exact hq _ _ _ _ _ h3 (s1.trans s2) (.lst upd_same (RepL.mono s2.ex r2))
end
section
variable {X : Cx} {W : WX} {T : Tt} {pos : Pos} {a xo : XE X.K T} {ea eo : Expr}
theorem diEM {p tpos : Pos} {elts : List Expr} {kk : Nat} (hm : X.mg "enumerate" = none) (he : PE X ea (a.t W)) (hg : Gl X "enumerate" := by rfl) (hs : starEach [ea] X.env = [(false, eval ea X.env)] := by rfl) (hs2 : starEach [ea] X.env = (false, eval ea X.env) :: starEach [] X.env := by rfl) :
    PI X (.Tuple elts kk tpos) (.Call (.Name "enumerate" p) [ea] [] pos) ((iEM a).t W) := pi_enum hg hm (pa_cons he pa_nil hs2) hs
theorem diEkM {p tpos kp cp : Pos} {elts : List Expr} {kk : Nat} {k0 : Int} {j0 : Nat} (hm : X.mg "enumerate" = none) (he : PE X ea (a.t W)) (h0 : -(2 ^ 63) ≤ k0 := by decide) (h1 : k0 < 2 ^ 63 := by decide) (hg : Gl X "enumerate" := by rfl)
    (hee : backTo pos (starEach [ea] X.env) = (false, eval ea X.env) :: backTo pos (starEach [] X.env) := by rfl) (hplain : (backTo pos (starEach [ea] X.env)).any (·.1) = false := by rfl)
    (hall : (backToKw pos (keywordEach [⟨some "start", .Constant (.int k0) j0 cp, kp⟩] X.env)).all (·.1.isSome) = true := by rfl) (hkw : (backToKw pos (keywordEach [⟨some "start", .Constant (.int k0) j0 cp, kp⟩] X.env)).any (·.1.isNone) = false := by rfl)
    (hks : (backToKw pos (keywordEach [⟨some "start", .Constant (.int k0) j0 cp, kp⟩] X.env)).filterMap (·.1) = [Str.ofString "start"] := by rfl)
    (hkv : (backToKw pos (keywordEach [⟨some "start", .Constant (.int k0) j0 cp, kp⟩] X.env)).map (·.2) = [do let v ← eval (.Constant (.int k0) j0 cp) X.env; standAt pos; pure v] := by rfl) :
    PI X (.Tuple elts kk tpos) (.Call (.Name "enumerate" p) [ea] [⟨some "start", .Constant (.int k0) j0 cp, kp⟩] pos) ((iEkM k0 a).t W) := pi_enumK h0 h1 hg hm he hee hplain hall hkw hks hkv
theorem dExt {p : Pos} (ho : PE X eo (xo.t W)) (ha : PE X ea (a.t W)) (hbase : attributeBase eo "extend" X.env (eval eo X.env) = eval eo X.env := by rfl)
    (hfew : ((backTo pos (starEach [ea] X.env)).all (fun x => !x.1) && (backToKw pos (keywordEach [] X.env)).all (fun x => x.1.isSome) && decide ([ea].length + ([] : List Keyword).length + (if ([] : List Keyword).isEmpty then 0 else 1) < 30)) = true := by rfl)
    (hline : (p.endLine == pos.line) = true := by rfl) (hs : starEach [ea] X.env = (false, eval ea X.env) :: starEach [] X.env := by rfl) (hpl : (backTo pos (starEach [] X.env)).any (·.1) = false := by rfl) :
    PE X (.Call (.Attribute eo "extend" p) [ea] [] pos) ((xExt xo a).t W) := pe_bm PySem.F.plainAttrs_list PySem.F.slot_list_extend PySem.F.type_list_extend mt_extend ho (pa_cons ha pa_nil hs) hbase hfew hline hs hpl
theorem op_inN (hu : X.A.units + 65 < cLine) : OpR X (compareOp .In) (oInN (K := X.K) (T := T) false).r := op_inD hu
theorem op_notInN (hu : X.A.units + 65 < cLine) : OpR X (compareOp .NotIn) (oInN (K := X.K) (T := T) true).r := op_notInD hu
theorem dNotT (ha : PE X ea (a.t W)) : PE X (.UnaryOp .Not ea pos) ((xNotT a).t W) := pe_notT ha
end
end Ab
namespace Ab
open PySem PySem.Spec PyProof.Rows L2
theorem un65 {k : Nat} {A : Around} (r : Room k A) : A.units + 65 < cLine := by have := r.un; omega
/-- plain data in a list of plain data -/
theorem inNb {n : Nat} {a b : D} {ds : List D} {M : Mh} {R : Bool → Prop} (hn : n ≤ 49) (ha : Nb n a) (hb : b = .lst ds ∨ ∃ p, b = .ref p ∧ M p = some (.lst ds)) (hl : ds.length ≤ 1000) (hd : ∀ d ∈ ds, Nb n d) (h1 : a ∈ ds → R true) (h2 : a ∉ ds → R false) :
    asPy a M fun x => asPy b M fun y => SeqAt.shaped x = true ∧ SeqAt.shaped y = true ∧ ∃ es, y = .list es ∧ R (es.any fun z => PyData.eqv z x) := by
  obtain ⟨x, e, c, dd⟩ := ha.lt
  obtain ⟨y, e', c', dd'⟩ := (nb_lst hl hd).lt
  obtain ⟨ys, e2, rfl⟩ := dP_lst e'
  have fin : SeqAt.shaped x = true ∧ SeqAt.shaped (.list ys) = true ∧ ∃ es, PyData.list ys = .list es ∧ R (es.any fun z => PyData.eqv z x) := by
    refine ⟨lt_sh (by omega) c dd, lt_sh (by omega) c' dd', ys, rfl, ?_⟩
    have := dPs_get e2 a x n ha e hd
    by_cases q : a ∈ ds
    · rw [this.mpr q]; exact h1 q
    · have : (ys.any fun z => PyData.eqv z x) = false := by
        cases z : (ys.any fun z => PyData.eqv z x) with
        | false => rfl
        | true => exact absurd (this.mp z) q
      rw [this]; exact h2 q
  have g : ∀ (d : D) (z : PyData), Nb n d → dP d = some z → ∀ k : PyData → Prop, k z → asPy d M k := fun d z hd ez k hk => by
    cases d with
    | ref p => cases ez
    | _ => exact ⟨z, ez, hk⟩
  refine g a x ha e _ ?_
  rcases hb with rfl | ⟨p, rfl, hm⟩
  · exact ⟨_, e', fin⟩
  · show mL M p _
    rw [mL_of hm]
    exact ⟨_, e2, fin⟩
end Ab

set_option Elab.async false
set_option linter.all false
set_option maxRecDepth 100000
set_option maxHeartbeats 2000000
/-! The store as data. -/
namespace Ab
open PySem PySem.Spec PyProof.Rows L2
/-- host, incarnation, number -/
abbrev Rq := Int × Int × Int
structure Ls where
  h : Int
  i : Int
  n : Int
  cv : Str × Str
  un : Int
  mo : Int
  ti : Int
  rt : Bool
def Ls0 : Ls := ⟨0, 0, 0, (Str.empty, Str.empty), 0, 0, 0, true⟩
def encLs (z : Ls) : D := .tup [.int z.h, .int z.i, .int z.n, encV z.cv, .int z.un, .int z.mo, .int z.ti, .bl z.rt]
abbrev Pn := Rq × List Wt
def encPn (p : Pn) : D := .tup [.int p.1.1, .int p.1.2.1, .int p.1.2.2, encG p.2]
def actL (z : Ls) (t : Int) : Bool := !z.rt && decide (t < z.un)
structure Sto where
  hc : Nat
  ll : Int
  up : Bool
  led : List Cm
  lea : List Ls
  pen : List Pn
  tab : List (Rq × (Int × Int))
def hld (gs : List (List Wt)) (t : Int) (z : Ls) : Bool := actL z t && gs.any fun g => tchG g z.cv
def hldI (lea : List Ls) (gs : List (List Wt)) (t : Int) : List Nat := (List.range lea.length).filter fun i => hld gs t (lea.getD i Ls0)
def wrD (r : Rq) (m t : Int) : D := .tup [.str "written", .int r.1, .int r.2.1, .int r.2.2, .int m, .int t]
def ntD (k m t : Int) (g : List Wt) : D := .tup [.str "note", .int k, .int m, .int t, encG g]
def rcD (z : Ls) (k : Nat) : D := .tup [.str "recall", .int z.h, .int z.i, .int (k : Nat)]
def dnD (r : Rq) : D := .tup [.str "denied", .int r.1, .int r.2.1, .int r.2.2]
def lsD (k : Nat) (z : Ls) : D := .tup [.str "leased", .int z.h, .int z.i, .int z.n, .int (k : Nat), encV z.cv, .int z.un, .int z.mo, .int z.ti]
def recs (s : Sto) (gs : List (List Wt)) (t : Int) : List D := (hldI s.lea gs t).map fun k => rcD (s.lea.getD k Ls0) k
def can (s : Sto) (t : Int) : Bool := s.up && (!s.pen.isEmpty && (decide (s.led.length < 200) && (hldI s.lea ((s.pen.take 1).map Prod.snd) t).isEmpty))
def cmt (s : Sto) (t : Int) : Sto × List D := match s.pen with
  | [] => (s, [])
  | p :: r => ({ s with pen := r, led := s.led ++ [(t, p.2)], tab := pK s.tab p.1 ((s.led.length : Int) + 1, t) }, wrD p.1 ((s.led.length : Int) + 1) t :: (List.range s.hc).map fun k => ntD (k : Nat) ((s.led.length : Int) + 1) t p.2)
def setl : Nat → Sto → Int → Sto × List D
  | 0, s, _ => (s, [])
  | n + 1, s, t => if can s t = true then ((setl n (cmt s t).1 t).1, (cmt s t).2 ++ (setl n (cmt s t).1 t).2) else (s, [])
def settle (s : Sto) (t : Int) : Sto × List D := setl s.pen.length s t
def tkW (s : Sto) (r : Rq) (g : List Wt) (t : Int) : Sto × List D := match vK s.tab r with
  | some (m, w) => (s, [wrD r m w])
  | none => if (s.pen.any fun p => decide (p.1 = r)) = true then (s, []) else
    ((settle { s with pen := s.pen ++ [(r, g)] } t).1, recs s [g] t ++ (settle { s with pen := s.pen ++ [(r, g)] } t).2)
/-- the first lease of a request -/
def fndL (lea : List Ls) (r : Rq) : Option Nat := lea.findIdx? fun z => decide ((z.h, z.i, z.n) = r)
def grt (s : Sto) (r : Rq) (cv : Str × Str) (t : Int) : Sto × List D := match fndL s.lea r with
  | some k => (s, [lsD k (s.lea.getD k Ls0)])
  | none => if (s.pen.any fun p => tchG p.2 cv) = true then (s, [dnD r]) else
    ({ s with lea := s.lea ++ [⟨r.1, r.2.1, r.2.2, cv, t + s.ll, s.led.length, t, false⟩] }, [lsD s.lea.length ⟨r.1, r.2.1, r.2.2, cv, t + s.ll, s.led.length, t, false⟩])
def tkB (s : Sto) (h i k : Int) (t : Int) : Sto × List D :=
  if 0 ≤ k ∧ k < s.lea.length then
    (if (s.lea.getD k.toNat Ls0).h = h ∧ (s.lea.getD k.toNat Ls0).i = i then settle { s with lea := s.lea.set k.toNat { s.lea.getD k.toNat Ls0 with rt := true } } t else (s, []))
  else (s, [])
theorem cmt_pen {s : Sto} {t : Int} : (cmt s t).1.pen = s.pen.tail := by
  unfold cmt; cases e : s.pen with
  | nil => simp [e]
  | cons p r => rfl
theorem can_pen {s : Sto} {t : Int} (h : can s t = true) : ∃ p r, s.pen = p :: r := by
  unfold can at h
  cases e : s.pen with
  | nil => rw [e] at h; simp at h
  | cons p r => exact ⟨p, r, rfl⟩
theorem settle_yes {s : Sto} {t : Int} (h : can s t = true) : settle s t = ((settle (cmt s t).1 t).1, (cmt s t).2 ++ (settle (cmt s t).1 t).2) := by
  obtain ⟨p, r, e⟩ := can_pen h
  unfold settle
  rw [show s.pen.length = (cmt s t).1.pen.length + 1 by rw [cmt_pen, e]; rfl]
  conv => lhs; unfold setl
  rw [if_pos h]
theorem settle_no {s : Sto} {t : Int} (h : ¬ can s t = true) : settle s t = (s, []) := by
  unfold settle
  cases s.pen.length with
  | zero => rfl
  | succ n => unfold setl; rw [if_neg h]
/-- what a settling keeps -/
theorem settle_inv {P : Sto → Prop} {t : Int} (hc : ∀ s, P s → can s t = true → P (cmt s t).1) : ∀ s, P s → P (settle s t).1 := by
  have : ∀ n s, P s → P (setl n s t).1 := by
    intro n
    induction n with
    | zero => intro s h; exact h
    | succ n ih =>
      intro s h
      unfold setl
      by_cases c : can s t = true
      · rw [if_pos c]; exact ih _ (hc s h c)
      · rw [if_neg c]; exact h
  exact fun s h => this _ s h
structure SB (s : Sto) : Prop where
  led : s.led.length ≤ 200
  lea : s.lea.length ≤ 500
  pen : s.pen.length ≤ 500
  hc : s.hc ≤ 30
  tab : s.tab.length ≤ s.led.length
theorem SB.cmt {s : Sto} {t : Int} (h : SB s) (c : can s t = true) : SB (cmt s t).1 := by
  obtain ⟨p, r, e⟩ := can_pen c
  have hl : s.led.length < 200 := by
    unfold can at c
    simp only [Bool.and_eq_true, decide_eq_true_eq] at c
    exact c.2.2.1
  obtain ⟨a1, a2, a3, a4, a5⟩ := h
  unfold Ab.cmt
  rw [e]
  rw [e] at a3
  have pl := pK_len s.tab p.1 (((s.led.length : Int) + 1, t) : Int × Int)
  refine ⟨by simp; omega, a2, by simp at a3 ⊢; omega, a4, ?_⟩
  simp only [List.length_append, List.length_singleton]; omega
theorem SB.settle {s : Sto} {t : Int} (h : SB s) : SB (settle s t).1 := settle_inv (fun _ h c => h.cmt c) s h
/-- the letters of a settling are not many -/
theorem settle_len {t : Int} : ∀ (n : Nat) (s : Sto), SB s → (setl n s t).2.length + s.led.length * 31 ≤ 6200
  | 0, s, h => by have := h.led; show 0 + _ ≤ _; omega
  | n + 1, s, h => by
    unfold setl
    by_cases c : can s t = true
    · rw [if_pos c, List.length_append]
      have ih := settle_len (t := t) n _ (h.cmt c)
      obtain ⟨p, r, e⟩ := can_pen c
      have e1 : (Ab.cmt s t).1.led.length = s.led.length + 1 := by unfold Ab.cmt; rw [e]; simp
      have e2 : (Ab.cmt s t).2.length = s.hc + 1 := by unfold Ab.cmt; rw [e]; simp
      rw [e1] at ih
      have := h.hc
      omega
    · rw [if_neg c]; have := h.led; show 0 + _ ≤ _; omega
theorem hldI_len (lea : List Ls) (gs : List (List Wt)) (t : Int) : (hldI lea gs t).length ≤ lea.length := by
  unfold hldI
  have := List.length_filter_le (fun i => hld gs t (lea.getD i Ls0)) (List.range lea.length)
  rw [List.length_range] at this; exact this
theorem hldI_mem {lea : List Ls} {gs : List (List Wt)} {t : Int} {k : Nat} : k ∈ hldI lea gs t ↔ k < lea.length ∧ hld gs t (lea.getD k Ls0) = true := by
  unfold hldI; rw [List.mem_filter, List.mem_range]
/-- the first i of them -/
def hldT (lea : List Ls) (gs : List (List Wt)) (t : Int) (i : Nat) : List Nat := (List.range i).filter fun i => hld gs t (lea.getD i Ls0)
theorem hldT_all (lea : List Ls) (gs : List (List Wt)) (t : Int) : hldT lea gs t lea.length = hldI lea gs t := rfl
theorem hldT_s (lea : List Ls) (gs : List (List Wt)) (t : Int) (i : Nat) {z : Ls} (h : lea[i]? = some z) : hldT lea gs t (i + 1) = hldT lea gs t i ++ if hld gs t z = true then [i] else [] := by
  unfold hldT
  rw [List.range_succ, List.filter_append]
  have e : lea.getD i Ls0 = z := by rw [List.getD_eq_getElem?_getD, h]; rfl
  by_cases c : hld gs t z = true
  · rw [if_pos c, List.filter_cons_of_pos (by rw [e]; exact c)]; rfl
  · rw [if_neg c, List.filter_cons_of_neg (by rw [e]; exact c)]; rfl
/-! the table's keys -/
def rqK (r : Rq) : List Key := [Sum.inl r.1, Sum.inl r.2.1, Sum.inl r.2.2]
def mtD (e : Int × Int) : D := .tup [.int e.1, .int e.2]
def tabD (l : List (Rq × (Int × Int))) : List (List Key × D) := l.map fun p => (rqK p.1, mtD p.2)
theorem rqK_inj : ∀ a b : Rq, rqK a = rqK b → a = b := by
  rintro ⟨a, b, c⟩ ⟨d, e, f⟩ h
  unfold rqK at h
  simp only [List.cons.injEq, Sum.inl.injEq, and_true] at h
  obtain ⟨rfl, rfl, rfl⟩ := h
  rfl
theorem tabD_get (l : List (Rq × (Int × Int))) (r : Rq) : vK (tabD l) (rqK r) = (vK l r).map mtD := vK_inj rqK_inj mtD l r
theorem tabD_put (l : List (Rq × (Int × Int))) (r : Rq) (e : Int × Int) : pK (tabD l) (rqK r) (mtD e) = tabD (pK l r e) := pK_inj rqK_inj mtD l r e
theorem tabD_len (l : List (Rq × (Int × Int))) : (tabD l).length = l.length := List.length_map _
/-! the addresses of a store; what is not theirs -/
structure StA where
  p : Addr
  dx : Addr
  ql : Addr
  qe : Addr
  qp : Addr
  qt : Addr
def StA.own (a : StA) : List Addr := [a.p, a.ql, a.qe, a.qp, a.qt]
/-- all but S stays -/
def Frm (S : List Addr) (M M' : Mh) : Prop := ∀ x m, M x = some m → x ∉ S → M' x = some m
theorem Frm.refl {S : List Addr} (M : Mh) : Frm S M M := fun _ _ h _ => h
theorem Frm.trans {S : List Addr} {M M1 M2 : Mh} (a : Frm S M M1) (b : Frm S M1 M2) : Frm S M M2 := fun x m h n => b x m (a x m h n) n
theorem Frm.u {S : List Addr} {M M' : Mh} {x : Addr} {m : MO} (h : x ∈ S) (a : Frm S M M') : Frm S M (um M' x m) := fun y q e n => by
  rw [um_ne (fun z => n (by rw [z]; exact h))]; exact a y q e n
theorem Frm.n {S : List Addr} {M M' : Mh} {x : Addr} {m : MO} (h : M x = none) (a : Frm S M M') : Frm S M (um M' x m) := fun y q e n => by
  rw [um_ne (ne_nn e h)]; exact a y q e n
theorem Frm.e {S : List Addr} {M M' : Mh} {x : Addr} (h : M x = none) (a : Frm S M M') : Frm S M (em M' x) := fun y q e n => by
  rw [em_ne (ne_nn e h)]; exact a y q e n
theorem Frm.e' {S : List Addr} {M M' : Mh} {x : Addr} (h : x ∈ S) (a : Frm S M M') : Frm S M (em M' x) := fun y q e n => by
  rw [em_ne (fun z => n (by rw [z]; exact h))]; exact a y q e n
theorem Frm.kp {S : List Addr} {M M' : Mh} (k : Kp M M') : Frm S M M' := fun y q e _ => k y q e
theorem Frm.gs {S : List Addr} {M M' : Mh} {st : Addr} (a : Frm S M M') (g : GS M st) (n : st ∉ S) : GS M' st := let ⟨q, e, v⟩ := g; ⟨q, a _ _ e n, v⟩
theorem Frm.sub {S S' : List Addr} {M M' : Mh} (a : Frm S M M') (h : ∀ x, x ∈ S → x ∈ S' ∨ M x = none) : Frm S' M M' := fun y q e n => a y q e fun z => (h y z).elim n fun k => by rw [k] at e; cases e
end Ab

set_option Elab.async false
set_option linter.all false
set_option maxRecDepth 100000
set_option maxHeartbeats 2000000
/-! Tables of methods. -/
namespace Ab
open PySem PySem.Spec PyProof.Rows L2
/-- what is known of a method's table -/
structure TbM (K : PySem.W.Frag) (mg : Str → Option Value) (base : Heap) (T : Tt) (C : Addr) (m : Str) : Prop where
  ex : ∃ f c Pt, PySem.W.findIn K (.ref C) m = some (some (.ref f)) ∧ (∀ o fd, K.lookup f = some o → o.data = .func fd → fd.code = .ref c) ∧ GxR.TabB base mg c Pt ∧ T.g Pt
section
variable {P : Program} {w : World} {K : PySem.W.Frag} {mg : Str → Option Value} {base : Heap} {T : Tt}
theorem fnTm {x qual : Str} {st : Stmt} {f : Addr} {fd : FuncData} {N ps : List Str} {k : Nat} {sp : Pm} (F : L2.Fun K x qual st f fd) (t : ∃ c Pt, (∀ o fd, K.lookup f = some o → o.data = .func fd → fd.code = .ref c) ∧ GxR.TabB base mg c Pt ∧ T.g Pt) (S : FnScope N ps (defScope st)) (b : XS K T) (hlen : ∀ ds M Φ Ξ, sp ds M Φ Ξ → ds.length = ps.length)
    (hd : ∀ (f : Addr) (cdv : Value) (A : Around) (outer : List Env) (s : Shared) (H : Hp) (E : XK), Tb base mg T cdv → Room k (A.deeper (envOfC qual (defScope st) s.heap.objs.size f cdv)) →
      PSs (cxOf (L2.CX P w) P w K mg base N qual (defScope st) f cdv A outer s H E).nox (defBody st) (b.t WX0))
    (hw : ∀ ds M Φ Ξ, sp ds M Φ Ξ → b.w (st0 N.length ds) M ⟨fun _ M' => Φ .non M', Φ, fun _ _ => False, fun _ _ => False⟩ (fun _ _ _ _ => False)) : FnOk P w K mg base (L2.CX P w) (k + 1) f fd ps (spOf K T sp) := by
  obtain ⟨oc, od, kV, doc, pm, an, cdv, ct, osl, rfl, lk, hcd⟩ := F.ex
  obtain ⟨c, Pt, hc, TB, hT⟩ := t
  have e : cdv = .ref c := hc _ _ lk rfl
  refine fn_of lk hcd S (fun vs H Q E h => ?_) (fun A outer s H vs Q E hr h => ?_)
  · obtain ⟨P0, M, ds, Φ, Ξ, wr, r, hs, _⟩ := h
    rw [r.len]; exact hlen _ _ _ _ hs
  · obtain ⟨P0, M, ds, Φ, Ξ, wr, r, hs, hq, _⟩ := h
    refine ⟨_, (hd f cdv A outer s H E ⟨c, Pt, e, TB, hT⟩ hr).nox, ?_⟩
    exact b.ok (hw ds M Φ Ξ hs) wr r.start ⟨fun ρ' σ' P' M' H' h1 s1 r1 => hq _ _ _ _ _ h1 s1 .non, fun v d P' M' H' h1 s1 r1 => hq _ _ _ _ _ h1 s1 r1, fun _ _ _ _ _ z _ _ => z.elim, fun _ _ _ _ _ z _ _ => z.elim⟩ (fun _ _ _ _ _ _ _ z _ _ => z.elim)
theorem meT {m qual : Str} {C : Addr} {st : Stmt} {N ps : List Str} {k : Nat} {sp : Pm} (F : Dm K C m qual st) (t : TbM K mg base T C m) (S : FnScope N ps (defScope st)) (b : XS K T) (hlen : ∀ ds M Φ Ξ, sp ds M Φ Ξ → ds.length = ps.length)
    (hb : ∀ (kV doc pm : Value) (an : Option Addr) (cdv ct : Value) (us : List Value), us.length = ps.length → bindArgs (PySem.W.fnOf m qual (defArgs st) (defBody st) (defScope st) .none kV doc pm an cdv ct) ⟨us, []⟩ = pure (ps.zip us))
    (hd : ∀ (f : Addr) (cdv : Value) (A : Around) (outer : List Env) (s : Shared) (H : Hp) (E : XK), Tb base mg T cdv → Room k (A.deeper (envOfC qual (defScope st) s.heap.objs.size f cdv)) →
      PSs (cxOf (L2.CX P w) P w K mg base N qual (defScope st) f cdv A outer s H E).nox (defBody st) (b.t WX0))
    (hw : ∀ ds M Φ Ξ, sp ds M Φ Ξ → b.w (st0 N.length ds) M ⟨fun _ M' => Φ .non M', Φ, fun _ _ => False, fun _ _ => False⟩ (fun _ _ _ _ => False)) : Me P w K mg base T (k + 1) C m sp := by
  obtain ⟨f, fd, F, c, me, hdf⟩ := F.ex
  obtain ⟨f2, c2, Pt, e1, e2, e3, e4⟩ := t.ex
  have q := me.1
  rw [e1] at q
  cases q
  exact ⟨f, fd, ps, fnTm F ⟨c2, Pt, e2, e3, e4⟩ S b hlen hd hw, c, me, F.binds hb⟩
end
theorem law_walkM {l : PySem.W.OpenLaw} {q : Program} {loose : List Str} {XP : (Str → Option Value) → Heap → Prop} {YP : World → Heap → Prop} {d : DefRec} {K : Params → PySem.W.Frag} {k : Nat} (xs ys : List Str) (ms : List (Addr × Addr)) (hk : Room k callerA) (hn : l.most = some 63) (hdf : d.params.defaults = [])
    (hxs : (xs ++ ys).all (fun x => (recsOf q).any fun d => decide (d.name = x)) = true) (hdj : ∀ w : World, tabsDj (K w.params) xs ys = true) (hdm : ∀ w : World, (ys.all fun y => ms.all fun q => decide (tabP (K w.params) y ≠ some q.2)) = true) (hE : ∀ w : World, (K w.params).all (fun p => noTab p.2) = true)
    (hY : ∀ (w : World) (h : Heap), YP w h → (K w.params).In h ∧ ∀ q ∈ ms, PySem.W.CodeHd h q.1 q.2 ∧ h.get? q.2 = some { cls := .none, data := .fields #[] })
    (F : ∀ (w : World) (mg : Str → Option Value) (fa : Addr) (h : Heap) (T : Tt), (K w.params).In h → h.Ns mainGlobals mg → mg d.name = some (.ref fa) →
      ∃ fd : FuncData, (∀ (s : Shared) (u : Value), BindsTo s fd ⟨[u], []⟩ [("script", u)]) ∧ ∀ base : Heap, (K w.params).In base → base.Ns mainGlobals mg → (∀ x ∈ xs, TbD (K w.params) mg base T x) → (∀ x ∈ ys, TbL (K w.params) mg base T x) → (∀ q ∈ ms, GxR.TabB base mg q.1 q.2 ∧ T.g q.2) → FnOk l.prog w (K w.params) mg base (L2.CX l.prog w) k fa fd ["script"] (spOf (K w.params) T spLaw)) :
    PySem.W.WalkO q loose XP YP l.row.toRowW d [] (fun f vs => PySem.call f vs) := by
  refine Att.attach_callB hn hdf fun w s₀ s₁ mg mb fa o pm cd doc a vs ns G Y ho hd hcd hmg hobj hints hlen hbits hg => ?_
  obtain ⟨KX, hMs⟩ := hY w _ Y
  have tabs : ∀ ys : List Str, (∀ x ∈ ys, ∃ d ∈ recsOf q, d.name = x) → ∃ cs : List (Addr × Addr × Str), (∀ p ∈ cs, s₁.heap.get? p.2.1 = some { cls := .none, data := .fields #[] } ∧ PySem.W.CodeHd s₁.heap p.1 p.2.1 ∧ p.2.2 ∈ ys ∧ ∀ a, tabP (K w.params) p.2.2 = some a → p.2.1 = a) ∧
      ∀ x ∈ ys, ∃ f c Pt, (c, Pt, x) ∈ cs ∧ mg x = some (.ref f) ∧ ∀ o fd, (K w.params).lookup f = some o → o.data = .func fd → fd.code = .ref c := by
    intro ys
    induction ys with
    | nil => exact fun _ => ⟨[], fun p hp => by (cases hp), fun x hx => by (cases hx)⟩
    | cons y ys ih =>
      intro hy
      obtain ⟨cs, h1, h2⟩ := ih fun x hx => hy x (List.mem_cons_of_mem _ hx)
      obtain ⟨d, hd, rfl⟩ := hy y List.mem_cons_self
      obtain ⟨f, o, fd, c, Pt, e1, e2, e3, e4, e5, e6⟩ := G.T.tab d hd
      refine ⟨(c, Pt, d.name) :: cs, fun p hp => ?_, fun x hx => ?_⟩
      · rcases List.mem_cons.mp hp with rfl | hp
        · exact ⟨e6.2, PySem.W.CodeHd.of e5 e6, List.mem_cons_self, fun a ha => tabP_is KX G.T.g e1 e2 e3 e4 (PySem.W.CodeHd.of e5 e6) ha⟩
        · obtain ⟨k1, k2, k3, k4⟩ := h1 p hp
          exact ⟨k1, k2, List.mem_cons_of_mem _ k3, k4⟩
      · rcases List.mem_cons.mp hx with rfl | hx
        · refine ⟨f, c, Pt, List.mem_cons_self, e1, fun o' fd' q1 q2 => ?_⟩
          have z := KX f o' q1
          rw [e2] at z
          cases z
          rw [e3] at q2
          cases q2
          exact e4
        · obtain ⟨f, c, Pt, m1, m2, m3⟩ := h2 x hx
          exact ⟨f, c, Pt, List.mem_cons_of_mem _ m1, m2, m3⟩
  have rec_of : ∀ x, x ∈ xs ++ ys → ∃ d ∈ recsOf q, d.name = x := fun x hx => by
    obtain ⟨d, hd, e⟩ := List.any_eq_true.mp (List.all_eq_true.mp hxs x hx)
    exact ⟨d, hd, of_decide_eq_true e⟩
  obtain ⟨cs, hcs, hx⟩ := tabs xs fun x hx => rec_of x (List.mem_append_left _ hx)
  obtain ⟨ls, hls, hy⟩ := tabs ys fun x hx => rec_of x (List.mem_append_right _ hx)
  have dj := hdj w
  obtain ⟨T, hTd⟩ : ∃ T : Tt, T = ⟨fun a => a ∈ cs.map (fun p => p.2.1) ∨ a ∈ ms.map (fun q => q.2), fun a q => ∃ p ∈ ls, p.2.1 = a ∧ q = p.2.2 ++ ".<locals>." ++ "<lambda>", fun a q ⟨p, hp, e, _⟩ hg => by
      obtain ⟨_, _, p3, p4⟩ := hls p hp
      rcases hg with hg | hg
      rotate_left
      · obtain ⟨r, hr, e2⟩ := List.mem_map.mp hg
        obtain ⟨t1, _⟩ := tabsDj_x dj p.2.2 p3
        obtain ⟨a1, ha1⟩ := Option.isSome_iff_exists.mp t1
        have z1 := p4 _ ha1
        have z2 := of_decide_eq_true (List.all_eq_true.mp (List.all_eq_true.mp (hdm w) p.2.2 p3) r hr)
        exact z2 (by rw [ha1, ← z1, e, e2])
      obtain ⟨r, hr, e2⟩ := List.mem_map.mp hg
      obtain ⟨_, _, r3, r4⟩ := hcs r hr
      obtain ⟨t1, t2⟩ := tabsDj_x dj p.2.2 p3
      obtain ⟨t3, t4⟩ := t2 r.2.2 r3
      obtain ⟨a1, ha1⟩ := Option.isSome_iff_exists.mp t1
      obtain ⟨a2, ha2⟩ := Option.isSome_iff_exists.mp t3
      have z1 := p4 _ ha1
      have z2 := r4 _ ha2
      exact t4 (by rw [ha1, ha2, ← z1, ← z2, e, e2]),
    fun a q q' ⟨p, hp, e, eq⟩ ⟨p', hp', e', eq'⟩ => by
      obtain ⟨_, _, p3, p4⟩ := hls p hp
      obtain ⟨_, _, r3, r4⟩ := hls p' hp'
      obtain ⟨a1, ha1⟩ := Option.isSome_iff_exists.mp (tabsDj_x dj p.2.2 p3).1
      obtain ⟨a2, ha2⟩ := Option.isSome_iff_exists.mp (tabsDj_x dj p'.2.2 r3).1
      have z1 := p4 _ ha1
      have z2 := r4 _ ha2
      have := tabsDj_y dj p.2.2 p3 p'.2.2 r3 (by rw [ha1, ha2, ← z1, ← z2, e, e'])
      rw [eq, eq', this]⟩ := ⟨_, rfl⟩
  obtain ⟨fd, hb, hF⟩ := F w mg fa _ T KX G.T.g hmg
  obtain ⟨al, hal⟩ : ∃ al : List (Addr × Addr), al = ((cs ++ ls).map fun p => (p.1, p.2.1)) ++ ms := ⟨_, rfl⟩
  have hal2 : ∀ p ∈ al, s₁.heap.get? p.2 = some { cls := .none, data := .fields #[] } ∧ PySem.W.CodeHd s₁.heap p.1 p.2 := fun p hp => by
    rw [hal] at hp
    rcases List.mem_append.mp hp with hp | hp
    rotate_left
    · exact ⟨(hMs p hp).2, (hMs p hp).1⟩
    obtain ⟨r, hr, e⟩ := List.mem_map.mp hp
    subst e
    rcases List.mem_append.mp hr with hr | hr
    · exact ⟨(hcs r hr).1, (hcs r hr).2.1⟩
    · exact ⟨(hls r hr).1, (hls r hr).2.1⟩
  have nT : ∀ p ∈ al, (K w.params).lookup p.2 = none := fun p hp => by
    cases e : (K w.params).lookup p.2 with
    | none => rfl
    | some o =>
      have z := KX _ _ e
      rw [(hal2 p hp).1] at z
      cases z
      have q := List.all_eq_true.mp (hE w) _ (look_mem e)
      cases q
  have memT : ∀ b, T b → b ∈ al.map (·.2) := fun b hb => by
    rw [hTd] at hb
    rw [hal, List.map_append, List.map_map]
    rcases hb with (hb | hb) | ⟨q, p, hp, e, _⟩
    · obtain ⟨r, hr, e⟩ := List.mem_map.mp hb
      exact List.mem_append_left _ (List.mem_map.mpr ⟨r, List.mem_append_left _ hr, e⟩)
    · exact List.mem_append_right _ hb
    · exact List.mem_append_left _ (List.mem_map.mpr ⟨p, List.mem_append_right _ hp, e⟩)
  refine LamX.law_callTs (cs := al) (sp := spOf (K w.params) T spLaw) KX G.T.g G.T.b G.T.builtins G.T.nolimit hg (fun p hp => (hal2 p hp).1) nT (fun p hp => (hal2 p hp).2) G.T.bmain hobj hints (Nat.le_trans hlen (by decide)) hk
    (fun base h1 h2 h3 => hF base h1 h2 (fun x hx' => ?_) (fun x hx' => ?_) fun q hq => ?_) hb (fun H hH hS => ?_) fun H e s' ⟨_, _, _, _, _, _, _, _, _, _, _, _, z⟩ => z
  · obtain ⟨f, c, Pt, m1, m2, m3⟩ := hx x hx'
    have t := h3 (c, Pt) (by rw [hal]; exact List.mem_append_left _ (List.mem_map.mpr ⟨_, List.mem_append_left _ m1, rfl⟩))
    exact ⟨f, c, Pt, m2, m3, ⟨t.code, t.bm, t.gP⟩, by rw [hTd]; exact .inl (List.mem_map.mpr ⟨_, m1, rfl⟩)⟩
  · obtain ⟨f, c, Pt, m1, m2, m3⟩ := hy x hx'
    have t := h3 (c, Pt) (by rw [hal]; exact List.mem_append_left _ (List.mem_map.mpr ⟨_, List.mem_append_right _ m1, rfl⟩))
    exact ⟨f, c, Pt, m2, m3, t, by rw [hTd]; exact ⟨_, m1, rfl, rfl⟩⟩
  · have t := h3 q (by rw [hal]; exact List.mem_append_right _ hq)
    exact ⟨⟨t.code, t.bm, t.gP⟩, by rw [hTd]; exact .inr (List.mem_map.mpr ⟨_, hq, rfl⟩)⟩
  · have isT : ∀ b, b ∈ al.map (·.2) → H b = some (.tbl #[]) := fun b hb => by
      obtain ⟨p, hp, e⟩ := List.mem_map.mp hb
      rw [← e]; exact hH p hp
    have ne : ∀ b u, H b = some u → (∀ ps, u ≠ .tbl ps) → (if b ∈ al.map (·.2) then none else H b) = some u := fun b u e n => by
      rw [if_neg fun z => by rw [isT b z] at e; cases e; exact n _ rfl]
      exact e
    have hS' : SqL (K w.params) (fun b => if b ∈ al.map (·.2) then none else H b) a (ns.map V.int) := by
      rcases hS with (h | ⟨o, h⟩) | h
      · exact .inl (.inl (ne _ _ h fun ps z => by cases z))
      · exact .inl (.inr ⟨o, ne _ _ h fun ps z => by cases z⟩)
      · exact .inr h
    refine ⟨fun b => if b ∈ al.map (·.2) then none else H b, fun _ => none, [.lsw (ns.map D.int)], fun d _ => d = .bl true, fun _ _ _ => False, ⟨fun b o e => ?_, fun _ _ h => by (cases h), fun _ _ h => by (cases h), fun b hb => ⟨⟨#[], isT b (memT b hb), trivial, fun q tq pos cv hc => by simp [codeAmong] at hc⟩, if_pos (memT b hb), rfl⟩⟩, .cons (.lsw hS' (repL_ints ns)) .nil, ⟨ns, rfl, hlen, fun _ => rfl⟩,
      fun v d P' M' H' e _ r => by subst e; exact r.toB, fun _ _ _ _ _ z _ => z⟩
    · by_cases hb : b ∈ al.map (·.2)
      · rw [if_pos hb] at e; cases e
      · rw [if_neg hb] at e; exact .inl e
end Ab
namespace Ab
open PySem PySem.Spec PyProof.Rows L2
section
variable {P : Program} {w : World} {K : PySem.W.Frag} {mg : Str → Option Value} {base : Heap} {T : Tt}
/-- a method that is never called -/
theorem meF {m qual : Str} {C : Addr} {st : Stmt} {N ps : List Str} (F : Dm K C m qual st) (S : FnScope N ps (defScope st))
    (hb : ∀ (kV doc pm : Value) (an : Option Addr) (cdv ct : Value) (us : List Value), us.length = ps.length → bindArgs (PySem.W.fnOf m qual (defArgs st) (defBody st) (defScope st) .none kV doc pm an cdv ct) ⟨us, []⟩ = pure (ps.zip us)) : Me P w K mg base T 1 C m spF := by
  obtain ⟨f, fd, F, c, me, hdf⟩ := F.ex
  refine ⟨f, fd, ps, ?_, c, me, F.binds hb⟩
  obtain ⟨oc, od, kV, doc, pm, an, cdv, ct, osl, rfl, lk, hcd⟩ := F.ex
  refine fn_of (k := 0) lk hcd S (fun vs H Q E h => ?_) (fun A outer s H vs Q E hr h => ?_)
  · obtain ⟨_, _, _, _, _, _, _, h, _⟩ := h; exact h.elim
  · obtain ⟨_, _, _, _, _, _, _, h, _⟩ := h; exact h.elim
end
end Ab
namespace Ab
open PySem PySem.Spec PyProof.Rows L2
section
variable {P : Program} {w : World} {K : PySem.W.Frag} {mg : Str → Option Value} {base : Heap} {T : Tt}
/-- a method that raises nothing -/
theorem meN {m qual : Str} {C : Addr} {st : Stmt} {N ps : List Str} {k : Nat} {sp : Pm} (F : Dm K C m qual st) (S : FnScope N ps (defScope st)) (b : XS K T) (hlen : ∀ ds M Φ Ξ, sp ds M Φ Ξ → ds.length = ps.length)
    (hb : ∀ (kV doc pm : Value) (an : Option Addr) (cdv ct : Value) (us : List Value), us.length = ps.length → bindArgs (PySem.W.fnOf m qual (defArgs st) (defBody st) (defScope st) .none kV doc pm an cdv ct) ⟨us, []⟩ = pure (ps.zip us))
    (hd : ∀ (f : Addr) (cdv : Value) (A : Around) (outer : List Env) (s : Shared) (H : Hp) (E : XK), Room k (A.deeper (envOfC qual (defScope st) s.heap.objs.size f cdv)) →
      PSs (cxOf (L2.CX P w) P w K mg base N qual (defScope st) f cdv A outer s H E).nox (defBody st) (b.t WX0))
    (hw : ∀ ds M Φ Ξ, sp ds M Φ Ξ → b.w (st0 N.length ds) M ⟨fun _ M' => Φ .non M', Φ, fun _ _ => False, fun _ _ => False⟩ (fun _ _ _ _ => False)) : Me P w K mg base T (k + 1) C m sp := by
  obtain ⟨f, fd, F, c, me, hdf⟩ := F.ex
  refine ⟨f, fd, ps, ?_, c, me, F.binds hb⟩
  obtain ⟨oc, od, kV, doc, pm, an, cdv, ct, osl, rfl, lk, hcd⟩ := F.ex
  refine fn_of lk hcd S (fun vs H Q E h => ?_) (fun A outer s H vs Q E hr h => ?_)
  · obtain ⟨P0, M, ds, Φ, Ξ, wr, r, hs, _⟩ := h
    rw [r.len]; exact hlen _ _ _ _ hs
  · obtain ⟨P0, M, ds, Φ, Ξ, wr, r, hs, hq, _⟩ := h
    refine ⟨_, (hd f cdv A outer s H E hr).nox, ?_⟩
    exact b.ok (hw ds M Φ Ξ hs) wr r.start ⟨fun ρ' σ' P' M' H' h1 s1 r1 => hq _ _ _ _ _ h1 s1 .non, fun v d P' M' H' h1 s1 r1 => hq _ _ _ _ _ h1 s1 r1, fun _ _ _ _ _ z _ _ => z.elim, fun _ _ _ _ _ z _ _ => z.elim⟩ (fun _ _ _ _ _ _ _ z _ _ => z.elim)
end
end Ab
namespace Ab
open PySem PySem.Spec PyProof.Rows L2
section
variable {M : Mh} {p q : Addr} {m : MO}
theorem mI_un {k : Addr → Addr → List (Str × D) → Prop} (h : p ≠ q) : mI (um M q m) p k = mI M p k := by unfold mI; rw [um_ne h]
theorem mL_un {k : List D → Prop} (h : p ≠ q) : mL (um M q m) p k = mL M p k := by unfold mL; rw [um_ne h]
theorem mT_un {k : List (List Key × D) → Prop} (h : p ≠ q) : mT (um M q m) p k = mT M p k := by unfold mT; rw [um_ne h]
theorem dget_un {y : D} {k : Option D → Prop} (h : p ≠ q) : dget (um M q m) p y k = dget M p y k := by unfold dget; rw [um_ne h]
theorem trM_un {k : Bool → Prop} (h : p ≠ q) : trM (um M q m) p k = trM M p k := by unfold trM; rw [um_ne h]
theorem mDr_un {k : List (Key × D) → Prop} (h : p ≠ q) : mDr (um M q m) p k = mDr M p k := by unfold mDr; rw [um_ne h]
theorem isd_un (h : p ≠ q) : isd (um M q m) p = isd M p := by unfold isd; rw [um_ne h]
theorem mI_en {k : Addr → Addr → List (Str × D) → Prop} (h : p ≠ q) : mI (em M q) p k = mI M p k := by unfold mI; rw [em_ne h]
theorem mL_en {k : List D → Prop} (h : p ≠ q) : mL (em M q) p k = mL M p k := by unfold mL; rw [em_ne h]
theorem dget_en {y : D} {k : Option D → Prop} (h : p ≠ q) : dget (em M q) p y k = dget M p y k := by unfold dget; rw [em_ne h]
theorem eraseD_0 {d : D} {r : List D} {f : D → List D → Prop} (h : f d r) : eraseD (d :: r) 0 f := ⟨by decide, by simp only [List.length_cons]; omega, h⟩
end
end Ab
namespace Ab
open PySem PySem.Spec PyProof.Rows L2
theorem asTK_rq (r : Rq) {k : List Key → Prop} : asTK (.tup [.int r.1, .int r.2.1, .int r.2.2]) k = k (rqK r) := asTK_of rfl
theorem asTK_r3 {a b c : Int} {k : List Key → Prop} : asTK (.tup [.int a, .int b, .int c]) k = k (rqK (a, b, c)) := asTK_of rfl
theorem encPn_e (p : Pn) : encPn p = .tup [.int p.1.1, .int p.1.2.1, .int p.1.2.2, encG p.2] := rfl
theorem encLs_e (z : Ls) : encLs z = .tup [.int z.h, .int z.i, .int z.n, encV z.cv, .int z.un, .int z.mo, .int z.ti, .bl z.rt] := rfl
theorem mtD_e {m t : Int} : (D.tup [.int m, .int t]) = mtD (m, t) := rfl
theorem cmt_cons {s : Sto} {p : Pn} {r : List Pn} (t : Int) (e : s.pen = p :: r) : cmt s t = ({ s with pen := r, led := s.led ++ [(t, p.2)], tab := pK s.tab p.1 ((s.led.length : Int) + 1, t) }, wrD p.1 ((s.led.length : Int) + 1) t :: (List.range s.hc).map fun k => ntD (k : Nat) ((s.led.length : Int) + 1) t p.2) := by unfold cmt; rw [e]
end Ab
namespace Ab
open PySem PySem.Spec PyProof.Rows L2
/-- a new list, given away -/
theorem em_um {M : Mh} {q : Addr} {m : MO} (h : M q = none) : em (um M q m) q = M := by
  funext b
  by_cases e : b = q
  · subst e; rw [h]; unfold em; rw [if_pos rfl]
  · rw [em_ne e, um_ne e]
end Ab
namespace Ab
open PySem PySem.Spec PyProof.Rows L2
theorem nbRq {r : Rq} : Nb 2 (.tup [.int r.1, .int r.2.1, .int r.2.2]) := nb_tup (by simp) fun x hx => by
  simp only [List.mem_cons, List.not_mem_nil, or_false] at hx
  rcases hx with rfl | rfl | rfl <;> exact nb_int
theorem rqT_inj {a b : Rq} (h : D.tup [.int a.1, .int a.2.1, .int a.2.2] = D.tup [.int b.1, .int b.2.1, .int b.2.2]) : a = b := by
  obtain ⟨a1, a2, a3⟩ := a
  obtain ⟨b1, b2, b3⟩ := b
  simp only [D.tup.injEq, List.cons.injEq, D.int.injEq, and_true] at h
  obtain ⟨rfl, rfl, rfl⟩ := h
  rfl
end Ab
namespace Ab
open PySem PySem.Spec PyProof.Rows L2
theorem fndL_some {lea : List Ls} {r : Rq} {i : Nat} {z : Ls} (ez : lea[i]? = some z) (e : (z.h, z.i, z.n) = r) (no : ∀ (j : Nat) (w : Ls), j < i → lea[j]? = some w → (w.h, w.i, w.n) ≠ r) : fndL lea r = some i := by
  obtain ⟨hi, e2⟩ := List.getElem?_eq_some_iff.mp ez
  unfold fndL
  rw [List.findIdx?_eq_some_iff_getElem]
  refine ⟨hi, decide_eq_true (by rw [e2]; exact e), fun j hj => ?_⟩
  have := no j _ hj (List.getElem?_eq_getElem (by omega))
  simpa using this
theorem fndL_none {lea : List Ls} {r : Rq} (no : ∀ (j : Nat) (w : Ls), lea[j]? = some w → (w.h, w.i, w.n) ≠ r) : fndL lea r = none := by
  unfold fndL
  rw [List.findIdx?_eq_none_iff]
  intro x hx
  obtain ⟨j, hj⟩ := List.getElem?_of_mem hx
  exact decide_eq_false (no j x hj)
theorem getD_of {lea : List Ls} {i : Nat} {z : Ls} (h : lea[i]? = some z) : lea.getD i Ls0 = z := by rw [List.getD_eq_getElem?_getD, h]; rfl
end Ab
namespace Ab
open PySem PySem.Spec PyProof.Rows L2
/-- a letter to the store: write, lease, return, fetch, missing -/
inductive Ltr where
  | w (r : Rq) (g : List Wt)
  | l (r : Rq) (cv : Str × Str)
  | b (h i k : Int)
  | f (r : Rq) (q : Qn)
  | m (h i k : Int)
def encLt : Ltr → D
  | .w r g => .tup [.str "write", .int r.1, .int r.2.1, .int r.2.2, encG g]
  | .l r cv => .tup [.str "lease", .int r.1, .int r.2.1, .int r.2.2, encV cv]
  | .b h i k => .tup [.str "return", .int h, .int i, .int k]
  | .f r q => .tup [.str "fetch", .int r.1, .int r.2.1, .int r.2.2, encQ q]
  | .m h i k => .tup [.str "missing", .int h, .int i, .int k]
def anD (s : Sto) (r : Rq) (q : Qn) (x : D) (t : Int) : D := .tup [.str "answer", .int r.1, .int r.2.1, .int r.2.2, encQ q, x, .int s.led.length, .int t]
def ntE (h : Int) (c : Int × Cm) : D := .tup [.str "note", .int h, .int c.1, .int c.2.1, encG c.2.2]
def msg (s : Sto) (h k : Int) : List D := if k < 1 then [] else ((s.led.mapIdx fun i c => ((1 + (i : Int)), c)).filter fun e => decide (k ≤ e.1)).map (ntE h)
noncomputable def hdl (s : Sto) (l : Ltr) (t : Int) : Sto × List D := if s.up = true then
    match l with
    | .w r g => tkW s r g t
    | .l r cv => grt s r cv t
    | .b h i k => tkB s h i k t
    | .f r q => (s, [anD s r q (ansR (recA s.led) q) t])
    | .m h _ k => (s, msg s h k)
  else (s, [])
end Ab
namespace Ab
open PySem PySem.Spec PyProof.Rows L2
def ltrs : Str := "abcdefghijklmnopqrstuvwxyz"
end Ab
namespace Ab
open PySem PySem.Spec PyProof.Rows L2
theorem at_hd {x : D} {xs : List D} {k : D → Prop} : at_ (x :: xs) 0 k = k x := by
  rw [show (0 : Int) = ((0 : Nat) : Int) from rfl]
  exact at_nat rfl
theorem pK_id {κ α : Type} [DecidableEq κ] {l : List (κ × α)} {k : κ} {v : α} (nd : (l.map Prod.fst).Nodup) (h : vK l k = some v) : pK l k v = l := by
  unfold pK
  rw [vK_any, h]
  simp only [Option.isSome_some, if_true]
  refine (List.map_congr_left fun p hp => ?_).trans (List.map_id l)
  by_cases e : p.1 = k
  · rw [if_pos e]
    have : vK l p.1 = some p.2 := vK_of nd hp
    rw [e, h] at this
    cases this
    rfl
  · rw [if_neg e]; rfl
end Ab
namespace Ab
open PySem PySem.Spec PyProof.Rows L2
theorem scL_ints : ∀ xs : List Int, scL (xs.map D.int) = some (xs.map V.int)
  | [] => rfl
  | x :: xs => by show (match scD (.int x), scL (xs.map D.int) with | some v, some vs => some (v :: vs) | _, _ => none) = _; rw [scL_ints xs]; rfl
theorem inV_ints (s : Int) : ∀ xs : List Int, inV (.int s) (xs.map V.int) = decide (s ∈ xs)
  | [] => rfl
  | x :: xs => by
    have ih := inV_ints s xs
    unfold inV at ih ⊢
    rw [List.map_cons, List.any_cons, ih, show eqV (.int x) (.int s) = (x == s) from rfl]
    by_cases h : x = s
    · subst h; simp
    · have h2 : ¬ s = x := fun z => h z.symm
      simp [h, h2]
theorem asSs_ints {x : Int} {xs : List Int} {k : V → List V → Prop} : asSs (.int x) (xs.map D.int) k = k (.int x) (xs.map V.int) := asSs_of rfl (scL_ints xs)
end Ab
namespace Ab
open PySem PySem.Spec PyProof.Rows L2
theorem um_comm {M : Mh} {p q : Addr} {a b : MO} (h : p ≠ q) : um (um M p a) q b = um (um M q b) p a := by
  funext x
  by_cases e1 : x = p
  · subst e1; rw [um_same, um_ne h, um_same]
  · by_cases e2 : x = q
    · subst e2; rw [um_same, um_ne e1, um_same]
    · rw [um_ne e2, um_ne e1, um_ne e1, um_ne e2]
theorem nb_W {n : Nat} {w : Wt} (h : Kk w.1) : Nb (n + 2) (encW w) := by
  obtain ⟨k, v⟩ := w
  refine nb_tup (by simp) fun x hx => ?_
  simp only [List.mem_cons, List.not_mem_nil, or_false] at hx
  rcases hx with rfl | rfl
  · exact nb_str h
  · cases v with
    | none => exact nb_non
    | some v => exact nb_int
theorem nb_G {n : Nat} {g : List Wt} (hl : g.length ≤ 1000) (h : ∀ w ∈ g, Kk w.1) : Nb (n + 3) (encG g) := nb_tup (by rw [List.length_map]; exact hl) fun x hx => by
  obtain ⟨w, hw, rfl⟩ := List.mem_map.mp hx
  exact nb_W (h w hw)
theorem nb_C {n : Nat} {c : Cm} (hl : c.2.length ≤ 1000) (h : ∀ w ∈ c.2, Kk w.1) : Nb (n + 4) (encC c) := nb_tup (by simp) fun x hx => by
  simp only [List.mem_cons, List.not_mem_nil, or_false] at hx
  rcases hx with rfl | rfl
  · exact nb_int
  · exact nb_G hl h
end Ab
namespace Ab
open PySem PySem.Spec PyProof.Rows L2
/-- any parameters -/
def P0 : Params := { strHash := fun _ => 0, shareClass := fun _ => 0, mergeTok := id, idOf := fun a => a, idOfShared := fun n _ => n, followText := fun _ => true, idOfImm := fun _ => 0 }
/-- a method's code object and its table -/
def tabMIn (K : PySem.W.Frag) (C m : Str) : Addr × Addr := match PySem.W.nsIn K mainGlobals C with
  | some (some (.ref c)) => (match PySem.W.findIn K (.ref c) m with
    | some (some (.ref f)) => (match K.lookup f with
      | some ⟨_, _, .func fd, _⟩ => (match fd.code with
        | .ref c => (match K.lookup c with
          | some ⟨_, _, .fields vs, _⟩ => (match (vs[11]? : Option Value) with
            | some (.ref P) => (c, P)
            | _ => (0, 0))
          | _ => (0, 0))
        | _ => (0, 0))
      | _ => (0, 0))
    | _ => (0, 0))
  | _ => (0, 0)
end Ab

set_option Elab.async false
set_option linter.all false
set_option maxRecDepth 100000
set_option maxHeartbeats 2000000
/-! repr, where no guards stand: in the law's own body. -/
namespace Ab
open PySem PySem.Spec PyProof.Rows L2
section
variable {K : PySem.W.Frag} {T : Tt}
def bRepr : XB K T where
  r := fun xs H Q => ∃ a x, xs = [.ref a] ∧ L2.Dp K H (.ref a) x ∧ x.showable = true ∧ x.hasDict = false ∧ x.depth ≤ 50 ∧ x.shown.length ≤ sizeLine ∧ Q (.str x.shown) H
  w := fun ds M Φ => arg1 ds fun d => asPy d M fun x => isDisplay x = true ∧ x.showable = true ∧ x.hasDict = false ∧ x.depth ≤ 50 ∧ x.shown.length ≤ 100000 ∧ Φ (.str x.shown) M
  ok := fun h P H vs wr r Q hq => by
    obtain ⟨d, rfl, h1⟩ := h.get
    obtain ⟨v, rfl, r1⟩ := r.one
    obtain ⟨x, hd, h2, h3, h4, h5, h6, h7⟩ := h1.rd wr r1
    have hv : ∃ a, v = .ref a := by
      cases hd with
      | lst _ _ => exact ⟨_, rfl⟩
      | tup _ _ => exact ⟨_, rfl⟩
      | _ => cases h2
    obtain ⟨a, rfl⟩ := hv
    exact ⟨a, x, rfl, hd, h3, h4, h5, sz_of h6, hq _ _ _ _ _ h7 (Step.refl wr) (.str _)⟩
end
theorem call_repr {X : Cx} {T : Tt} (hg : X.A.guards = some []) (hu : X.A.units + 64 < cLine) : CallR X (.builtin "repr") (bRepr (K := X.K) (T := T)).r := by
  intro pins s σ H xs us Q I r h
  obtain ⟨a, x, rfl, hd, h1, h2, h3, h4, q⟩ := h
  obtain rfl := Vals.ref1 r
  obtain ⟨as, rd⟩ := L2.Dp.reads I x (.ref a) (.ref a) hd rfl
  refine repr_of_reads' rd h1 (fun z => by rw [h2] at z; cases z) hg (by omega) (fun _ _ e => e) (fun h' u tk hk => ?_) h4
  exact ⟨.str x.shown, H, I.kept (t' := tk) hk, ⟨u, rfl⟩, q⟩
/-! ### data whose text is not long -/
def Rz (n B : Nat) (d : D) : Prop := ∃ x, dP d = some x ∧ x.showable = true ∧ x.hasDict = false ∧ x.depth ≤ n ∧ x.shown.length ≤ B
theorem rz_non {n B : Nat} (h : 4 ≤ B) : Rz n B .non := ⟨.none, by unfold dP; rfl, by simp [PyData.showable], by simp [PyData.hasDict], by simp [PyData.depth], by
  have e : (PyData.shown .none).length = 4 := rfl
  omega⟩
theorem rz_int {n B : Nat} {i : Int} (hi : i.natAbs < 10 ^ 12) (h : 13 ≤ B) : Rz n B (.int i) := ⟨.int i, by unfold dP; rfl, by
  simp only [PyData.showable, decide_eq_true_eq]
  have : i.natAbs.log2 < 40 := by
    by_cases z : i.natAbs = 0
    · rw [z]; decide
    · exact (Nat.log2_lt z).mpr (Nat.lt_trans hi (by decide))
  omega, by simp [PyData.hasDict], by simp [PyData.depth], Nat.le_trans (PyData.shown_int_le hi) h⟩
theorem rz_str {n B m : Nat} {s : Str} (hk : ∀ c ∈ s.cps.toList, c < 16 ^ 8) (hl : s.length ≤ m) (h : 10 * m + 2 ≤ B) : Rz n B (.str s) := ⟨.str s, by unfold dP; rfl, by simp [PyData.showable], by simp [PyData.hasDict], by simp [PyData.depth], by
  have e := StrLaws.reprText_len s hk
  show (reprText s).length ≤ B
  omega⟩
theorem rz_all {n B : Nat} : ∀ {ds : List D}, (∀ d ∈ ds, Rz n B d) → ∃ xs, dPs ds = some xs ∧ PyData.showableAll xs = true ∧ PyData.hasDictAll xs = false ∧ PyData.depthAll xs ≤ n ∧ ((PyData.shownAll xs).map (·.length)).sum ≤ ds.length * B ∧ (PyData.shownAll xs).length = ds.length
  | [], _ => ⟨[], by unfold dPs; rfl, by simp [PyData.showableAll], by simp [PyData.hasDictAll], by simp [PyData.depthAll], by simp [PyData.shownAll], by simp [PyData.shownAll]⟩
  | d :: ds, h => by
    obtain ⟨x, e1, e2, e3, e4, e5⟩ := h d List.mem_cons_self
    obtain ⟨xs, f1, f2, f3, f4, f5, f6⟩ := rz_all (ds := ds) fun y hy => h y (List.mem_cons_of_mem _ hy)
    refine ⟨x :: xs, by unfold dPs; rw [e1, f1], by simp [PyData.showableAll, e2, f2], by simp [PyData.hasDictAll, e3, f3], by simp only [PyData.depthAll]; omega, ?_, by simp [PyData.shownAll, f6]⟩
    simp only [PyData.shownAll, List.map_cons, List.sum_cons, List.length_cons]
    have : (ds.length + 1) * B = ds.length * B + B := Nat.succ_mul _ _
    omega
theorem rz_tup {n B c : Nat} {ds : List D} (hl : ds.length ≤ c) (h : ∀ d ∈ ds, Rz n B d) : Rz (n + 1) (c * (B + 2) + 3) (.tup ds) := by
  obtain ⟨xs, f1, f2, f3, f4, f5, f6⟩ := rz_all h
  refine ⟨.tuple xs, by unfold dP; rw [f1]; rfl, by simp [PyData.showable, f2], by simp [PyData.hasDict, f3], by simp only [PyData.depth]; omega, ?_⟩
  have q := tupleText_len_le (PyData.shownAll xs)
  show (tupleText (PyData.shownAll xs)).length ≤ _
  have m : ds.length * (B + 2) ≤ c * (B + 2) := Nat.mul_le_mul_right _ hl
  rw [Nat.mul_add] at m
  omega
theorem rz_lst {n B c : Nat} {ds : List D} (hl : ds.length ≤ c) (h : ∀ d ∈ ds, Rz n B d) : Rz (n + 1) (c * (B + 2) + 3) (.lst ds) := by
  obtain ⟨xs, f1, f2, f3, f4, f5, f6⟩ := rz_all h
  refine ⟨.list xs, by unfold dP; rw [f1]; rfl, by simp [PyData.showable, f2], by simp [PyData.hasDict, f3], by simp only [PyData.depth]; omega, ?_⟩
  have q := listText_len_le (PyData.shownAll xs)
  show (listText (PyData.shownAll xs)).length ≤ _
  have m : ds.length * (B + 2) ≤ c * (B + 2) := Nat.mul_le_mul_right _ hl
  rw [Nat.mul_add] at m
  omega
theorem Rz.up {n n' B B' : Nat} {d : D} (h : Rz n B d) (hn : n ≤ n') (hB : B ≤ B') : Rz n' B' d := let ⟨x, a, b, c, e, f⟩ := h; ⟨x, a, b, c, Nat.le_trans e hn, Nat.le_trans f hB⟩
/-- the text of data -/
noncomputable def shw (d : D) : Str := match dP d with | some x => x.shown | none => Str.empty
theorem repr_is {n B : Nat} {d : D} {M : Mh} {Φ : D → Prop} (h : Rz n B d) (hn : n ≤ 50) (hB : B ≤ 100000) (ht : (∃ ds, d = .tup ds) ∨ ∃ ds, d = .lst ds) (hΦ : Φ (.str (shw d))) :
    asPy d M fun x => isDisplay x = true ∧ x.showable = true ∧ x.hasDict = false ∧ x.depth ≤ 50 ∧ x.shown.length ≤ 100000 ∧ Φ (.str x.shown) := by
  obtain ⟨x, a, b, c, e, f⟩ := h
  have hs : shw d = x.shown := by unfold shw; rw [a]
  rw [hs] at hΦ
  have hd : isDisplay x = true := by
    rcases ht with ⟨ds, rfl⟩ | ⟨ds, rfl⟩ <;> unfold dP at a <;> cases z : dPs ds with
    | none => rw [z] at a; cases a
    | some xs => rw [z] at a; cases a; rfl
  rcases ht with ⟨ds, rfl⟩ | ⟨ds, rfl⟩ <;> exact ⟨x, a, hd, b, c, by omega, by omega, hΦ⟩
theorem repr_w {K : PySem.W.Frag} {T : Tt} {n B : Nat} {d : D} {M : Mh} {Φ : D → Mh → Prop} (h : Rz n B d) (hn : n ≤ 50) (hB : B ≤ 100000) (ht : (∃ ds, d = .tup ds) ∨ ∃ ds, d = .lst ds) (hΦ : Φ (.str (shw d)) M) : (bRepr (K := K) (T := T)).w [d] M Φ :=
  repr_is (Φ := fun x => Φ x M) h hn hB ht hΦ
section
variable {K : PySem.W.Frag} {T : Tt}
/-- over a list or a tuple -/
def iLT (a : XE K T) : XI K T where
  t := fun W σ H R => (iL a).t W σ H R ∨ (iT a).t W σ H R
  w := fun ρ M Φ Ξ => (iL a).w ρ M Φ Ξ ∨ (iT a).w ρ M Φ Ξ
  ok := fun h P σ H wr rs R hq hx => h.elim (fun h => .inl ((iL a).ok h wr rs hq hx)) (fun h => .inr ((iT a).ok h wr rs hq hx))
end
theorem diLT {X : Cx} {T : Tt} {W : WX} {a : XE X.K T} {ea tg : Expr} (h : PE X ea (a.t W)) : PI X tg ea ((iLT a).t W) := ⟨fun pins s σ H R I hh => hh.elim (fun z => (diL h).run pins s σ H R I z) fun z => (diT h).run pins s σ H R I z⟩
/-! ### the law at its caller -/
/-- the law runs where its caller stands -/
structure FnG (P : Program) (w : World) (K : PySem.W.Frag) (mg : Str → Option Value) (base : Heap) (f : Addr) (fd : FuncData) (x : Str) (sp : Sp) : Prop where
  run : ∀ (s : Shared) (H : Hp) (u : Value) (v : V) (Q : VK) (E : XK), Env0 P w K mg base callerA [] s H → BindsTo s fd ⟨[u], []⟩ [(x, u)] → RelV v u → sp [v] H Q E →
    codeAny (model P w) callerA (.call (.ref f) ⟨[u], []⟩) (CR (L2.CX P w) [] P w H s Q E) s
section
variable {P : Program} {w : World} {K : PySem.W.Frag} {mg : Str → Option Value} {base : Heap} {T : Tt}
theorem fnG {x p : Str} {st : Stmt} {f : Addr} {fd : FuncData} {N : List Str} {k : Nat} {sp : Pm} (F : Fun K x x st f fd) (hroom : Room (k + 1) callerA) (S : FnScope N [p] (defScope st)) (b : XS K T) (hlen : ∀ ds M Φ Ξ, sp ds M Φ Ξ → ds.length = [p].length)
    (hd : ∀ (f : Addr) (cdv : Value) (A : Around) (outer : List Env) (s : Shared) (H : Hp) (E : XK), A.guards = some [] → Room k (A.deeper (envOfC x (defScope st) s.heap.objs.size f cdv)) →
      PSs (cxOf (L2.CX P w) P w K mg base N x (defScope st) f cdv A outer s H E).nox (defBody st) (b.t WX0))
    (hw : ∀ ds M Φ Ξ, sp ds M Φ Ξ → b.w (st0 N.length ds) M ⟨fun _ M' => Φ .non M', Φ, fun _ _ => False, fun _ _ => False⟩ (fun _ _ _ _ => False)) : FnG P w K mg base f fd p (spOf K T sp) := by
  obtain ⟨oc, od, kV, doc, pm, an, cdv, ct, osl, rfl, lk, hcd⟩ := F.ex
  refine ⟨fun s H u v Q E e0 hb rv h => ?_⟩
  obtain ⟨P0, M, ds, Φ, Ξ, wr, r, hs, hq, _⟩ := h
  have low : ∀ c o, base.get? c = some o → s.heap.get? c = some o := fun c o e => (e0.bs c o e).1
  have kin : K.In s.heap := e0.mod.kin.keeps low
  have one : ∀ y ∈ [p].zip [u], (defScope st).names.lookup y.1 = some .local ∨ ((defScope st).names.lookup y.1 = some .cell ∧ ((cellsFrom (s.heap.objs.size + 1) (defScope st).names []).lookup y.1).isSome = true) := fun y hy => by
    have e : y = (p, u) := by simpa using hy
    subst e
    exact (S.par p List.mem_cons_self).imp id fun q => ⟨q, PySem.W.cellsFrom_some _ _ _ (.inl q)⟩
  refine codeAny_call_function hroom.depth (kin _ _ lk) rfl S.co S.gen rfl (PySem.W.codeRec_of kin hcd) (hb _ _ _ _ (wpAny_newFunctionEnv_cells S.kind one fun env he s1 hx => ?_))
  subst he
  have nl : s.heap.NoLimit := e0.mod.nolimit.keeps low
  refine ⟨nl.keeps hx.toInCall.keep, codeAny_func ?_⟩
  have I0 : Inv (cxOf (L2.CX P w) P w K mg base N x (defScope st) f cdv callerA [] s H E) [] (start N [v]) H s1 := inv_start (ps := [p]) (us := [u]) S hroom.hd e0 rfl (.cons rv .nil) hx
  have go := (hd f cdv callerA [] s H E rfl (hroom.deeper _)).nox.run [] s1 (start N [v]) H { nx := fun _ H' => Q .non H', rt := Q } I0
    (b.ok (hw ds M Φ Ξ hs) wr r.start ⟨fun ρ' σ' P' M' H' h1 s1 r1 => hq _ _ _ _ _ h1 s1 .non, fun v d P' M' H' h1 s1 r1 => hq _ _ _ _ _ h1 s1 r1, fun _ _ _ _ _ z _ _ => z.elim, fun _ _ _ _ _ z _ _ => z.elim⟩ (fun _ _ _ _ _ _ _ z _ _ => z.elim))
  refine wpAny_mono go (fun fl s' hz => ?_) fun _ _ z => z
  cases fl with
  | ret u' =>
    obtain ⟨v', σ', H', J, rr, q⟩ := hz
    exact ⟨v', H', J.os, J.bare, J.base, J.hok, rr, q⟩
  | next =>
    obtain ⟨σ', H', J, q⟩ := hz
    exact ⟨V.non, H', J.os, J.bare, J.base, J.hok, rfl, q⟩
  | brk =>
    obtain ⟨_, _, _, q⟩ := hz
    exact q.elim
  | cont =>
    obtain ⟨_, _, _, q⟩ := hz
    exact q.elim
end
/-- the tables and the script, told of -/
def H0 (K : PySem.W.Frag) (tabs : List Addr) (a : Addr) (vs : List Value) (ns : List Int) : Hp := fun b =>
  if b ∈ tabs then some (.tbl #[]) else if b = a ∧ K.lookup a = none then some (.frz { cls := .type "list", data := .seq vs.toArray } (.lst (ns.map V.int))) else none
theorem H0_cases {K : PySem.W.Frag} {tabs : List Addr} {a : Addr} {vs : List Value} {ns : List Int} (b : Addr) :
    (b ∈ tabs ∧ H0 K tabs a vs ns b = some (.tbl #[])) ∨ (b ∉ tabs ∧ b = a ∧ K.lookup a = none ∧ H0 K tabs a vs ns b = some (.frz { cls := .type "list", data := .seq vs.toArray } (.lst (ns.map V.int)))) ∨ (b ∉ tabs ∧ ¬ (b = a ∧ K.lookup a = none) ∧ H0 K tabs a vs ns b = none) := by
  unfold H0
  by_cases h : b ∈ tabs
  · exact .inl ⟨h, if_pos h⟩
  · rw [if_neg h]
    by_cases g : b = a ∧ K.lookup a = none
    · exact .inr (.inl ⟨h, g.1, g.2, if_pos g⟩)
    · exact .inr (.inr ⟨h, g, if_neg g⟩)
theorem law_callG {P : Program} {w : World} {K : PySem.W.Frag} {mg mb : Str → Option Value} {fa a : Addr} {cs : List (Addr × Addr)} {fd : FuncData} {x : Str} {sp : Sp} {s₁ : Shared} {vs : List Value} {ns : List Int}
    (KX : K.In s₁.heap) (hns : s₁.heap.Ns mainGlobals mg) (hb : s₁.heap.Ns builtinsNs mb) (hbb : ∀ x : Str, x ≠ "__name__" → mb x = bootBuiltins x) (hlim : s₁.heap.NoLimit) (hg : s₁.gens = #[])
    (hT : ∀ p ∈ cs, s₁.heap.get? p.2 = some { cls := .none, data := .fields #[] }) (nT : ∀ p ∈ cs, K.lookup p.2 = none) (C : ∀ p ∈ cs, PySem.W.CodeHd s₁.heap p.1 p.2)
    (hbm : ∃ (bm : Addr) (ob : Obj), mg "__builtins__" = some (.ref bm) ∧ bm ≠ builtinsNs ∧ s₁.heap.get? bm = some ob ∧ ob.cls = .type "module" ∧ ob.dict = some builtinsNs ∧ ob.data = .plain)
    (ha : s₁.heap.get? a = some { cls := .type "list", data := .seq vs.toArray }) (hi : IntsAre vs ns) (hl : ns.length ≤ sizeLine)
    (F : ∀ base : Heap, K.In base → base.Ns mainGlobals mg → (∀ p ∈ cs, LamX.TabB base mg p.1 p.2) → FnG P w K mg base fa fd x sp) (hbind : ∀ (s : Shared) (u : Value), BindsTo s fd ⟨[u], []⟩ [(x, u)])
    (hsp : ∀ H : Hp, (∀ p ∈ cs, H p.2 = some (.tbl #[])) → SqL K H a (ns.map V.int) → sp [.ref a] H (fun v _ => v = .bl true) fun _ _ _ => False) :
    codeAny (model P w) callerA (.call (.ref fa) ⟨[.ref a], []⟩) (fun r s' => r = .ok (.ret (.bool true)) ∧ OldK s₁.heap s'.heap ∧ s'.os = s₁.os ∧ AllBare s'.gens) s₁ := by
  obtain ⟨tabs, htabs⟩ : ∃ tabs : List Addr, tabs = cs.map (·.2) := ⟨_, rfl⟩
  have inT : ∀ p ∈ cs, p.2 ∈ tabs := fun p hp => by rw [htabs]; exact List.mem_map.mpr ⟨p, hp, rfl⟩
  have ofT : ∀ b ∈ tabs, ∃ p ∈ cs, p.2 = b := fun b h => by rw [htabs] at h; exact List.mem_map.mp h
  have tabO : ∀ b ∈ tabs, s₁.heap.get? b = some { cls := .none, data := .fields #[] } := fun b h => let ⟨p, hp, e⟩ := ofT b h; e ▸ hT p hp
  have aT : a ∉ tabs := fun z => by have q := tabO a z; rw [ha] at q; cases q
  have lenV := hi.length
  -- an object that is neither a sequence nor empty fields is not told of
  have out : ∀ {b : Addr} {o : Obj}, s₁.heap.get? b = some o → (∀ us n, o.data ≠ .seq us n) → o.data ≠ .fields #[] → H0 K tabs a vs ns b = none := fun {b o} e n1 n2 => by
    rcases H0_cases (K := K) (tabs := tabs) (a := a) (vs := vs) (ns := ns) b with ⟨h, _⟩ | ⟨_, h, _, _⟩ | ⟨_, _, h⟩
    · rw [tabO b h] at e; cases e; exact absurd rfl n2
    · subst h; rw [ha] at e; cases e; exact absurd rfl (n1 _ _)
    · exact h
  have ks : ∀ b o, K.lookup b = some o → H0 K tabs a vs ns b = none := fun b o e => by
    rcases H0_cases (K := K) (tabs := tabs) (a := a) (vs := vs) (ns := ns) b with ⟨h, _⟩ | ⟨_, h, h2, _⟩ | ⟨_, _, h⟩
    · obtain ⟨p, hp, ep⟩ := ofT b h
      rw [← ep, nT p hp] at e; cases e
    · rw [h, h2] at e; cases e
    · exact h
  have hS : SqL K (H0 K tabs a vs ns) a (ns.map V.int) := by
    cases hk : K.lookup a with
    | some o =>
      have e := KX a o hk
      rw [ha] at e
      cases e
      exact .inr ⟨_, vs.toArray, _, hk, rfl, rfl, rfl, by rw [List.size_toArray, lenV]; exact hl, by simpa using vals_ints hi⟩
    | none =>
      refine .inl (.inr ⟨{ cls := .type "list", data := .seq vs.toArray }, ?_⟩)
      unfold H0
      rw [if_neg aT, if_pos ⟨rfl, hk⟩]
  have hok : HOk P w (H0 K tabs a vs ns) s₁.heap := fun b u e => by
    rcases H0_cases (K := K) (tabs := tabs) (a := a) (vs := vs) (ns := ns) b with ⟨h, h2⟩ | ⟨_, h, _, h2⟩ | ⟨_, _, h2⟩
    · rw [e] at h2; cases h2; exact tabO b h
    · rw [e] at h2; cases h2; rw [h]
      exact ⟨ha, by rw [List.length_map]; exact hl, vs, _, vals_ints hi, ha⟩
    · rw [e] at h2; cases h2
  have hT2 : ∀ p ∈ cs, H0 K tabs a vs ns p.2 = some (.tbl #[]) := fun p hp => by unfold H0; rw [if_pos (inT p hp)]
  generalize hH : H0 K tabs a vs ns = H at *
  have vis : ∀ {b : Addr} {o : Obj}, s₁.heap.get? b = some o → (∀ us n, o.data ≠ .seq us n) → o.data ≠ .fields #[] → (hidT s₁.heap H).get? b = some o := fun e n1 n2 => hidT_get e (out e n1 n2)
  have visN : ∀ {b : Addr} {m : Str → Option Value}, s₁.heap.Ns b m → (hidT s₁.heap H).Ns b m := fun {b m} ⟨o, es, ep, e, d, r⟩ => ⟨o, es, ep, vis e (fun us n z => by rw [d] at z; cases z) (fun z => by rw [d] at z; cases z), d, r⟩
  have kB : K.In (hidT s₁.heap H) := fun b o e => hidT_get (KX b o e) (ks b o e)
  have md : L2.Mod K mg (hidT s₁.heap H) := ⟨kB, visN hns, ⟨mb, visN hb, hbb⟩, let ⟨mc, h1, h2⟩ := hlim; ⟨mc, visN h1, h2⟩⟩
  have tb : ∀ p ∈ cs, LamX.TabB (hidT s₁.heap H) mg p.1 p.2 := fun p hp => by
    have e2 := hT p hp
    refine ⟨?_, ?_, fun z => ?_⟩
    · obtain ⟨o, us, file, tf, flags, tg, inF, text, tt, e1, r1, r2, r3, rest⟩ := C p hp
      refine ⟨o, us, file, tf, flags, tg, inF, text, tt, vis e1 (fun us n z => by rw [r2] at z; cases z) (fun z => ?_), r1, r2, r3, rest⟩
      rw [r2] at z
      cases z
      simp at r3
    · obtain ⟨bm, ob, b1, b2, b3, b4, b5, b6⟩ := hbm
      refine ⟨bm, ob, b1, b2, fun q => ?_, fun q => ?_, vis b3 (fun us n z => by rw [b6] at z; cases z) (fun z => by rw [b6] at z; cases z), b4, b5, b6⟩
      · obtain ⟨o, es, ep, e, hd, _⟩ := hns
        rw [q, e] at b3
        cases b3
        rw [hd] at b6
        cases b6
      · rw [q, e2] at b3
        cases b3
        cases b6
    · obtain ⟨o, es, ep, e, hd, _⟩ := hns
      rw [z, e2] at e
      cases e
      cases hd
  have e0 : Env0 P w K mg (hidT s₁.heap H) callerA [] s₁ H := ⟨rfl, md, fun b o e => of_hidT e, Nat.le_of_eq (hidT_size _ _), trivial, fun b z => absurd (show b ∈ ([] : List Addr) from z) (by simp), hok, .of_eq hg⟩
  refine codeAny_mono ((F _ kB (visN hns) tb).run s₁ H (.ref a) (.ref a) _ _ e0 (hbind s₁ (.ref a)) rfl (hsp H hT2 hS)) fun r s' h => ?_
  cases r with
  | error e =>
    obtain ⟨_, _, _, _, _, _, _, _, _, _, _, _, z⟩ := h
    exact z.elim
  | ok fl =>
    cases fl with
    | next => exact h.elim
    | brk => exact h.elim
    | cont => exact h.elim
    | ret u =>
      obtain ⟨v, H', os, bare, un, hok', rr, q⟩ := h
      have q : v = .bl true := q
      subst q
      obtain rfl : u = Value.bool true := rr
      have same : ∀ b o, b ∉ tabs → s₁.heap.get? b = some o → s'.heap.get? b = some o := fun b o nb e => by
        rcases H0_cases (K := K) (tabs := tabs) (a := a) (vs := vs) (ns := ns) b with ⟨h, _⟩ | ⟨_, h, _, h2⟩ | ⟨_, _, h2⟩
        · exact absurd h nb
        · rw [hH] at h2
          obtain ⟨e2, _⟩ := hok' b _ (un.frzs b _ _ h2)
          rw [h, ha] at e
          cases e
          exact e2
        · rw [hH] at h2
          exact un.keep b o e h2 (fun z => absurd (show b ∈ ([] : List Addr) from z) (by simp)) (by simp)
      have tab2 : ∀ b ∈ tabs, ∃ more : Array Value, s'.heap.get? b = some { cls := .none, data := .fields more } := fun b h => by
        obtain ⟨p, hp, ep⟩ := ofT b h
        obtain ⟨more, z⟩ := un.tbls p.2 #[] (hT2 p hp)
        exact ⟨_, ep ▸ hok' p.2 _ z⟩
      refine ⟨rfl, ⟨fun b o e => ?_, fun b o e => ?_⟩, os, bare⟩
      · by_cases h : b ∈ tabs
        · obtain ⟨p, hp, ep⟩ := ofT b h
          obtain ⟨more, hm⟩ := tab2 b h
          rw [tabO b h] at e
          cases e
          refine .inr (.inl ⟨?_, rfl, #[], more, rfl, by rw [Array.empty_append]; exact hm⟩)
          have q := ((C p hp).tab (hT p hp)).isCodeTable
          rw [ep] at q
          exact q
        · exact .inl (same b o h e)
      · by_cases h : b ∈ tabs
        · obtain ⟨more, hm⟩ := tab2 b h
          exact ⟨_, hm⟩
        · exact ⟨o, same b o h e⟩
theorem law_walkTG {l : PySem.W.OpenLaw} {q : Program} {loose : List Str} {XP : (Str → Option Value) → Heap → Prop} {YP : World → Heap → Prop} {d : DefRec} {K : Params → PySem.W.Frag} (xs ys : List Str) (hn : l.most = some 63) (hdf : d.params.defaults = [])
    (hxs : (xs ++ ys).all (fun x => (recsOf q).any fun d => decide (d.name = x)) = true) (hdj : ∀ w : World, tabsDj (K w.params) xs ys = true) (hE : ∀ w : World, (K w.params).all (fun p => noTab p.2) = true) (hY : ∀ (w : World) (h : Heap), YP w h → (K w.params).In h)
    (F : ∀ (w : World) (mg : Str → Option Value) (fa : Addr) (h : Heap) (T : Tt), (K w.params).In h → h.Ns mainGlobals mg → mg d.name = some (.ref fa) →
      ∃ fd : FuncData, (∀ (s : Shared) (u : Value), BindsTo s fd ⟨[u], []⟩ [("script", u)]) ∧ ∀ base : Heap, (K w.params).In base → base.Ns mainGlobals mg → (∀ x ∈ xs, TbD (K w.params) mg base T x) → (∀ x ∈ ys, TbL (K w.params) mg base T x) → FnG l.prog w (K w.params) mg base fa fd "script" (spOf (K w.params) T spLaw)) :
    PySem.W.WalkO q loose XP YP l.row.toRowW d [] (fun f vs => PySem.call f vs) := by
  refine Att.attach_callB hn hdf fun w s₀ s₁ mg mb fa o pm cd doc a vs ns G Y ho hd hcd hmg hobj hints hlen hbits hg => ?_
  have KX := hY w _ Y
  have tabs : ∀ ys : List Str, (∀ x ∈ ys, ∃ d ∈ recsOf q, d.name = x) → ∃ cs : List (Addr × Addr × Str), (∀ p ∈ cs, s₁.heap.get? p.2.1 = some { cls := .none, data := .fields #[] } ∧ PySem.W.CodeHd s₁.heap p.1 p.2.1 ∧ p.2.2 ∈ ys ∧ ∀ a, tabP (K w.params) p.2.2 = some a → p.2.1 = a) ∧
      ∀ x ∈ ys, ∃ f c Pt, (c, Pt, x) ∈ cs ∧ mg x = some (.ref f) ∧ ∀ o fd, (K w.params).lookup f = some o → o.data = .func fd → fd.code = .ref c := by
    intro ys
    induction ys with
    | nil => exact fun _ => ⟨[], fun p hp => by (cases hp), fun x hx => by (cases hx)⟩
    | cons y ys ih =>
      intro hy
      obtain ⟨cs, h1, h2⟩ := ih fun x hx => hy x (List.mem_cons_of_mem _ hx)
      obtain ⟨d, hd, rfl⟩ := hy y List.mem_cons_self
      obtain ⟨f, o, fd, c, Pt, e1, e2, e3, e4, e5, e6⟩ := G.T.tab d hd
      refine ⟨(c, Pt, d.name) :: cs, fun p hp => ?_, fun x hx => ?_⟩
      · rcases List.mem_cons.mp hp with rfl | hp
        · exact ⟨e6.2, PySem.W.CodeHd.of e5 e6, List.mem_cons_self, fun a ha => tabP_is KX G.T.g e1 e2 e3 e4 (PySem.W.CodeHd.of e5 e6) ha⟩
        · obtain ⟨k1, k2, k3, k4⟩ := h1 p hp
          exact ⟨k1, k2, List.mem_cons_of_mem _ k3, k4⟩
      · rcases List.mem_cons.mp hx with rfl | hx
        · refine ⟨f, c, Pt, List.mem_cons_self, e1, fun o' fd' q1 q2 => ?_⟩
          have z := KX f o' q1
          rw [e2] at z
          cases z
          rw [e3] at q2
          cases q2
          exact e4
        · obtain ⟨f, c, Pt, m1, m2, m3⟩ := h2 x hx
          exact ⟨f, c, Pt, List.mem_cons_of_mem _ m1, m2, m3⟩
  have rec_of : ∀ x, x ∈ xs ++ ys → ∃ d ∈ recsOf q, d.name = x := fun x hx => by
    obtain ⟨d, hd, e⟩ := List.any_eq_true.mp (List.all_eq_true.mp hxs x hx)
    exact ⟨d, hd, of_decide_eq_true e⟩
  obtain ⟨cs, hcs, hx⟩ := tabs xs fun x hx => rec_of x (List.mem_append_left _ hx)
  obtain ⟨ls, hls, hy⟩ := tabs ys fun x hx => rec_of x (List.mem_append_right _ hx)
  have dj := hdj w
  obtain ⟨T, hTd⟩ : ∃ T : Tt, T = ⟨fun a => a ∈ cs.map (fun p => p.2.1), fun a q => ∃ p ∈ ls, p.2.1 = a ∧ q = p.2.2 ++ ".<locals>." ++ "<lambda>", fun a q ⟨p, hp, e, _⟩ hg => by
      obtain ⟨r, hr, e2⟩ := List.mem_map.mp hg
      obtain ⟨_, _, r3, r4⟩ := hcs r hr
      obtain ⟨_, _, p3, p4⟩ := hls p hp
      obtain ⟨t1, t2⟩ := tabsDj_x dj p.2.2 p3
      obtain ⟨t3, t4⟩ := t2 r.2.2 r3
      obtain ⟨a1, ha1⟩ := Option.isSome_iff_exists.mp t1
      obtain ⟨a2, ha2⟩ := Option.isSome_iff_exists.mp t3
      have z1 := p4 _ ha1
      have z2 := r4 _ ha2
      exact t4 (by rw [ha1, ha2, ← z1, ← z2, e, e2]),
    fun a q q' ⟨p, hp, e, eq⟩ ⟨p', hp', e', eq'⟩ => by
      obtain ⟨_, _, p3, p4⟩ := hls p hp
      obtain ⟨_, _, r3, r4⟩ := hls p' hp'
      obtain ⟨a1, ha1⟩ := Option.isSome_iff_exists.mp (tabsDj_x dj p.2.2 p3).1
      obtain ⟨a2, ha2⟩ := Option.isSome_iff_exists.mp (tabsDj_x dj p'.2.2 r3).1
      have z1 := p4 _ ha1
      have z2 := r4 _ ha2
      have := tabsDj_y dj p.2.2 p3 p'.2.2 r3 (by rw [ha1, ha2, ← z1, ← z2, e, e'])
      rw [eq, eq', this]⟩ := ⟨_, rfl⟩
  obtain ⟨fd, hb, hF⟩ := F w mg fa _ T KX G.T.g hmg
  obtain ⟨al, hal⟩ : ∃ al : List (Addr × Addr), al = (cs ++ ls).map fun p => (p.1, p.2.1) := ⟨_, rfl⟩
  have hal2 : ∀ p ∈ al, s₁.heap.get? p.2 = some { cls := .none, data := .fields #[] } ∧ PySem.W.CodeHd s₁.heap p.1 p.2 := fun p hp => by
    rw [hal] at hp
    obtain ⟨r, hr, e⟩ := List.mem_map.mp hp
    subst e
    rcases List.mem_append.mp hr with hr | hr
    · exact ⟨(hcs r hr).1, (hcs r hr).2.1⟩
    · exact ⟨(hls r hr).1, (hls r hr).2.1⟩
  have nT : ∀ p ∈ al, (K w.params).lookup p.2 = none := fun p hp => by
    cases e : (K w.params).lookup p.2 with
    | none => rfl
    | some o =>
      have z := KX _ _ e
      rw [(hal2 p hp).1] at z
      cases z
      have q := List.all_eq_true.mp (hE w) _ (look_mem e)
      cases q
  have memT : ∀ b, T b → b ∈ al.map (·.2) := fun b hb => by
    rw [hTd] at hb
    rw [hal, List.map_map]
    rcases hb with hb | ⟨q, p, hp, e, _⟩
    · obtain ⟨r, hr, e⟩ := List.mem_map.mp hb
      exact List.mem_map.mpr ⟨r, List.mem_append_left _ hr, e⟩
    · exact List.mem_map.mpr ⟨p, List.mem_append_right _ hp, e⟩
  refine law_callG (cs := al) (sp := spOf (K w.params) T spLaw) KX G.T.g G.T.b G.T.builtins G.T.nolimit hg (fun p hp => (hal2 p hp).1) nT (fun p hp => (hal2 p hp).2) G.T.bmain hobj hints (Nat.le_trans hlen (by decide))
    (fun base h1 h2 h3 => hF base h1 h2 (fun x hx' => ?_) fun x hx' => ?_) hb (fun H hH hS => ?_)
  · obtain ⟨f, c, Pt, m1, m2, m3⟩ := hx x hx'
    have t := h3 (c, Pt) (by rw [hal]; exact List.mem_map.mpr ⟨_, List.mem_append_left _ m1, rfl⟩)
    exact ⟨f, c, Pt, m2, m3, ⟨t.code, t.bm, t.gP⟩, by rw [hTd]; exact List.mem_map.mpr ⟨_, m1, rfl⟩⟩
  · obtain ⟨f, c, Pt, m1, m2, m3⟩ := hy x hx'
    have t := h3 (c, Pt) (by rw [hal]; exact List.mem_map.mpr ⟨_, List.mem_append_right _ m1, rfl⟩)
    exact ⟨f, c, Pt, m2, m3, t, by rw [hTd]; exact ⟨_, m1, rfl, rfl⟩⟩
  · have isT : ∀ b, b ∈ al.map (·.2) → H b = some (.tbl #[]) := fun b hb => by
      obtain ⟨p, hp, e⟩ := List.mem_map.mp hb
      rw [← e]; exact hH p hp
    have ne : ∀ b u, H b = some u → (∀ ps, u ≠ .tbl ps) → (if b ∈ al.map (·.2) then none else H b) = some u := fun b u e n => by
      rw [if_neg fun z => by rw [isT b z] at e; cases e; exact n _ rfl]
      exact e
    have hS' : SqL (K w.params) (fun b => if b ∈ al.map (·.2) then none else H b) a (ns.map V.int) := by
      rcases hS with (h | ⟨o, h⟩) | h
      · exact .inl (.inl (ne _ _ h fun ps z => by cases z))
      · exact .inl (.inr ⟨o, ne _ _ h fun ps z => by cases z⟩)
      · exact .inr h
    refine ⟨fun b => if b ∈ al.map (·.2) then none else H b, fun _ => none, [.lsw (ns.map D.int)], fun d _ => d = .bl true, fun _ _ _ => False, ⟨fun b o e => ?_, fun _ _ h => by (cases h), fun _ _ h => by (cases h), fun b hb => ⟨⟨#[], isT b (memT b hb), trivial, fun q tq pos cv hc => by simp [codeAmong] at hc⟩, if_pos (memT b hb), rfl⟩⟩, .cons (.lsw hS' (repL_ints ns)) .nil, ⟨ns, rfl, hlen, fun _ => rfl⟩,
      fun v d P' M' H' e _ r => by subst e; exact r.toB, fun _ _ _ _ _ z _ => z⟩
    · by_cases hb : b ∈ al.map (·.2)
      · rw [if_pos hb] at e; cases e
      · rw [if_neg hb] at e; exact .inl e
end Ab

set_option Elab.async false
set_option linter.all false
set_option maxRecDepth 100000
set_option maxHeartbeats 2000000
/-! repr in a def that only such bodies call where no guards stand; repr of a dict by texts with ints. -/
namespace Ab
open PySem PySem.Spec PyProof.Rows L2
/-- a def's promise where no guards stand -/
structure FnH (P : Program) (w : World) (K : PySem.W.Frag) (mg : Str → Option Value) (base : Heap) (k : Nat) (f : Addr) (fd : FuncData) (ps : List Str) (sp : Sp) : Prop where
  len : ∀ vs H Q E, sp vs H Q E → vs.length = ps.length
  run : ∀ (A : Around) (outer : List Env) (s : Shared) (H : Hp) (us : List Value) (vs : List V) (Q : VK) (E : XK), A.guards = some [] → Room k A → Env0 P w K mg base A outer s H → BindsTo s fd ⟨us, []⟩ (ps.zip us) → Vals vs us → sp vs H Q E →
    codeAny (model P w) A (.call (.ref f) ⟨us, []⟩) (CR (L2.CX P w) outer P w H s Q E) s
structure ClH (P : Program) (w : World) (K : PySem.W.Frag) (mg : Str → Option Value) (base : Heap) (T : Tt) (k : Nat) (x : Str) (sp : Pm) : Prop where
  ex : ∃ (f : Addr) (fd : FuncData) (ps : List Str), FnH P w K mg base k f fd ps (spOf K T sp) ∧ mg x = some (.ref f) ∧ PySem.W.keepIn K (.ref f) = true ∧ Binds K fd ps []
section
variable {P : Program} {w : World} {K : PySem.W.Frag} {mg : Str → Option Value} {base : Heap} {T : Tt}
theorem fnH {x : Str} {st : Stmt} {f : Addr} {fd : FuncData} {N ps : List Str} {k : Nat} {sp : Pm} (F : Fun K x x st f fd) (S : FnScope N ps (defScope st)) (b : XS K T) (hlen : ∀ ds M Φ Ξ, sp ds M Φ Ξ → ds.length = ps.length)
    (hd : ∀ (f : Addr) (cdv : Value) (A : Around) (outer : List Env) (s : Shared) (H : Hp) (E : XK), A.guards = some [] → Room k (A.deeper (envOfC x (defScope st) s.heap.objs.size f cdv)) →
      PSs (cxOf (L2.CX P w) P w K mg base N x (defScope st) f cdv A outer s H E).nox (defBody st) (b.t WX0))
    (hw : ∀ ds M Φ Ξ, sp ds M Φ Ξ → b.w (st0 N.length ds) M ⟨fun _ M' => Φ .non M', Φ, fun _ _ => False, fun _ _ => False⟩ (fun _ _ _ _ => False)) : FnH P w K mg base (k + 1) f fd ps (spOf K T sp) := by
  obtain ⟨oc, od, kV, doc, pm, an, cdv, ct, osl, rfl, lk, hcd⟩ := F.ex
  have len : ∀ vs H Q E, spOf K T sp vs H Q E → vs.length = ps.length := fun vs H Q E ⟨P0, M, ds, Φ, Ξ, wr, r, hs, _⟩ => by rw [r.len]; exact hlen _ _ _ _ hs
  refine ⟨len, fun A outer s H us vs Q E hg hroom e0 hb rv h => ?_⟩
  have hl := len _ _ _ _ h
  obtain ⟨P0, M, ds, Φ, Ξ, wr, r, hs, hq, _⟩ := h
  have low : ∀ c o, base.get? c = some o → s.heap.get? c = some o := fun c o e => (e0.bs c o e).1
  have kin : K.In s.heap := e0.mod.kin.keeps low
  have one : ∀ y ∈ ps.zip us, (defScope st).names.lookup y.1 = some .local ∨ ((defScope st).names.lookup y.1 = some .cell ∧ ((cellsFrom (s.heap.objs.size + 1) (defScope st).names []).lookup y.1).isSome = true) := fun y hy =>
    (S.par y.1 (List.of_mem_zip (show (y.1, y.2) ∈ _ from hy)).1).imp id fun q => ⟨q, PySem.W.cellsFrom_some _ _ _ (.inl q)⟩
  refine codeAny_call_function hroom.depth (kin _ _ lk) rfl S.co S.gen rfl (PySem.W.codeRec_of kin hcd) (hb _ _ _ _ (wpAny_newFunctionEnv_cells S.kind one fun env he s1 hx => ?_))
  subst he
  have nl : s.heap.NoLimit := e0.mod.nolimit.keeps low
  refine ⟨nl.keeps hx.toInCall.keep, codeAny_func ?_⟩
  have I0 : Inv (cxOf (L2.CX P w) P w K mg base N x (defScope st) f cdv A outer s H E) [] (start N vs) H s1 := inv_start S hroom.hd e0 hl rv hx
  have go := (hd f cdv A outer s H E hg (hroom.deeper _)).nox.run [] s1 (start N vs) H { nx := fun _ H' => Q .non H', rt := Q } I0
    (b.ok (hw ds M Φ Ξ hs) wr r.start ⟨fun ρ' σ' P' M' H' h1 s1 r1 => hq _ _ _ _ _ h1 s1 .non, fun v d P' M' H' h1 s1 r1 => hq _ _ _ _ _ h1 s1 r1, fun _ _ _ _ _ z _ _ => z.elim, fun _ _ _ _ _ z _ _ => z.elim⟩ (fun _ _ _ _ _ _ _ z _ _ => z.elim))
  refine wpAny_mono go (fun fl s' hz => ?_) fun _ _ z => z
  cases fl with
  | ret u' =>
    obtain ⟨v', σ', H', J, rr, q⟩ := hz
    exact ⟨v', H', J.os, J.bare, J.base, J.hok, rr, q⟩
  | next =>
    obtain ⟨σ', H', J, q⟩ := hz
    exact ⟨V.non, H', J.os, J.bare, J.base, J.hok, rfl, q⟩
  | brk =>
    obtain ⟨_, _, _, q⟩ := hz
    exact q.elim
  | cont =>
    obtain ⟨_, _, _, q⟩ := hz
    exact q.elim
theorem clH {x : Str} {st : Stmt} {N ps : List Str} {k : Nat} {sp : Pm} (F : Df K mg x st) (S : FnScope N ps (defScope st)) (b : XS K T) (hlen : ∀ ds M Φ Ξ, sp ds M Φ Ξ → ds.length = ps.length)
    (hb : ∀ (kV doc pm : Value) (an : Option Addr) (cdv ct : Value) (us : List Value), us.length = ps.length → bindArgs (PySem.W.fnOf x x (defArgs st) (defBody st) (defScope st) .none kV doc pm an cdv ct) ⟨us, []⟩ = pure (ps.zip us))
    (hd : ∀ (f : Addr) (cdv : Value) (A : Around) (outer : List Env) (s : Shared) (H : Hp) (E : XK), A.guards = some [] → Room k (A.deeper (envOfC x (defScope st) s.heap.objs.size f cdv)) →
      PSs (cxOf (L2.CX P w) P w K mg base N x (defScope st) f cdv A outer s H E).nox (defBody st) (b.t WX0))
    (hw : ∀ ds M Φ Ξ, sp ds M Φ Ξ → b.w (st0 N.length ds) M ⟨fun _ M' => Φ .non M', Φ, fun _ _ => False, fun _ _ => False⟩ (fun _ _ _ _ => False)) : ClH P w K mg base T (k + 1) x sp := by
  obtain ⟨f, fd, F, hm, hdf⟩ := F.ex
  exact ⟨f, fd, ps, fnH F S b hlen hd hw, hm, F.kp, F.binds hb⟩
end
theorem dCallH {X : Cx} {T : Tt} {W : WX} {as : XA X.K T} {ea : Expr} {es : List Expr} {pos : Pos} {k j : Nat} {x : Str} {sp : Pm} {p : Pos} (c : ClH X.prog X.w X.K X.mg X.base T k x sp) (hgd : X.A.guards = some []) (hr : Room j X.A) (hk : k ≤ j) (tk : Takes X W) (ha : PA X (ea :: es) (as.t W)) (hg : Gl X x := by rfl) (hdb : (x == ("__debug__" : Str)) = false := by decide)
    (he : starEach (ea :: es) X.env = (false, eval ea X.env) :: starEach es X.env := by rfl) (hpl : (backTo pos (starEach es X.env)).any (·.1) = false := by rfl) : PE X (.Call (.Name x p) (ea :: es) [] pos) ((xCall sp as).t W) := by
  obtain ⟨f, fd, ps, F, hm, kp, b⟩ := c.ex
  refine ⟨fun pins s σ H Q I h => wpAny_Call_Name_kw (ld_glob I hg hm ?_ hdb)⟩
  refine PySem.W.callWith_K (h₀ := X.base) I.ok.mod.kin kp (thn (ha.run pos pins s σ H _ I h) fun us s1 ⟨vs, H1, I1, r, q⟩ => ⟨I1.kIn, ?_⟩) he hpl
  have hl : (us ++ []).length = ps.length := by rw [List.append_nil, ← r.length]; exact F.len _ _ _ _ q
  have hbd := b s1 us I1.kIn hl
  rw [List.append_nil] at hbd
  refine wpAny_call (codeAny_mono (F.run X.A X.stack s1 H1 us vs Q _ hgd (hr.mono hk) I1.env0 hbd r q) fun r s' hq => ?_)
  cases r with
  | error e => exact (passAt tk σ) pins H1 s1 e s' I1 hq
  | ok fl =>
    cases fl with
    | ret u => exact I1.after hq
    | next => exact False.elim hq
    | brk => exact False.elim hq
    | cont => exact False.elim hq
end Ab

set_option Elab.async false
set_option linter.all false
set_option maxRecDepth 100000
set_option maxHeartbeats 2000000
/-! repr of a dict by texts with ints. -/
namespace Ab
open PySem PySem.Spec PyProof.Rows L2
theorem readsAll_idx {h : Heap} : ∀ {us : List Value} {ds : List PyData}, us.length = ds.length → (∀ (j : Nat) u d, us[j]? = some u → ds[j]? = some d → Reads h u d []) → ReadsAll h us ds []
  | [], [], _, _ => .nil
  | u :: us, d :: ds, hl, hr => by
    have a := hr 0 u d rfl rfl
    have b := readsAll_idx (us := us) (ds := ds) (by simpa using hl) fun j u d e1 e2 => hr (j + 1) u d e1 e2
    exact ReadsAll.cons a b
def dicPy (c : List (Str × Int)) : PyData := .dict (c.map fun e => (PyData.str e.1, PyData.int e.2))
theorem dicPy_ok : ∀ {c : List (Str × Int)}, (∀ e ∈ c, e.2.natAbs < 10 ^ 12) → PyData.showableKv (c.map fun e => (PyData.str e.1, PyData.int e.2)) = true
  | [], _ => by simp [PyData.showableKv]
  | e :: c, h => by
    have := dicPy_ok (c := c) fun x hx => h x (List.mem_cons_of_mem _ hx)
    have z := h e List.mem_cons_self
    obtain ⟨x, hx, hs, _⟩ := rz_int (n := 0) (B := 13) z (Nat.le_refl _)
    unfold dP at hx
    cases hx
    simp [PyData.showableKv, this, hs, PyData.showable] at hs ⊢
    exact hs
theorem dicPy_len {m : Nat} : ∀ {c : List (Str × Int)}, (∀ e ∈ c, e.2.natAbs < 10 ^ 12 ∧ (∀ x ∈ e.1.cps.toList, x < 16 ^ 8) ∧ e.1.length ≤ m) → ((PyData.shownKv (c.map fun e => (PyData.str e.1, PyData.int e.2))).map (·.length)).sum ≤ c.length * (10 * m + 17) ∧ (PyData.shownKv (c.map fun e => (PyData.str e.1, PyData.int e.2))).length = c.length
  | [], _ => by simp [PyData.shownKv]
  | e :: c, h => by
    obtain ⟨a, b⟩ := dicPy_len (c := c) fun x hx => h x (List.mem_cons_of_mem _ hx)
    obtain ⟨z1, z2, z3⟩ := h e List.mem_cons_self
    have l1 := StrLaws.reprText_len e.1 z2
    have l2 := PyData.shown_int_le z1
    have e2 : ((PyData.str e.1).shown ++ ": " ++ (PyData.int e.2).shown).length = (reprText e.1).length + 2 + (PyData.int e.2).shown.length := by
      rw [strLen_append, strLen_append]; rfl
    refine ⟨?_, by simp only [List.map_cons, PyData.shownKv, List.length_cons, b]⟩
    simp only [List.map_cons, PyData.shownKv, List.sum_cons, List.length_cons]
    rw [e2, Nat.succ_mul]
    omega
theorem dicPy_size {m n : Nat} {c : List (Str × Int)} (hl : c.length ≤ n) (h : ∀ e ∈ c, e.2.natAbs < 10 ^ 12 ∧ (∀ x ∈ e.1.cps.toList, x < 16 ^ 8) ∧ e.1.length ≤ m) : (dicPy c).shown.length ≤ n * (10 * m + 19) + 3 := by
  obtain ⟨a, b⟩ := dicPy_len h
  have q := dictText_len_le (PyData.shownKv (c.map fun e => (PyData.str e.1, PyData.int e.2)))
  show (dictText (PyData.shownKv (c.map fun e => (PyData.str e.1, PyData.int e.2)))).length ≤ _
  have m1 : c.length * (10 * m + 19) ≤ n * (10 * m + 19) := Nat.mul_le_mul_right _ hl
  have m2 : c.length * (10 * m + 19) = c.length * (10 * m + 17) + c.length * 2 := by rw [← Nat.mul_add]
  omega
section
variable {K : PySem.W.Frag} {T : Tt}
def bReprK : XB K T where
  r := fun xs H Q => ∃ a c, xs = [.ref a] ∧ H a = some (.dK (kdI c)) ∧ (∀ e ∈ c, e.2.natAbs < 10 ^ 12) ∧ (dicPy c).shown.length ≤ sizeLine ∧ Q (.str (dicPy c).shown) H
  w := fun ds M Φ => arg1 ds fun d => asR d fun p => mD M p fun kds => ∃ c, kds = kd D.int c ∧ (∀ e ∈ c, e.2.natAbs < 10 ^ 12) ∧ (dicPy c).shown.length ≤ 100000 ∧ Φ (.str (dicPy c).shown) M
  ok := fun h P H vs wr r Q hq => by
    obtain ⟨d, rfl, h1⟩ := h.get
    obtain ⟨v, rfl, r1⟩ := r.one
    obtain ⟨p, rfl, h2⟩ := asR.get h1
    obtain ⟨kds, hm, c, rfl, h3, h4, h5⟩ := h2.get
    obtain ⟨o, ho, rm⟩ := wr.chg _ _ hm
    cases rm with
    | @dct kvs _ a1 a2 =>
      have z : Zk K P kvs (kd D.int c) := ⟨a1, a2⟩
      obtain rfl := zk_ints z
      exact ⟨p, c, by rw [r1.toR], ho, h3, sz_of h4, hq _ _ _ _ _ h5 (Step.refl wr) (.str _)⟩
end
theorem call_reprK {X : Cx} {T : Tt} (hg : X.A.guards = some []) (hu : X.A.units + 64 < cLine) : CallR X (.builtin "repr") (bReprK (K := X.K) (T := T)).r := by
  intro pins s σ H xs us Q I r h
  obtain ⟨a, c, rfl, ha, hi, hz, q⟩ := h
  obtain rfl := Vals.ref1 r
  obtain ⟨z, hd, vs, rel, o, es, ep, ho, hx, hdat, hko, hps, hn⟩ := dk_of I.hok ha
  have l1 : (kdI c).length = vs.length := Paired.length rel
  have l0 : (kdI c).length = c.length := List.length_map _
  have l2 : es.toList.length = vs.length := hps.length
  have ent : ∀ (j : Nat) (en : DictEntry) (e : Str × Int), es.toList[j]? = some en → c[j]? = some e → ∃ t t', en.key = Value.str e.1 t ∧ en.val = Value.int e.2 t' := by
    intro j en e hen he
    obtain ⟨k, v, hk1, hk2, hk3⟩ := pairs_get hps hen
    have hkd : (kdI c)[j]? = some (Sum.inr e.1, V.int e.2) := by unfold kdI; rw [List.getElem?_map, he]; rfl
    obtain ⟨y, hy, f1, f2⟩ := DX.pget rel hk1
    rw [hkd] at hy
    obtain rfl := Option.some.inj hy
    have f1 : Sum.inr e.1 = k := f1
    obtain ⟨t', ev⟩ := (show ∃ t', v = Value.int e.2 t' from f2)
    subst f1
    rcases L2.keyIs_shape (show L2.keyIs (Sum.inr e.1) en.key = true from hk2) with ⟨i, t, z1, _⟩ | ⟨x, t, z1, z2⟩
    · cases z1
    · cases z1
      exact ⟨t, t', z2, by rw [hk3, ev]⟩
  have rk : ReadsAll s.heap (es.toList.map (·.key)) ((c.map fun e => (PyData.str e.1, PyData.int e.2)).map (·.1)) [] := readsAll_idx (by simp only [List.length_map]; omega) fun j u d e1 e2 => by
    rw [List.getElem?_map] at e1
    rw [List.map_map, List.getElem?_map] at e2
    cases h1 : es.toList[j]? with
    | none => rw [h1] at e1; cases e1
    | some en =>
      cases h2 : c[j]? with
      | none => rw [h2] at e2; cases e2
      | some e =>
        rw [h1] at e1; rw [h2] at e2
        cases e1; cases e2
        obtain ⟨t, t', k1, _⟩ := ent j en e h1 h2
        show Reads s.heap en.key (PyData.str e.1) []
        rw [k1]; exact .str _ _
  have rv : ReadsAll s.heap (es.toList.map (·.val)) ((c.map fun e => (PyData.str e.1, PyData.int e.2)).map (·.2)) [] := readsAll_idx (by simp only [List.length_map]; omega) fun j u d e1 e2 => by
    rw [List.getElem?_map] at e1
    rw [List.map_map, List.getElem?_map] at e2
    cases h1 : es.toList[j]? with
    | none => rw [h1] at e1; cases e1
    | some en =>
      cases h2 : c[j]? with
      | none => rw [h2] at e2; cases e2
      | some e =>
        rw [h1] at e1; rw [h2] at e2
        cases e1; cases e2
        obtain ⟨t, t', _, k1⟩ := ent j en e h1 h2
        show Reads s.heap en.val (PyData.int e.2) []
        rw [k1]; exact .int _ _
  have rd : Reads s.heap (.ref a) (dicPy c) (a :: [] ++ []) := Reads.dict ho hx.1 hdat rk rv
  have dep : ∀ c : List (Str × Int), PyData.depthKv (c.map fun e => (PyData.str e.1, PyData.int e.2)) = 0 := fun c => by
    induction c with
    | nil => simp [PyData.depthKv]
    | cons e c ih => simp [PyData.depthKv, PyData.depth, ih]
  refine repr_of_reads' rd (by show PyData.showableKv _ = true; exact dicPy_ok hi) (fun _ hm => ?_) hg (by
    show X.A.units + (PyData.depthKv _ + 1 + 1) < cLine
    rw [dep]; omega) (fun _ _ e => e) (fun h' u tk hk => ?_) hz
  · have : sysModules = a := by simpa using hm
    rw [← this] at hd
    simp at hd
  · exact ⟨.str (dicPy c).shown, H, I.kept (t' := tk) hk, ⟨u, rfl⟩, q⟩
end Ab

set_option Elab.async false
set_option linter.all false
set_option maxRecDepth 100000
set_option maxHeartbeats 2000000
/-! A list that a call makes, changed no more. -/
namespace Ab
open PySem PySem.Spec PyProof.Rows L2
section
variable {K : PySem.W.Frag} {T : Tt}
def xFz (a : XE K T) : XE K T where
  t := a.t
  w := fun ρ M Φ Ξ => a.w ρ M (fun d M1 => asR d fun p => mL M1 p fun ds => Φ (.lst ds) (em M1 p)) Ξ
  ok := fun {W ρ M Φ Ξ} h P σ H wr rs Q hq hx => a.ok h wr rs (fun v d P1 M1 H1 h1 s1 r1 => by
    obtain ⟨p, rfl, h2⟩ := asR.get h1
    obtain ⟨ds, hm, h3⟩ := mL.get h2
    obtain ⟨o, ho, rm, st⟩ := Step.freeze s1.wr hm
    cases rm with
    | @lst vs _ hr =>
      rw [r1.toR]
      exact hq _ _ _ _ _ h3 (s1.trans st) (.lst upd_same (RepL.mono st.ex hr))) hx
end
theorem dFzE {X : Cx} {T : Tt} {W : WX} {a : XE X.K T} {e : Expr} (h : PE X e (a.t W)) : PE X e ((xFz a).t W) := h
end Ab

set_option Elab.async false
set_option linter.all false
set_option maxRecDepth 100000
set_option maxHeartbeats 4000000
/-! sets of texts: set(a list of texts), sorted of it -/
namespace Ab
open PySem PySem.Spec PyProof.Rows L2
def sxKey (e : Int × Value) : Str := match e.2 with | .str k _ => k | _ => Str.empty
def TGood (w : World) (e : Int × Value) : Prop := ∃ k tk, e.2 = Value.str k tk ∧ e.1 = hashStr w k
/-- the rows of a set of texts, and its table -/
structure TRows (w : World) (es : Array (Int × Value)) (t : SetTable) (L : List Str) : Prop where
  good : ∀ e ∈ es.toList, TGood w e
  nd : (es.toList.map sxKey).Nodup
  mem : ∀ k, k ∈ L ↔ k ∈ es.toList.map sxKey
  le : es.size ≤ L.length
  fit : t.fits es.size = true
  ris : Ris t.place.toList
  led : w.params.followText "set-order" = true ∨ t.led = true
/-- the set at a holds the texts of L -/
def SetX (w : World) (h : Heap) (a : Addr) (L : List Str) : Prop :=
  ∃ o es ep t, h.get? a = some o ∧ o.ExactSet ∧ o.data = .set es ep t ∧ TRows w es t L
theorem SetX.keep {w : World} {h h' : Heap} {a : Addr} {L : List Str} (R : SetX w h a L) (k : ∀ o, h.get? a = some o → h'.get? a = some o) : SetX w h' a L := by
  obtain ⟨o, es, ep, t, ho, r⟩ := R
  exact ⟨o, es, ep, t, k o ho, r⟩
theorem tis {P : Program} {w : World} {e : Int × Value} (g : TGood w e) (k : Str) : (strKind P w).is k e.2 = true ↔ sxKey e = k := by
  obtain ⟨k0, tk, h1, _⟩ := g
  unfold sxKey
  rw [h1]
  have h0 : (strKind P w).is k0 (.str k0 tk) = true := strKind_is _ _ _ _
  constructor
  · intro z
    exact (strKind P w).inj (.str k0 tk) k0 k h0 z
  · rintro rfl
    exact h0
theorem telems {P : Program} {w : World} {l : List (Int × Value)} (g : ∀ e ∈ l, TGood w e) : ElemsOf (strKind P w) l := fun e he => by
  obtain ⟨k, tk, h1, h2⟩ := g e he
  exact ⟨⟨k, by rw [h1]; exact strKind_is _ _ _ _, h2⟩, by rw [h1] <;> rfl⟩
theorem tmem {P : Program} {w : World} {l : List (Int × Value)} (g : ∀ e ∈ l, TGood w e) (k : Str) : k ∈ l.map sxKey ↔ ∃ e ∈ l, (strKind P w).is k e.2 = true := by
  rw [List.mem_map]
  exact ⟨fun ⟨e, he, q⟩ => ⟨e, he, (tis (g e he) k).2 q⟩, fun ⟨e, he, q⟩ => ⟨e, he, (tis (g e he) k).1 q⟩⟩
section
variable {P : Program} {w : World} {A : Around} {E : Value → Shared → Prop} {s : Shared} {a : Addr} {L : List Str}
/-- what stands behind a new row: stored, laid anew where the table is too full -/
theorem setX_store {g : Bool → Sem Unit} (hg : ∀ (b : Bool) (s₁ : Shared) (Q' : Unit → Shared → Prop), Q' () s₁ → wpAny (model P w) A (g b) Q' E s₁)
    {o : Obj} {es : Array (Int × Value)} {ep : Nat} {t : SetTable} (ho : s.heap.get? a = some o) (hex : o.ExactSet) (hd : o.data = .set es ep t)
    {e1 : Array (Int × Value)} {t2 : SetTable} (R1 : TRows w e1 t2 L) (hb1 : e1.size < scanBound) {wasDummy : Bool} {R : Option Bool → Shared → Prop}
    (hR : ∀ h', Heap.SameBut a s.heap h' → SetX w h' a L → R (some true) { s with heap := h' }) :
    wpAny (model P w) A (do
        storeSet a e1 t2
        if (!wasDummy && t2.tooFull) = true then do
            g (relayAll t2 e1 (SetTable.grown e1.size)).2.2
            storeSet a (relayAll t2 e1 (SetTable.grown e1.size)).1 (relayAll t2 e1 (SetTable.grown e1.size)).2.1
            pure (some true)
          else pure (some true)) R E s := by
  refine wpAny_bind (wpAny_storeSet_of ho hd ?_ (fits_of_scanBound hb1))
  have ho1 := store_at (es' := e1) (t' := t2) ho hd
  have sb1 := Heap.SameBut.update s.heap a (Obj.putSet e1 t2)
  split
  · have pm := relayAll_perm t2 e1 (SetTable.grown e1.size)
    have hf3 := relayAll_fits t2 e1 (SetTable.grown e1.size)
    have hr3 := relayAll_ris t2 e1 (SetTable.grown e1.size)
    have hl3 := relayAll_led t2 e1 (SetTable.grown e1.size)
    generalize relayAll t2 e1 (SetTable.grown e1.size) = Z at pm hf3 hr3 hl3 ⊢
    obtain ⟨es2, t3, gave⟩ := Z
    dsimp only at pm hf3 hr3 hl3 ⊢
    have hsz : es2.size = e1.size := by rw [← Array.length_toList, pm.length_eq, Array.length_toList]
    refine wpAny_bind (hg _ _ _ ?_)
    refine wpAny_bind (wpAny_storeSet_of ho1 rfl ?_ (fits_of_scanBound (by rw [hsz]; exact hb1)))
    have ho2 := store_at (es' := es2) (t' := t3) ho1 rfl
    refine wpAny_pure (hR _ (sb1.trans (Heap.SameBut.update _ a _)) ⟨_, es2, _, t3, ho2, hex, rfl, ?_⟩)
    exact ⟨fun e he => R1.good e (pm.mem_iff.mp he), (pm.map sxKey).nodup_iff.mpr R1.nd, fun k => (R1.mem k).trans (pm.map sxKey).mem_iff.symm, by rw [hsz]; exact R1.le, hf3, hr3, R1.led.imp id fun z => by rw [hl3]; exact z⟩
  · exact wpAny_pure (hR _ sb1 ⟨_, e1, _, t2, ho1, hex, rfl, R1⟩)
theorem setX_add {k : Str} {tk : Tok} {Q : Bool → Shared → Prop} (R : SetX w s.heap a L) (room : L.length + 1 < scanBound)
    (hQ : ∀ b h', Heap.SameBut a s.heap h' → SetX w h' a (L ++ [k]) → Q b { s with heap := h' }) :
    wpAny (model P w) A (setAddHashed a (.str k tk) ((strKind P w).hash k)) Q E s := by
  obtain ⟨o, es, ep, t, ho, hex, hd, T⟩ := R
  have hkey : (strKind P w).is k (.str k tk) = true := strKind_is _ _ _ _
  have hsc : (Value.str k tk).scannable = true := rfl
  have hel : ElemsOf (strKind P w) es.toList := telems T.good
  have hle := T.le
  have hb : es.size < scanBound := by omega
  have hf := T.fit
  unfold setAddHashed setAddHashedIn
  refine wpAny_holding (wpAny_bind (wpAny_setState_of ho hd hf ?_))
  dsimp only
  rw [byScan_of hsc hb hel]
  simp only [↓reduceIte]
  unfold setAddByScan
  refine wpAny_bind ?_
  refine wpAny_bind (wpAny_rule ?_)
  refine wpAny_bind (wpAny_setScan_of hkey ho hd hf hel ?_)
  cases hfi : List.findIdx? (fun e => (strKind P w).is k e.2) es.toList with
  | some j =>
    dsimp only
    obtain ⟨hj, pj, _⟩ := List.findIdx?_eq_some_iff_getElem.mp hfi
    have hm : k ∈ es.toList.map sxKey := (tmem (P := P) T.good k).2 ⟨es.toList[j], List.getElem_mem hj, pj⟩
    refine wpAny_pure (wpAny_pure ?_)
    refine hQ _ s.heap (Heap.SameBut.refl a s.heap) ⟨o, es, ep, t, ho, hex, hd, T.good, T.nd, fun i => ?_, by rw [List.length_append]; omega, hf, T.ris, T.led⟩
    rw [List.mem_append, List.mem_singleton, T.mem i]
    exact ⟨fun z => z.elim id (fun e => e ▸ hm), .inl⟩
  | none =>
    dsimp only
    have hnk : k ∉ es.toList.map sxKey := fun z => by
      obtain ⟨e, he, q⟩ := (tmem (P := P) (w := w) T.good k).1 z
      have c := List.findIdx?_eq_none_iff.mp hfi e he
      rw [q] at c
      cases c
    have hgw : ∀ (b : Bool) {s₁ : Shared} {Q' : Unit → Shared → Prop}, Q' () s₁ → wpAny (model P w) A (match b with | true => rule "set.scan.the-table-gave-way" | false => pure ()) Q' E s₁ :=
      fun b s₁ Q' q => by cases b <;> first | exact wpAny_pure q | exact wpAny_rule q
    have pm := layNew_perm t es ((strKind P w).hash k) (.str k tk)
    have hf1 := layNew_fits t es ((strKind P w).hash k) (.str k tk)
    have hr1 := layNew_ris t es ((strKind P w).hash k) (.str k tk) T.ris
    have hl1 := layNew_led t es ((strKind P w).hash k) (.str k tk)
    generalize layNew t es ((strKind P w).hash k) (.str k tk) = Z at pm hf1 hr1 hl1 ⊢
    obtain ⟨e1, t1, wasDummy, gave⟩ := Z
    dsimp only at pm hf1 hr1 hl1 ⊢
    rw [Array.toList_push] at pm
    have pc : e1.toList.Perm (((strKind P w).hash k, Value.str k tk) :: es.toList) := pm.trans (List.perm_append_singleton _ _)
    have pk : (e1.toList.map sxKey).Perm (k :: es.toList.map sxKey) := pc.map sxKey
    have g1 : ∀ e ∈ e1.toList, TGood w e := fun e he => by
      rcases List.mem_cons.mp (pc.mem_iff.mp he) with z | z
      · rw [z]; exact ⟨k, tk, rfl, rfl⟩
      · exact T.good e z
    have hsz : e1.size = es.size + 1 := by rw [← Array.length_toList, pc.length_eq, List.length_cons, Array.length_toList]
    have hled : w.params.followText "set-order" = true ∨ t1.led = true := T.led.imp id fun z => by rw [hl1]; exact z
    have T1 : ∀ t2 : SetTable, t2.fits e1.size = true → Ris t2.place.toList → (w.params.followText "set-order" = true ∨ t2.led = true) → TRows w e1 t2 (L ++ [k]) := fun t2 a1 a2 a3 =>
      ⟨g1, pk.nodup_iff.mpr (List.nodup_cons.mpr ⟨hnk, T.nd⟩), fun i => by rw [pk.mem_iff, List.mem_cons, List.mem_append, List.mem_singleton, T.mem i]; exact Or.comm, by rw [hsz, List.length_append]; show es.size + 1 ≤ L.length + 1; omega, a1, a2, a3⟩
    have hb1 : e1.size < scanBound := by rw [hsz]; omega
    refine wpAny_bind (hgw _ ?_)
    split
    · refine wpAny_bind ?_
      rw [hashByValue_scannable 8 hsc]
      refine wpAny_pure ?_
      refine setX_store ?_ ho hex hd (T1 _ ?_ ?_ ?_) hb1 ?_
      · intro b s₁ Q' q; cases b <;> first | exact wpAny_pure q | exact wpAny_rule q
      · first | (split <;> first | exact hf1 | exact SetTable.fits_plain_off hf1) | exact hf1
      · first | (split <;> exact hr1) | exact hr1
      · first | (split <;> exact hled) | exact hled
      · intro h' sb r; dsimp only; exact wpAny_pure (hQ _ h' sb r)
    · refine wpAny_bind (wpAny_pure ?_)
      simp only [↓reduceIte]
      refine setX_store ?_ ho hex hd (T1 _ hf1 hr1 hled) hb1 ?_
      · intro b s₁ Q' q; cases b <;> first | exact wpAny_pure q | exact wpAny_rule q
      · intro h' sb r; dsimp only; exact wpAny_pure (hQ _ h' sb r)
theorem setX_fresh {h : Heap} {a : Addr} (w : World) (ho : h.get? a = some { cls := .type "set", dict := none, data := .set #[] 0 (.fresh 0 0 (!w.params.followText "set-order")) }) : SetX w h a [] :=
  ⟨_, #[], 0, _, ho, ⟨rfl, rfl, rfl⟩, rfl, (fun e he => by simp at he), (by simp), (fun k => by simp), (by simp), rfl, List.Pairwise.nil, by
    show _ ∨ (!w.params.followText "set-order") = true
    cases w.params.followText "set-order"
    · exact .inr rfl
    · exact .inl rfl⟩
/-- set.update's loop over texts -/
theorem setX_loop {I : Addr} {fp wr : List Addr} {G : Array GenState → Array GenState → Prop} {n : Nat} {Pv : Nat → Value → Prop} {St : Nat → Shared → Prop} {R : Result → Shared → Prop}
    (W : WalksS P w A.in1 I fp wr G n Pv St) (S : Addr) (hSf : S ∉ fp) (xs : List Str) (hsz : xs.length = n) (hn1 : n + 1 < scanBound)
    (hval : ∀ i v, Pv i v → ∃ t, v = .str (xs.getD i Str.empty) t) :
    ∀ (k i : Nat) (s : Shared), n - i = k → i ≤ n → St i s → SetX w s.heap S (xs.take i) →
      (∀ s', Moved (S :: wr) G s s' → SetX w s'.heap S xs → R (.ok (.ret .none)) s') →
      codeAny (model P w) A (.builtin "set.update.loop" ⟨[.ref S, .ref I], []⟩) R s := by
  have hSw : S ∉ wr := fun h => hSf (W.sub _ h)
  have hsub : ∀ b ∈ wr, b ∈ S :: wr := fun b hb => List.mem_cons_of_mem _ hb
  intro k
  induction k with
  | zero =>
    intro i s hk hi hst hS hR
    obtain rfl : i = n := by omega
    refine codeAny_builtin PyProof.Rows.F.entry_set_update_loop ?_
    rw [Around.under_plainId PyProof.Rows.F.plain_set_update_loop _]
    show wpAny _ A.in1 (pyNext (.ref I) >>= _) _ _ s
    refine wpAny_bind (W.done s _ _ hst fun s' hm => ?_)
    show wpAny _ A.in1 (ret Value.none) _ _ s'
    rw [← hsz, List.take_length] at hS
    exact wpAny_pure (hR s' (hm.mono hsub) (hS.keep fun o e => hm.heap S o hSw e))
  | succ k ih =>
    intro i s hk hi hst hS hR
    have hlt : i < n := by omega
    refine codeAny_builtin PyProof.Rows.F.entry_set_update_loop ?_
    rw [Around.under_plainId PyProof.Rows.F.plain_set_update_loop _]
    show wpAny _ A.in1 (pyNext (.ref I) >>= _) _ _ s
    refine wpAny_bind (W.item i s _ _ hlt hst fun v s' hP hst' hm => ?_)
    obtain ⟨t, rfl⟩ := hval i v hP
    have hS' : SetX w s'.heap S (xs.take i) := hS.keep fun o e => hm.heap S o hSw e
    have ex : xs.take (i + 1) = xs.take i ++ [xs.getD i Str.empty] := by
      have hl : i < xs.length := by omega
      rw [List.take_add_one, List.getElem?_eq_getElem hl, List.getD_eq_getElem?_getD, List.getElem?_eq_getElem hl]; rfl
    show wpAny _ A.in1 (holding [Value.str (xs.getD i Str.empty) t] (setAdd S (.str (xs.getD i Str.empty) t)) >>= _) _ _ s'
    refine wpAny_bind (wpAny_holding ?_)
    unfold setAdd
    refine wpAny_holding ?_
    refine wpAny_bind ((strKind P w).pyHash (k := xs.getD i Str.empty) (strKind_is _ _ _ _) ?_)
    refine setX_add (s := { s' with toks := s'.toks + 1 }) hS' (by rw [List.length_take]; omega) fun b h' hsb hS2 => ?_
    rw [← ex] at hS2
    refine wpAny_pure ⟨plainId_quiet PyProof.Rows.F.plain_set_update_loop _, ih (i + 1) _ (by omega) hlt (W.frame _ s' _ _ hst' (Nat.le_succ _) fun b hb o e => ?_) hS2 fun s'' hm'' hS'' => ?_⟩
    · rw [hsb.2 b (fun h : b = S => hSf (by rw [← h]; exact hb))]; exact e
    · refine hR s'' (Moved.trans W.gtrans ((hm.mono hsub).then_heap (Nat.le_succ _) fun b o hb e => ?_) hm'') hS''
      rw [hsb.2 b (fun h : b = S => hb (by rw [h]; exact List.mem_cons_self))]; exact e
/-- set(xs), a list of texts -/
theorem setX_call {l : Addr} {items : Array Value} (xs : List Str) {Q : Value → Shared → Prop} (hh : A.handled = none) (hl : s.heap.IsList l items) (hit : StrsAre items.toList xs) (hfew : xs.length + 1 < scanBound)
    (h : ∀ (h' : Heap) (tk : Nat), SetX w h' s.heap.objs.size xs → (∀ b o, s.heap.get? b = some o → h'.get? b = some o) → Q (.ref s.heap.objs.size) { s with heap := h', toks := tk }) :
    wpAny (model P w) A (call (.type "set") [.ref l]) Q E s := by
  have hisz : xs.length = items.size := by rw [← StrsAre.len_eq hit, Array.length_toList]
  obtain ⟨c, tl, hmro⟩ := PySem.F.called_set.mro
  have hmade := PySem.F.called_set.made
  have hsub := PySem.F.called_set.sub
  refine wpAny_call (codeAny_of_tree ?_)
  show wpAny _ _ (callAny (.type "set") _) _ _ _
  refine wpAny_pure ⟨Code.quiet_builtin _ (by decide +kernel), codeAny_builtin PySem.F.entry_type_call ?_⟩
  rw [Around.under_plain (weight_type_call_type "set" [.ref l] []) rfl]
  have h1 := PySem.F.called_set.notType
  have h2 := PySem.F.called_set.canCreate
  have hct := PySem.F.typeCall_set_1 (.ref l)
  repeat (any_goals (first | assumption | wp_step))

  refine codeAny_mono (code_set_led1 (.ref l) (E := E) (Q₁ := fun obj s₁ => obj = .ref s.heap.objs.size ∧ s₁ = { s with heap := s.heap.push { cls := .type "set", dict := none, data := .set #[] 0 (.fresh 0 0 (!w.params.followText "set-order")) } }) ⟨rfl, rfl⟩) fun r s₁ hr => ?_
  cases r with
  | error e => exact hr
  | ok fl =>
    cases fl with
    | ret obj =>
      obtain ⟨rfl, rfl⟩ := hr
      have hS : (s.heap.push { cls := .type "set", dict := none, data := .set #[] 0 (.fresh 0 0 (!w.params.followText "set-order")) }).get? s.heap.objs.size = some { cls := .type "set", dict := none, data := .set #[] 0 (.fresh 0 0 (!w.params.followText "set-order")) } := Heap.get?_push_size _ rfl
      have hT : Shared.TypeIs { s with heap := s.heap.push { cls := .type "set", dict := none, data := .set #[] 0 (.fresh 0 0 (!w.params.followText "set-order")) } } (.ref s.heap.objs.size) "set" := ⟨_, hS, rfl⟩
      have hli := PySem.F.called_set.init.lookup
      have hbi := PySem.F.called_set.init.bind (.ref s.heap.objs.size)
      repeat (any_goals (first | assumption | wp_step))

      refine codeAny_mono (codeAny_call_builtin (R := wants (fun r s₂ => r = .none ∧ ∃ h' tk, s₂ = { s with heap := h', toks := tk } ∧ SetX w h' s.heap.objs.size xs ∧
          (∀ b o, s.heap.get? b = some o → h'.get? b = some o)) E) PySem.F.called_set.init.plain PySem.F.entry_set_init (check_set_init_1 hT ?_)) fun r₂ s₂ hr₂ => ?_
      · obtain ⟨ol, hol, hcl, nl, hdl⟩ := hl
        obtain ⟨ocls, odict, odata, oslots⟩ := ol
        simp only at hcl hdl
        subst hcl; subst hdl
        have hol' : (s.heap.push { cls := .type "set", dict := none, data := .set #[] 0 (.fresh 0 0 (!w.params.followText "set-order")) }).get? l = some { cls := .type "list", dict := odict, data := .seq items nl, slots := oslots } := Heap.get?_push_of_some _ hol
        have hsls := PySem.F.sub_list_set
        have hslf := PySem.F.sub_list_frozenset
        have hne : (Value.type "list" == Value.type "dict") = false := by decide
        have hl1 : (s.heap.push { cls := .type "set", dict := none, data := .set #[] 0 (.fresh 0 0 (!w.params.followText "set-order")) }).IsList l items := ⟨_, hol', rfl, nl, rfl⟩
        unfold Builtin.«set.__init__» noKeywords Builtin.Frozenset.updateFrom
        generalize hPI : pyIter = PI
        wp_walk
        subst hPI

        refine wpAny_pyIter_list hl1 ?_
        refine wpAny_bind (wpAny_runValue ?_)
        have hlS : l < s.heap.objs.size := Heap.lt_size hol
        have hh3 : A.in1.in1.in1.handled = none := by simp [hh]
        have hneI : l ≠ (s.heap.push { cls := .type "set", dict := none, data := .set #[] 0 (.fresh 0 0 (!w.params.followText "set-order")) }).objs.size := by
          rw [Heap.size_push]; exact Nat.ne_of_lt (Nat.lt_succ_of_lt hlS)
        have hSf : s.heap.objs.size ∉ [(s.heap.push { cls := .type "set", dict := none, data := .set #[] 0 (.fresh 0 0 (!w.params.followText "set-order")) }).objs.size, l] := by
          rw [Heap.size_push]; simp only [List.mem_cons, List.mem_singleton, List.not_mem_nil, or_false, not_or]
          exact ⟨Nat.ne_of_lt (Nat.lt_succ_self _), Nat.ne_of_gt hlS⟩
        have hval : ∀ (i : Nat) (v : Value), items[i]? = some v → ∃ t, v = .str (xs.getD i Str.empty) t := fun i v hv => SS.strs_at hit i v (by rw [Array.getElem?_toList]; exact hv)
        refine setX_loop ((Walks.list hh3 _ l hneI items).toS) s.heap.objs.size
          hSf xs hisz (by rw [← hisz]; exact hfew) hval (items.size - 0) 0 _ (by omega) (Nat.zero_le _)
          ⟨⟨_, Heap.get?_push_size _ rfl, rfl, rfl⟩, (hl1.push _)⟩ ?hS0 ?hR
        case hS0 =>
          have hget := Heap.get?_push_of_some { cls := .type "list_iterator", data := .fields #[.ref l, .int 0 0] } hS
          rw [List.take_zero]
          exact setX_fresh w hget
        case hR =>
          intro s' hm hS'
          obtain ⟨h', g', d', tk', os'⟩ := s'
          have eg : g' = s.gens := hm.gens
          have ed : d' = s.drawn := hm.drawn
          have eo : os' = s.os := hm.os
          subst eg; subst ed; subst eo
          show wpAny _ _ _ _ _ _
          refine wpAny_pure ?_
          show wpAny _ _ (ret Value.none) _ _ _
          refine wpAny_pure ⟨rfl, h', tk', rfl, hS', fun b o e => ?_⟩
          have hb := Heap.lt_size e
          have hb1 : b ≠ s.heap.objs.size := Nat.ne_of_lt hb
          have hb2 : b ≠ (s.heap.push { cls := .type "set", dict := none, data := .set #[] 0 (.fresh 0 0 (!w.params.followText "set-order")) }).objs.size := by
            rw [Heap.size_push]; exact Nat.ne_of_lt (Nat.lt_succ_of_lt hb)
          exact hm.heap b o (by simp only [List.mem_cons, List.mem_singleton, List.not_mem_nil, or_false, not_or]; exact ⟨hb1, hb2⟩) (Heap.get?_push_of_some _ (Heap.get?_push_of_some _ e))

      · cases r₂ with
        | error e => exact hr₂
        | ok fl₂ =>
          cases fl₂ with
          | ret r =>
            obtain ⟨rfl, h', tk, rfl, hS', hk'⟩ := hr₂
            repeat (any_goals (first | assumption | wp_step))
            exact h _ _ hS' hk'
          | _ => exact hr₂.elim
    | _ => exact hr.elim
end
section
variable {X : Cx}
def sxVal : Value → Str | .str k _ => k | _ => Str.empty
theorem strs_vals : ∀ {vs : List Value}, (∀ v ∈ vs, ∃ k tk, v = Value.str k tk) → StrsAre vs (vs.map sxVal)
  | [], _ => .nil
  | v :: vs, g => by
    obtain ⟨k, tk, rfl⟩ := g v List.mem_cons_self
    exact .cons k tk (strs_vals fun x hx => g x (List.mem_cons_of_mem _ hx))
/-- sorted(set(e)), e a list of texts -/
def tSrtSet (K : PySem.W.Frag) (ta : TE) : TE := fun σ H Q => ta σ H fun x H1 => ∃ (l : Addr) (xs : List Str), x = .ref l ∧ SqL K H1 l (xs.map V.str) ∧ xs.length < 64 ∧
  ∀ (ys : List Str) (p : Addr), ys.Nodup → sortedS ys = true → (∀ k, k ∈ ys ↔ k ∈ xs) → H1 p = none → Q (.ref p) (upd H1 p (.lst (ys.map V.str)))
theorem pe_srtSet {a : Expr} {ta : TE} {p p2 q pos : Pos} (hc : X.calm = true) (hg : Gl X "sorted") (hm : X.mg "sorted" = none) (hg2 : Gl X "set") (hm2 : X.mg "set" = none) (ha : PE X a ta)
    (na : starEach [a] X.env = (false, eval a X.env) :: starEach [] X.env := by rfl) : PE X (.Call (.Name "sorted" p) [.Call (.Name "set" p2) [a] [] q] [] pos) (tSrtSet X.K ta) := by
  refine ⟨fun pins s σ H Q I h => ?_⟩
  refine Call_ (ld_blt I hg hm (show bootBuiltins "sorted" = some (.builtin "sorted") by decide +kernel) ?_)
  refine PyProof.Rows.callWith_builtin1 (PyProof.Rows.args_cons ?_ rfl) rfl rfl
  refine Call_ (ld_blt I hg2 hm2 (show bootBuiltins "set" = some (.type "set") by decide +kernel) ?_)
  refine PyProof.Rows.callWith_type1 (PyProof.Rows.args_cons (thn (ha.run pins s σ H _ I h) fun v s1 ⟨x, H1, I1, r1, q1⟩ => PyProof.Rows.args_nil ?_) na) na rfl
  obtain ⟨l, xs, rfl, hq, h64, q1⟩ := q1
  cases r1
  obtain ⟨its, r, pl, hz⟩ := I1.list hq
  refine setX_call xs (I1.ok.hd hc) pl.isList (by simpa using strsAre_of r) (by unfold scanBound; omega) fun h2 tk2 hS hk => ?_
  refine PyProof.Rows.args_nil ?_
  have I2 : Inv X pins σ H1 { s1 with heap := h2, toks := tk2 } := I1.kept fun b o e => hk b o e
  obtain ⟨o, es, ep, t, ho, hex, hd, T⟩ := hS
  have hle := T.le
  refine Calls.call_function_entry PyProof.Rows.kind_sorted PyProof.Rows.plain_sorted PyProof.Rows.entry_sorted (PyProof.Rows.args_sorted1 _) ?_
  unfold Builtin.«sorted»
  refine wpAny_bind (m := checkCount "sorted" 1 1 _) (wpAny_pure ?_)
  refine wpAny_bind (collect_set (A := X.A.in1) (I1.ok.hd hc) ⟨o, ho, hex.1, hd⟩ T.fit (by unfold scanBound; omega) T.ris T.led fun s3 vs k3 hz3 g3 o3 pm => ?_)
  have I3 : Inv X pins σ H1 s3 := I2.call' (ch := []) o3 (Un.kept k3) (I2.hok.kept k3) (by rw [g3]; exact I2.bare) (fun _ z => nomatch z)
  have hI : StrsAre vs (vs.map sxVal) := strs_vals fun v hv => by
    obtain ⟨e, he, q⟩ := List.mem_map.mp (pm.mem_iff.mp hv)
    obtain ⟨k, tk, h1, _⟩ := T.good e he
    exact ⟨k, tk, by rw [← q]; exact h1⟩
  have pk : (vs.map sxVal).Perm (es.toList.map sxKey) := by
    have q := pm.map sxVal
    rw [List.map_map] at q
    exact q
  have hvl : vs.length ≤ xs.length := by rw [pm.length_eq, List.length_map, Array.length_toList]; exact hle
  refine wpAny_bind (wpAny_newList ?_ (by rw [sizeLine_eq]; omega))
  have hoL : (s3.heap.push (seqObj "list" vs.toArray 0)).get? s3.heap.objs.size = some (seqObj "list" vs.toArray 0) := Heap.get?_push_size _ rfl
  refine wpAny_bind (wpAny_holding (wpAny_call_entry PyProof.Rows.slot_list_sort ⟨_, hoL, rfl⟩ PyProof.Rows.entry_list_sort
    (list_sort_treeK strKind_oneLt (s := { s3 with heap := s3.heap.push (seqObj "list" vs.toArray 0) }) hoL hI.keysOf (fun v₁ v₂ rest e => keyKind_strs (by rw [← e]; exact hI)) (by omega) fun st' hp hs => ⟨_, rfl, ?_⟩)
    (PyProof.Rows.args_list_sort _)))
  obtain ⟨ys, g1, g2, g4⟩ := sorted_out_str hI hp hs
  obtain ⟨e', he'⟩ := PyProof.Rows.sortedHeap_at (vs := vs) (out := (arrOf st').map (·.2)) hoL
  have hlen : (ys.map V.str).length ≤ sizeLine := by
    rw [List.length_map, g2.length_eq, List.length_map]
    exact Nat.le_trans hvl (Nat.le_trans (Nat.le_of_lt h64) (by decide))
  have pn := g2.trans pk
  have hn1 : H1 s3.heap.objs.size = none := I3.hok.fresh (Nat.le_refl _)
  refine wpAny_pure ⟨_, rfl, .ref s3.heap.objs.size, upd H1 s3.heap.objs.size (.lst (ys.map V.str)), I3.laid (t' := s3.toks) (fun b u e => ?_) (Nat.le_refl _)
    (show ObjOk X.prog X.w _ _ _ (.lst (ys.map V.str)) from ⟨hlen, ((arrOf st').map (·.2)).toList, e', vals_of_strs g1, by rw [Array.toArray_toList]; exact he'⟩), rfl, q1 ys _ (pn.nodup_iff.mpr T.nd) g4 (fun k => by rw [pn.mem_iff, ← T.mem k]) hn1⟩
  have hb : b < s3.heap.objs.size := Heap.lt_size e
  rw [PyProof.Rows.sortedHeap_old (Nat.ne_of_lt hb) (by rw [size_push']; exact Nat.lt_succ_of_lt hb)]
  exact Heap.get?_push_of_some _ e
end
end Ab
namespace Ab
open PySem PySem.Spec PyProof.Rows L2
section
variable {K : PySem.W.Frag} {T : Tt}
/-- sorted(set(e)), e a list of texts: its texts once each, in order -/
def xSrtSet (o : XE K T) : XE K T where
  t := fun W => tSrtSet K (o.t W)
  w := fun ρ M Φ Ξ => o.w ρ M (fun x M1 => asL x M1 fun es => asTx es fun xs => xs.length < 64 ∧ ∀ ys : List Str, ys.Nodup → sortedS ys = true → (∀ k, k ∈ ys ↔ k ∈ xs) → Φ (.lst (ys.map D.str)) M1) Ξ
  ok := fun h P σ H wr rs Q hq hx => o.ok h wr rs (fun v x P1 M1 H1 h1 s1 r1 => by
    obtain ⟨es, a, us, h2, rfl, hs, hr⟩ := h1.rd s1.wr r1
    unfold asTx at h2
    cases e : txts es with
    | none => rw [e] at h2; exact h2.elim
    | some xs =>
      rw [e] at h2
      have e2 := txts_rep hr e
      subst e2
      exact ⟨a, xs, rfl, hs, h2.1, fun ys p nd so hm hp => let s := Step.newP s1.wr (o := .lst (ys.map V.str)) hp; hq _ _ _ _ _ (h2.2 ys nd so hm) (s1.trans s) (.lst upd_same (repL_txts ys))⟩) hx
end
section
variable {X : Cx} {W : WX} {T : Tt} {xo : XE X.K T} {eo : Expr} {pos : Pos}
theorem dSrtSet {p p2 q : Pos} (hc : X.calm = true) (hm : X.mg "sorted" = none) (hm2 : X.mg "set" = none) (ho : PE X eo (xo.t W)) (hg : Gl X "sorted" := by rfl) (hg2 : Gl X "set" := by rfl)
    (na : starEach [eo] X.env = (false, eval eo X.env) :: starEach [] X.env := by rfl) : PE X (.Call (.Name "sorted" p) [.Call (.Name "set" p2) [eo] [] q] [] pos) ((xSrtSet xo).t W) :=
  pe_srtSet hc hg hm hg2 hm2 ho na
end
end Ab

set_option Elab.async false
set_option linter.all false
set_option maxRecDepth 100000
set_option maxHeartbeats 4000000
namespace Lw
open PySem PySem.Spec PyProof.Rows L2 Ab
def top (i : Nat) : Stmt := PySem.Challenge.pw_leasehall_k61_whole_few_keys_move.main.body.getD i (.Pass ⟨0, 0, 0, 0⟩)
local macro_rules | `(tactic| walk_at "vc") => `(tactic| try simp only [xVar, xInt, xStr, xBl, xNon, xOp, xCh, xAnd, xOr, xNot, xIf, aNil, aCons, xTup, xLst, xLstM, xB, xCall, qT, qB, qAnd, qOr, qNot, gN, gsN, gsC, gT, gIx, sNx, sBk, sCt, sRn, sSeq, sCut, sRet, sEx, sIf, sAs, sPar,
  oII, oAdd, oSub, oMul, oMod, oDiv, oPow, oLt, oLe, oGt, oGe, oSS, oAddS, oLtS, oGtS, oLeS, oGeS, oEq, oNe, oIsB, xIsN, xNotN, oIxL, oIxT, oIxS, oIn, oCatT, oCatL, oCatM, iLT, xFz, bLen, bLenS, bList, bListM, bTupL, bInt, bSortS, bSortTS, bOrd, bSortI, bSortD, bSortDI, bListDM, sWhile, xLc2, xLc2M, lc2W, iEk, xMaxKD, xMinKN, xMinD, oEqN, xSortIt, NoX, xApp, iL, iT, iR1, iR2, sFor, xLc, xLcM, lcW, sFrz, xNeg, qYes, xGx, xSl, XPt.w, lSlL, lSlT, lSlS, iS, iZ, oInS, oNotInS, oEqD, bMax2S, bMax2, bMin2, xD1T, xDNT, xJoin, xDN, xDGet, oInK, xDGet1, xDGet2, xDPop1, xDPop2, sDSt, bLenD, bDict, bListD, bSum, bMinI, bMaxI, sLk, xLk, iDK, iDI, iDV, xDc, dcW, oEqDc, xTy, xRemS, xMinV, bMinS, xMaxK, asPL_, xLstRev, iE, xIdx, xFnV, xCallV2, iEM, iEkM, xExt, bAny, xNotT, bLenT, bListDT, asP2_, oInN, qTr, bIsi_w, bIsiT_w, tyD_1, tyD_2, tyD_3, tyD_4, tyD_5, tyD_6, tyD_7, isTy_, asK_1, asK_2, asIs_, trD_1, trD_2, trD_3, trD_4, trD_5, mD_um, sAugF, oIxA, xFld, sSetF, xMeth, xMake, sRaise, sTry, hdW, xIsE, oNeD, xSrtSet, xPop, fld_1, arg2_, asPl_1, asPl_2,
  asI_, asB_, asS_, asR_, asT_, asL_1, asL_2, asL_3, asLt_1, asLt_3, asQ_1, asQ_2, asQ_3, asQ_4, asSc_1, asSc_2, asSc_3, asSc_4, arg1_, look_0, look_s, st0, isN, at_0, at_1, at_2, at_3, at_4, at_5, at_6, at_7, at_8, setD_0, setD_1, setD_2, setD_3, setD_4, mL_um, wipeD, CG.slots, CG.w, putN, toI_1, toI_2, asTx_, wlk_1, wlk_2, wlk_3, sc_ii, sc_ss, sc_bb, sc_nn, sc_ni, sc_in, sc_ns, sc_sn, sc_is, sc_si, V.int.injEq, V.str.injEq, V.bl.injEq,
  List.map_cons, List.map_nil, List.length_cons, List.length_nil, List.replicate, List.nil_append, List.cons_append, List.set_cons_zero, List.set_cons_succ, Nat.reduceAdd, Nat.reduceSub, Nat.zero_add, Nat.add_zero, true_and, and_true, Nat.reduceLeDiff, decide_eq_true_eq, Bool.not_eq_true', Bool.not_eq_eq_eq_not, Bool.not_true, Bool.not_false, decide_eq_false_iff_not, if_true, if_false, Bool.true_eq_false, Bool.false_eq_true, ite_true, ite_false, rngD_len])
local macro_rules | `(tactic| walk_at "cd") => `(tactic| (repeat (refine ⟨(by first | omega | decide | (simp only [List.length_append, List.length_map, List.length_cons, List.length_nil]; omega)), ?_⟩)))
local macro_rules | `(tactic| walk_at "kp") => `(tactic| repeat (first | assumption | exact Kp.refl _ | exact Sam.refl _ | refine GS.u ?_ ?_ | refine GS.e ?_ ?_ | refine Sam.u ?_ ?_ | refine Sam.e ?_ ?_ | refine Kp.ch ?_ ?_ | refine Kp.off ?_ ?_ | apply Ne.symm; assumption))
local macro_rules | `(tactic| walk_at "me") => `(tactic| simp (disch := first | assumption | (apply Ne.symm; assumption)) only [um_same, um_ne, em_same, em_ne, *])
theorem un1r {k : Nat} {A : Around} (r : Room k A) : A.units + 1 < cLine := by have := r.un; omega
section
variable {P : Program} {w : World} {K : PySem.W.Frag} {mg : Str → Option Value} {base : Heap} {T : Tt}
def Wp (b : XS K T) (n : Nat) (ds : List D) (M : Mh) (Φ : D → Mh → Prop) : Prop := b.w (st0 n ds) M ⟨fun _ M' => Φ .non M', Φ, fun _ _ => False, fun _ _ => False⟩ (fun _ _ _ _ => False)
def Wpx (b : XS K T) (n : Nat) (ds : List D) (M : Mh) (Φ : D → Mh → Prop) (Ξ : Value → Option Addr → Mh → Prop) : Prop := b.w (st0 n ds) M ⟨fun _ M' => Φ .non M', Φ, fun _ _ => False, fun _ _ => False⟩ (fun cls dd _ M' => Ξ cls dd M')
def sp_law_mix : Pm := fun ds M Φ _ => ∃ c, ds = [.int c] ∧ ∀ r, 0 ≤ r → r < 2147483629 → Φ (.int r) M
/-! _law_mix -/
abbrev s_law_mix : Stmt := top 16
abbrev nm_law_mix : List Str := ["cell", "number"]
theorem sc_law_mix : FnScope ["cell", "number"] ["cell"] (defScope s_law_mix) := ⟨rfl, rfl, rfl, by decide +kernel, rfl, by decide +kernel, by decide +kernel⟩
def b_law_mix : XS K T :=
  (sSeq (sAs (xOp oMod (xB bInt (aCons (xVar 0) aNil)) (xInt 2147483647)) (gN 1))
  (sSeq (sAs (xOp oMod (xB bInt (aCons (xOp oAdd (xOp oMul (xVar 1) (xInt 48271)) (xInt 11)) aNil)) (xInt 2147483647)) (gN 1))
  (sRet (xOp oMod (xB bInt (aCons (xOp oAdd (xOp oMul (xVar 1) (xInt 69621)) (xInt 5)) aNil)) (xInt 2147483629)))))
theorem len_law_mix : ∀ ds M Φ Ξ, sp_law_mix ds M Φ Ξ → ds.length = 1 := by
  rintro _ _ _ _ ⟨c, rfl, _⟩
  rfl
theorem vc_law_mix : ∀ ds M Φ Ξ, sp_law_mix ds M Φ Ξ → Wp (b_law_mix : XS K T) 2 ds M Φ := by
  rintro _ M Φ Ξ ⟨c, rfl, h⟩
  unfold Wp b_law_mix
  walk_at "vc"
  have m1 := Int.emod_nonneg c (b := 2147483647) (by decide)
  have m2 := Int.emod_lt_of_pos c (b := 2147483647) (by decide)
  refine ⟨by decide, .inr ⟨by decide, by decide⟩, by decide, .inr ⟨by decide, by decide⟩, by decide, h _ (Int.emod_nonneg _ (by decide)) (Int.emod_lt_of_pos _ (by decide))⟩
theorem cl_law_mix (F : Df K mg "_law_mix" s_law_mix) (z_int : mg "int" = none) : Cl P w K mg base T 1 "_law_mix" sp_law_mix :=
  cl0 F sc_law_mix (b_law_mix) (len_law_mix) (fun _ _ _ _ _ _ us hl => match us, hl with | [_], _ => rfl) (fun f cdv A outer s H E hr =>
  (dsCons (dAs (dOp (o := oMod) op_mod (dTy (bb := bInt) call_int1 z_int (dCons (dVar 0) dNil) (by decide +kernel)) dInt) (dN 1 sc_law_mix.nd))
  (dsCons (dAs (dOp (o := oMod) op_mod (dTy (bb := bInt) call_int1 z_int (dCons (dOp (o := oAdd) op_add (dOp (o := oMul) op_mul (dVar 1) dInt) dInt) dNil) (by decide +kernel)) dInt) (dN 1 sc_law_mix.nd))
  (dsOne (dRet (dOp (o := oMod) op_mod (dTy (bb := bInt) call_int1 z_int (dCons (dOp (o := oAdd) op_add (dOp (o := oMul) op_mul (dVar 1) dInt) dInt) dNil) (by decide +kernel)) dInt)))))) (vc_law_mix)
def sp_law_number : Pm := fun ds M Φ _ => ∃ c, ds = [.int c] ∧ ∀ r, 0 ≤ r → Φ (.int r) M
/-! _law_number -/
abbrev s_law_number : Stmt := top 17
abbrev nm_law_number : List Str := ["cell", "first"]
theorem sc_law_number : FnScope ["cell", "first"] ["cell"] (defScope s_law_number) := ⟨rfl, rfl, rfl, by decide +kernel, rfl, by decide +kernel, by decide +kernel⟩
def b_law_number : XS K T :=
  (sSeq (sIf (qT (xOp oGe (xVar 0) (xOp oPow (xInt 10) (xInt 18)))) (sRet (xVar 0)) sNx)
  (sSeq (sAs (xCall sp_law_mix (aCons (xVar 0) aNil)) (gN 1))
  (sRet (xOp oAdd (xOp oMul (xVar 1) (xInt 2147483629)) (xCall sp_law_mix (aCons (xOp oAdd (xVar 1) (xVar 0)) aNil))))))
theorem len_law_number : ∀ ds M Φ Ξ, sp_law_number ds M Φ Ξ → ds.length = 1 := by
  rintro _ _ _ _ ⟨c, rfl, _⟩
  rfl
theorem vc_law_number : ∀ ds M Φ Ξ, sp_law_number ds M Φ Ξ → Wp (b_law_number : XS K T) 2 ds M Φ := by
  rintro _ M Φ Ξ ⟨c, rfl, h⟩
  unfold Wp b_law_number
  walk_at "vc"
  refine ⟨⟨by decide, by decide, by decide⟩, ite2 (fun hc => h c (Int.le_trans (by decide) hc)) (fun hc => ⟨c, rfl, fun r h0 h1 => ?_⟩)⟩
  walk_at "vc"
  refine ⟨.inl ⟨by omega, by omega⟩, _, rfl, fun r2 h2 h3 => ?_⟩
  walk_at "vc"
  exact h _ (by omega)
theorem cl_law_number (F : Df K mg "_law_number" s_law_number) (c_law_mix : Cl P w K mg base T 1 "_law_mix" sp_law_mix) : Cl P w K mg base T 2 "_law_number" sp_law_number :=
  cl0 F sc_law_number (b_law_number) (len_law_number) (fun _ _ _ _ _ _ us hl => match us, hl with | [_], _ => rfl) (fun f cdv A outer s H E hr =>
  (dsCons (dsIf (dqT (o := oGe) op_ge (dVar 0) (dOp (o := oPow) op_pow dInt dInt)) (dsOne (dRet (dVar 0))) dsNil)
  (dsCons (dAs (dCall c_law_mix hr (by decide) takes0 (dCons (dVar 0) dNil)) (dN 1 sc_law_number.nd))
  (dsOne (dRet (dOp (o := oAdd) op_add (dOp (o := oMul) op_mul (dVar 1) dInt) (dCall c_law_mix hr (by decide) takes0 (dCons (dOp (o := oAdd) op_add (dVar 1) (dVar 0)) dNil)))))))) (vc_law_number)
def sp_law_state : Pm := fun ds M Φ _ => ∃ ns : List Int, ds = [.lsw (ns.map D.int)] ∧ ∀ p M', GS M' p → M p = none → (∀ a m, M a = some m → M' a = some m) → Φ (.ref p) M'
/-! _law_state -/
abbrev s_law_state : Stmt := top 18
abbrev nm_law_state : List Str := ["script"]
theorem sc_law_state : FnScope ["script"] ["script"] (defScope s_law_state) := ⟨rfl, rfl, rfl, by decide +kernel, rfl, by decide +kernel, by decide +kernel⟩
def b_law_state : XS K T :=
  (sRet (xLstM (aCons (xInt 0) (aCons (xB bList (aCons (xVar 0) aNil)) (aCons (xInt 0) (aCons (xOp oAdd (xInt 1) (xB bLen (aCons (xVar 0) aNil))) aNil))))))
theorem len_law_state : ∀ ds M Φ Ξ, sp_law_state ds M Φ Ξ → ds.length = 1 := by
  rintro _ _ _ _ ⟨ns, rfl, _⟩
  rfl
theorem vc_law_state : ∀ ds M Φ Ξ, sp_law_state ds M Φ Ξ → Wp (b_law_state : XS K T) 1 ds M Φ := by
  rintro _ M Φ Ξ ⟨ns, rfl, h⟩
  unfold Wp b_law_state
  walk_at "vc"
  intro p hp
  refine h p _ ⟨_, um_same, 0, ns, 0, _, rfl, by decide, by decide, by omega⟩ hp fun a m e => ?_
  rw [um_ne (fun z => by rw [z, hp] at e; cases e)]
  exact e
theorem cl_law_state (F : Df K mg "_law_state" s_law_state) (z_len : mg "len" = none) (z_list : mg "list" = none) : Cl P w K mg base T 1 "_law_state" sp_law_state :=
  cl0 F sc_law_state (b_law_state) (len_law_state) (fun _ _ _ _ _ _ us hl => match us, hl with | [_], _ => rfl) (fun f cdv A outer s H E hr =>
  (dsOne (dRet (dLstM (dCons dInt (dCons (dTy (bb := bList) call_list_of z_list (dCons (dVar 0) dNil) (by decide +kernel)) (dCons dInt (dCons (dOp (o := oAdd) op_add dInt (dB (bb := bLen) call_len_seq z_len (dCons (dVar 0) dNil) PySem.boot_len)) dNil)))))))) (vc_law_state)
def sp_law_draw : Pm := fun ds M Φ _ => ∃ st many, ds = [.ref st, .int many] ∧ GS M st ∧ 0 < many ∧ many < 1073741824 ∧ ∀ r M', 0 ≤ r → r < many → GS M' st → Sam st M M' → Φ (.int r) M'
/-- the second half of a draw -/
theorem draw_end {M M0 : Mh} {st : Addr} {many : Int} {Φ : D → Mh → Prop} {a i c : Int} {sc : List Int} (s0 : Sam st M0 M) (ha : 0 ≤ a) (hi : 0 ≤ i) (hc : 0 ≤ c) (h0 : 0 < many) (h1 : many < 1073741824)
    (h : ∀ r M', 0 ≤ r → r < many → GS M' st → Sam st M0 M' → Φ (.int r) M') :
    if a = 0 then CMul c 48271 ∧ 0 < (2147483647 : Int) ∧ CDiv ((c * 48271 + 7) % 2147483647) 11 ∧ 0 < many ∧ Φ (.int ((c * 48271 + 7) % 2147483647 / 11 % many)) (um M st (.lst [.int a, .lst (sc.map D.int), .int i, .int ((c * 48271 + 7) % 2147483647)]))
    else 0 < many ∧ CDiv a many ∧ Φ (.int (a % many)) (um M st (.lst [.int (a / many), .lst (sc.map D.int), .int i, .int c])) :=
  ite2 (fun _ => ⟨.inr ⟨by decide, by decide⟩, by decide, ⟨by decide, by decide⟩, h0, h _ _ (Int.emod_nonneg _ (by omega)) (Int.emod_lt_of_pos _ h0) ⟨_, um_same, _, _, _, _, rfl, ha, hi, Int.emod_nonneg _ (by decide)⟩ (s0.trans Sam.ch)⟩)
    (fun _ => ⟨h0, ⟨h0, h1⟩, h _ _ (Int.emod_nonneg _ (by omega)) (Int.emod_lt_of_pos _ h0) ⟨_, um_same, _, _, _, _, rfl, Int.ediv_nonneg ha (by omega), hi, hc⟩ (s0.trans Sam.ch)⟩)
/-! _law_draw -/
abbrev s_law_draw : Stmt := top 19
abbrev nm_law_draw : List Str := ["state", "many", "digit"]
theorem sc_law_draw : FnScope ["state", "many", "digit"] ["state", "many"] (defScope s_law_draw) := ⟨rfl, rfl, rfl, by decide +kernel, rfl, by decide +kernel, by decide +kernel⟩
def b_law_draw : XS K T :=
  (sSeq (sIf (qAnd (qT (xOp oLt (xOp oIxL (xVar 0) (xInt 0)) (xVar 1))) (qT (xOp oLt (xOp oIxL (xVar 0) (xInt 2)) (xB bLen (aCons (xOp oIxL (xVar 0) (xInt 1)) aNil))))) (sSeq (sAs (xCall sp_law_number (aCons (xOp oIxL (xOp oIxL (xVar 0) (xInt 1)) (xOp oIxL (xVar 0) (xInt 2))) aNil)) (gIx (xVar 0) (xInt 0)))
  (sAs (xOp oAdd (xOp oIxL (xVar 0) (xInt 2)) (xInt 1)) (gIx (xVar 0) (xInt 2)))) sNx)
  (sSeq (sIf (qT (xOp oEq (xOp oIxL (xVar 0) (xInt 0)) (xInt 0))) (sSeq (sAs (xOp oMod (xB bInt (aCons (xOp oAdd (xOp oMul (xOp oIxL (xVar 0) (xInt 3)) (xInt 48271)) (xInt 7)) aNil)) (xInt 2147483647)) (gIx (xVar 0) (xInt 3)))
  (sRet (xOp oMod (xB bInt (aCons (xOp oDiv (xOp oIxL (xVar 0) (xInt 3)) (xInt 11)) aNil)) (xVar 1)))) sNx)
  (sSeq (sAs (xOp oMod (xB bInt (aCons (xOp oIxL (xVar 0) (xInt 0)) aNil)) (xVar 1)) (gN 2))
  (sSeq (sAs (xOp oDiv (xOp oIxL (xVar 0) (xInt 0)) (xVar 1)) (gIx (xVar 0) (xInt 0)))
  (sRet (xVar 2))))))
theorem len_law_draw : ∀ ds M Φ Ξ, sp_law_draw ds M Φ Ξ → ds.length = 2 := by
  rintro _ _ _ _ ⟨st, many, rfl, _⟩
  rfl
theorem vc_law_draw : ∀ ds M Φ Ξ, sp_law_draw ds M Φ Ξ → Wp (b_law_draw : XS K T) 3 ds M Φ := by
  rintro _ M Φ Ξ ⟨st, many, rfl, ⟨_, hm, a, sc, i, c, rfl, ha, hi, hc⟩, h0, h1, h⟩
  unfold Wp b_law_draw
  walk_at "vc"
  simp only [mL_of hm]
  walk_at "vc"
  have e0 := draw_end (M := M) (sc := sc) (i := i) (Sam.refl M) ha hi hc h0 h1 h
  refine ite2 (fun hl => ite2 (fun hi2 => ?_) (fun _ => ?_)) (fun _ => ?_)
  · rw [List.length_map] at hi2
    have hq : ∃ q : Int, at_ (sc.map D.int) i = fun k => k (.int q) := by
      obtain ⟨q, e1, e2⟩ := atI_in (l := sc.map D.int) hi (by rw [List.length_map]; exact hi2)
      rw [List.getElem?_map] at e2
      cases e3 : sc[i.toNat]? with
      | none => rw [e3] at e2; cases e2
      | some q2 => rw [e3] at e2; cases e2; exact ⟨q2, by funext k; exact at_of e1⟩
    obtain ⟨q, hq⟩ := hq
    rw [hq]
    refine ⟨q, rfl, fun r hr => ?_⟩
    simp only [mL_of hm]
    walk_at "vc"
    have e1 := draw_end (M := um (um M st (.lst [.int r, .lst (sc.map D.int), .int i, .int c])) st (.lst [.int r, .lst (sc.map D.int), .int (i + 1), .int c])) (sc := sc) (i := i + 1) (Sam.trans Sam.ch Sam.ch) hr (by omega) hc h0 h1 h
    exact e1
  · exact e0
  · exact e0
theorem cl_law_draw (F : Df K mg "_law_draw" s_law_draw) (z_int : mg "int" = none) (z_len : mg "len" = none) (c_law_number : Cl P w K mg base T 2 "_law_number" sp_law_number) : Cl P w K mg base T 3 "_law_draw" sp_law_draw :=
  cl0 F sc_law_draw (b_law_draw) (len_law_draw) (fun _ _ _ _ _ _ us hl => match us, hl with | [_, _], _ => rfl) (fun f cdv A outer s H E hr =>
  (dsCons (dsIf ((dwAnd (dqT (o := oLt) op_lt (dIx (o := oIxL) ix_list (dVar 0) dInt) (dVar 1)) (dw1A (dqT (o := oLt) op_lt (dIx (o := oIxL) ix_list (dVar 0) dInt) (dB (bb := bLen) call_len_seq z_len (dCons (dIx (o := oIxL) ix_list (dVar 0) dInt) dNil) PySem.boot_len))))).pt (dsCons (dAs (dCall c_law_number hr (by decide) takes0 (dCons (dIx (o := oIxL) ix_list (dIx (o := oIxL) ix_list (dVar 0) dInt) (dIx (o := oIxL) ix_list (dVar 0) dInt)) dNil)) (dgIx (dVar 0) dInt))
  (dsOne (dAs (dOp (o := oAdd) op_add (dIx (o := oIxL) ix_list (dVar 0) dInt) dInt) (dgIx (dVar 0) dInt)))) dsNil)
  (dsCons (dsIf (dqT (o := oEq) op_eq (dIx (o := oIxL) ix_list (dVar 0) dInt) dInt) (dsCons (dAs (dOp (o := oMod) op_mod (dTy (bb := bInt) call_int1 z_int (dCons (dOp (o := oAdd) op_add (dOp (o := oMul) op_mul (dIx (o := oIxL) ix_list (dVar 0) dInt) dInt) dInt) dNil) (by decide +kernel)) dInt) (dgIx (dVar 0) dInt))
  (dsOne (dRet (dOp (o := oMod) op_mod (dTy (bb := bInt) call_int1 z_int (dCons (dOp (o := oDiv) op_fdiv (dIx (o := oIxL) ix_list (dVar 0) dInt) dInt) dNil) (by decide +kernel)) (dVar 1))))) dsNil)
  (dsCons (dAs (dOp (o := oMod) op_mod (dTy (bb := bInt) call_int1 z_int (dCons (dIx (o := oIxL) ix_list (dVar 0) dInt) dNil) (by decide +kernel)) (dVar 1)) (dN 2 sc_law_draw.nd))
  (dsCons (dAs (dOp (o := oDiv) op_fdiv (dIx (o := oIxL) ix_list (dVar 0) dInt) (dVar 1)) (dgIx (dVar 0) dInt))
  (dsOne (dRet (dVar 2)))))))) (vc_law_draw)
/-- the spot of a text -/
def spN (cs : List Nat) : Int := cs.foldl (fun (n : Int) (c : Nat) => (n * 37 + (c : Int)) % 4096) 7
theorem spN_b : ∀ cs : List Nat, 0 ≤ spN cs ∧ spN cs < 4096 := by
  have : ∀ r : List Nat, 0 ≤ spN r.reverse ∧ spN r.reverse < 4096 := by
    intro r
    cases r with
    | nil => decide
    | cons c r =>
      unfold spN
      rw [List.reverse_cons, List.foldl_append]
      simp only [List.foldl_cons, List.foldl_nil]
      omega
  intro cs
  have h := this cs.reverse
  rwa [List.reverse_reverse] at h
theorem cmul_small {i : Int} (h0 : 0 ≤ i) (h1 : i < 4096) : CMul i 37 := by
  unfold CMul
  exact .inl ⟨by omega, by omega⟩
theorem spN_take {cs : List Nat} {i c : Nat} (h : cs[i]? = some c) : spN (cs.take (i + 1)) = (spN (cs.take i) * 37 + (c : Int)) % 4096 := by
  unfold spN; rw [fold_take h]
def sp_spot : Pm := fun ds M Φ _ => ∃ s : Str, ds = [.str s] ∧ Φ (.int (spN s.cps.toList)) M
/-! spot -/
abbrev s_spot : Stmt := top 9
abbrev nm_spot : List Str := ["text", "number", "letter"]
theorem sc_spot : FnScope ["text", "number", "letter"] ["text"] (defScope s_spot) := ⟨rfl, rfl, rfl, by decide +kernel, rfl, by decide +kernel, by decide +kernel⟩
def b_spot : XS K T :=
  (sSeq (sAs (xInt 7) (gN 1))
  (sSeq (sFor (iS (xVar 0)) (gN 2)
    (sAs (xOp oMod (xOp oAdd (xOp oMul (xVar 1) (xInt 37)) (xB bOrd (aCons (xVar 2) aNil))) (xInt 4096)) (gN 1)))
  (sRet (xVar 1))))
theorem len_spot : ∀ ds M Φ Ξ, sp_spot ds M Φ Ξ → ds.length = 1 := by
  rintro _ _ _ _ ⟨s, rfl, _⟩
  rfl
theorem vc_spot : ∀ ds M Φ Ξ, sp_spot ds M Φ Ξ → Wp (b_spot : XS K T) 3 ds M Φ := by
  rintro _ M Φ Ξ ⟨s, rfl, h⟩
  unfold Wp b_spot
  walk_at "vc"
  refine ⟨fun i ρ' M' => ∃ o, ρ' = [some (.str s), some (.int (spN (s.cps.toList.take i))), o] ∧ M' = M, ⟨none, rfl, rfl⟩, fun _ _ _ _ => trivial, ?_, ?_⟩
  · rintro i d ρ' M' hd ⟨o, rfl, rfl⟩
    obtain ⟨c, ec, rfl⟩ := map_get' (show (s.cps.toList.map fun c => D.str ⟨#[c]⟩)[i]? = some d from hd)
    have hb := spN_b (s.cps.toList.take i)
    walk_at "vc"
    refine ⟨?_, rfl, by decide, ?_⟩
    · exact cmul_small hb.1 hb.2
    · rw [spN_take ec]; exact ⟨_, rfl⟩
  · rintro ρ' M' ⟨o, rfl, rfl⟩
    have el : (Ab.signs s).length = s.cps.toList.length := List.length_map _
    rw [el, List.take_length]
    walk_at "vc"
    exact h
theorem cl_spot (F : Df K mg "spot" s_spot) (z_ord : mg "ord" = none) (g_FACTOR : ∃ u, mg "FACTOR" = some u ∧ RelV (.int 37) u) (g_FIRST_NUMBER : ∃ u, mg "FIRST_NUMBER" = some u ∧ RelV (.int 7) u) (g_SPOTS : ∃ u, mg "SPOTS" = some u ∧ RelV (.int 4096) u) : Cl P w K mg base T 1 "spot" sp_spot :=
  cl0 F sc_spot (b_spot) (len_spot) (fun _ _ _ _ _ _ us hl => match us, hl with | [_], _ => rfl) (fun f cdv A outer s H E hr =>
  (dsCons (dAs (dGlI g_FIRST_NUMBER) (dN 1 sc_spot.nd))
  (dsCons (dFor PassesOwn.never rfl (diS (dVar 0)) (dN 2 sc_spot.nd)
    (dsOne (dAs (dOp (o := oMod) op_mod (dOp (o := oAdd) op_add (dOp (o := oMul) op_mul (dVar 1) (dGlI g_FACTOR)) (dB (bb := bOrd) call_ord1 z_ord (dCons (dVar 2) dNil) (by decide +kernel))) (dGlI g_SPOTS)) (dN 1 sc_spot.nd))))
  (dsOne (dRet (dVar 1)))))) (vc_spot)
/-- two letters, twice -/
def wrd (h k : Int) : Str := let w : Str := ⟨#[ltrs.cps.toList.getD h.toNat 0]⟩ ++ ⟨#[ltrs.cps.toList.getD k.toNat 0]⟩; w ++ w
def psp (h k : Int) : Int := spN (wrd h k).cps.toList
def In26 (h : Int) : Prop := 0 ≤ h ∧ h < 26
theorem at26 {r : Int} (hr : In26 r) (k : Nat → Prop) : Ab.atS (Str.ofString "abcdefghijklmnopqrstuvwxyz") r k = k (ltrs.cps.toList.getD r.toNat 0) := by
  obtain ⟨c, e1, e2⟩ := atI_in (l := ltrs.cps.toList) hr.1 hr.2
  refine (atS_of e1).trans ?_
  rw [List.getD_eq_getElem?_getD, e2]; rfl
def sp_place_spot : Pm := fun ds M Φ _ => ∃ h k : Int, ds = [.int h, .int k] ∧ In26 h ∧ In26 k ∧ Φ (.int (psp h k)) M
/-! place_spot -/
abbrev s_place_spot : Stmt := top 10
abbrev nm_place_spot : List Str := ["host", "place", "pair"]
theorem sc_place_spot : FnScope ["host", "place", "pair"] ["host", "place"] (defScope s_place_spot) := ⟨rfl, rfl, rfl, by decide +kernel, rfl, by decide +kernel, by decide +kernel⟩
def b_place_spot : XS K T :=
  (sSeq (sAs (xOp oAddS (xOp oIxS (xStr "abcdefghijklmnopqrstuvwxyz") (xVar 0)) (xOp oIxS (xStr "abcdefghijklmnopqrstuvwxyz") (xVar 1))) (gN 2))
  (sRet (xCall sp_spot (aCons (xOp oAddS (xVar 2) (xVar 2)) aNil))))
theorem len_place_spot : ∀ ds M Φ Ξ, sp_place_spot ds M Φ Ξ → ds.length = 2 := by
  rintro _ _ _ _ ⟨a, b, rfl, _⟩
  rfl
theorem vc_place_spot : ∀ ds M Φ Ξ, sp_place_spot ds M Φ Ξ → Wp (b_place_spot : XS K T) 3 ds M Φ := by
  rintro _ M Φ Ξ ⟨a, b, rfl, ha, hb, h⟩
  unfold Wp b_place_spot
  walk_at "vc"
  walk_at "vc"
  have l1 : (Str.ofString "abcdefghijklmnopqrstuvwxyz").length ≤ 100000 := by decide
  rw [at26 ha, at26 hb]
  refine ⟨l1, l1, ?_, ?_, _, rfl, h⟩
  · exact Nat.le_of_ble_eq_true rfl
  · exact Nat.le_of_ble_eq_true rfl
theorem cl_place_spot (F : Df K mg "place_spot" s_place_spot) (g_LETTERS : ∃ u, mg "LETTERS" = some u ∧ RelV (.str "abcdefghijklmnopqrstuvwxyz") u) (c_spot : Cl P w K mg base T 1 "spot" sp_spot) : Cl P w K mg base T 2 "place_spot" sp_place_spot :=
  cl0 F sc_place_spot (b_place_spot) (len_place_spot) (fun _ _ _ _ _ _ us hl => match us, hl with | [_, _], _ => rfl) (fun f cdv A outer s H E hr =>
  (dsCons (dAs (dOp (o := oAddS) op_add_str (dIx (o := oIxS) ix_str (dGlS g_LETTERS) (dVar 0)) (dIx (o := oIxS) ix_str (dGlS g_LETTERS) (dVar 1))) (dN 2 sc_place_spot.nd))
  (dsOne (dRet (dCall c_spot hr (by decide) takes0 (dCons (dOp (o := oAddS) op_add_str (dVar 2) (dVar 2)) dNil)))))) (vc_place_spot)
structure Cs where
  Ring : Addr
  NotFound : Addr
  Full : Addr
  CacheError : Addr
structure ZOk (K : PySem.W.Frag) (Z : Cs) : Prop where
  cl : Cls K Z.Ring
  na : NoAttr K Z.Ring "_places"
  nn : PySem.W.exmOne K (.ref Z.NotFound) (.ref Z.NotFound) = some true
  fn : PySem.W.exmOne K (.ref Z.NotFound) (.ref Z.Full) = some false
  ff : PySem.W.exmOne K (.ref Z.Full) (.ref Z.Full) = some true
  en : ExcC K Z.NotFound
  ef : ExcC K Z.Full
  i1 : PySem.W.kitOne K (.ref Z.NotFound) (.ref Z.CacheError) = some true
  i2 : PySem.W.kitOne K (.ref Z.NotFound) (.type "ValueError") = some true
  i3 : PySem.W.kitOne K (.ref Z.Full) (.ref Z.CacheError) = some true
  i4 : PySem.W.kitOne K (.ref Z.Full) (.type "ValueError") = some true
abbrev Pl2 := List (Int × Int)
def kdN (c : Pl2) : List (Key × D) := c.map fun p => (Sum.inl p.1, D.int p.2)
theorem inl_inj : ∀ a b : Int, (Sum.inl a : Key) = Sum.inl b → a = b := fun _ _ h => Sum.inl.inj h
theorem kdN_get (c : Pl2) (k : Int) : vK (kdN c) (Sum.inl k) = (vK c k).map D.int := vK_inj inl_inj D.int c k
theorem kdN_put (c : Pl2) (k n : Int) : pK (kdN c) (Sum.inl k) (D.int n) = kdN (pK c k n) := pK_inj inl_inj D.int c k n
theorem kdN_drop (c : Pl2) (k : Int) : dK (kdN c) (Sum.inl k) = kdN (dK c k) := by
  unfold dK kdN
  rw [List.filter_map]
  congr 1
  apply List.filter_congr
  intro x _
  simp [Function.comp]
theorem kdN_keys (c : Pl2) : (kdN c).map Prod.fst = (c.map Prod.fst).map Sum.inl := by unfold kdN; rw [List.map_map, List.map_map]; rfl
theorem kdN_some (c : Pl2) (k : Int) : (vK (kdN c) (Sum.inl k)).isSome = decide (k ∈ c.map Prod.fst) := by
  rw [kdN_get]
  cases e : vK c k with
  | none => rw [decide_eq_false (vK_none.mp e)]; rfl
  | some v => rw [decide_eq_true (List.mem_map.mpr ⟨_, vK_mem e, rfl⟩)]; rfl
theorem kdN_pair (c : Pl2) : (kdN c).map Ab.pairD = c.map fun e => D.tup [.int e.1, .int e.2] := by unfold kdN; rw [List.map_map]; rfl
theorem kdN_kd (c : Pl2) : (kdN c).map (fun kv => kD kv.1) = (c.map Prod.fst).map D.int := by unfold kdN; rw [List.map_map, List.map_map]; rfl
theorem um_id {M : Mh} {p : Addr} {m : MO} (h : M p = some m) : um M p m = M := by
  funext a
  by_cases e : a = p
  · subst e; rw [um_same, h]
  · rw [um_ne e]
theorem lk1 {m : Str} {a : D} (h : m ≠ "_places") : List.lookup m [(("_places" : Str), a)] = none := by
  simp only [List.lookup_cons, List.lookup_nil, beq_eq_false_iff_ne.mpr h]
structure OKP (c : Pl2) : Prop where
  nd : (c.map Prod.fst).Nodup
  hs : ∀ e ∈ c, In26 e.1
  ns : ∀ e ∈ c, 1 ≤ e.2 ∧ e.2 ≤ 6
  ln : c.length ≤ 8
/-- a ring and its dict -/
def Rg (Z : Cs) (M : Mh) (p q : Addr) (c : Pl2) : Prop := (∃ dx, M p = some (.ins Z.Ring dx [("_places", .ref q)])) ∧ M q = some (.dct (kdN c))
def sp_Ring___init__ (Z : Cs) : Pm := fun ds M Φ _ => ∃ p dx, ds = [.ref p] ∧ M p = some (.ins Z.Ring dx []) ∧ ∀ q, M q = none → Φ .non (um (um M q (.dct [])) p (.ins Z.Ring dx [("_places", .ref q)]))
/-! Ring.__init__ -/
abbrev s_Ring___init__ : Stmt := clsItem (top 11) 0
abbrev nm_Ring___init__ : List Str := ["self"]
theorem sc_Ring___init__ : FnScope ["self"] ["self"] (defScope s_Ring___init__) := ⟨rfl, rfl, rfl, by decide +kernel, rfl, by decide +kernel, by decide +kernel⟩
def b_Ring___init__ (Z : Cs) : XS K T :=
  (sSetF "_places" (xVar 0) xDN)
theorem len_Ring___init__ (Z : Cs) : ∀ ds M Φ Ξ, sp_Ring___init__ Z ds M Φ Ξ → ds.length = 1 := by
  rintro _ _ _ _ ⟨p, dx, rfl, _⟩
  rfl
theorem vc_Ring___init__ (Z : Cs) (hZ : ZOk K Z) : ∀ ds M Φ Ξ, sp_Ring___init__ Z ds M Φ Ξ → Wpx (b_Ring___init__ Z : XS K T) 1 ds M Φ Ξ := by
  rintro _ M Φ Ξ ⟨p, dx, rfl, hp, h⟩
  unfold Wpx b_Ring___init__
  walk_at "vc"
  intro q hq
  have n : p ≠ q := fun z => by rw [z, hq] at hp; cases hp
  rw [mI_of (by rw [um_ne n]; exact hp)]
  exact ⟨hZ.cl, hZ.na, by decide, h q hq⟩
theorem cl_Ring___init__ {Z : Cs} (hZ : ZOk K Z) (F : Di K mg "Ring" Z.Ring "Ring.__init__" s_Ring___init__) : Mc P w K mg base T 1 "Ring" Z.Ring (sp_Ring___init__ Z) :=
  mcX F sc_Ring___init__ (b_Ring___init__ Z) (len_Ring___init__ Z) (fun _ _ _ _ _ _ us hl => match us, hl with | [_], _ => rfl) (fun f cdv A outer s H E hr tk =>
  (dsOne (dSetF (dVar 0) dDN))) (vc_Ring___init__ Z hZ)
def sp_Ring_add (Z : Cs) : Pm := fun ds M Φ Ξ => ∃ (p q : Addr) (c : Pl2) (h n : Int), ds = [.ref p, .int h, .int n] ∧ Rg Z M p q c ∧ c.length ≤ 7 ∧ (h ∉ c.map Prod.fst → Φ .non (um M q (.dct (kdN (c ++ [(h, n)]))))) ∧ (h ∈ c.map Prod.fst → Ξ (.ref Z.Full) none M)
/-! Ring.add -/
abbrev s_Ring_add : Stmt := clsItem (top 11) 1
abbrev nm_Ring_add : List Str := ["self", "host", "places"]
theorem sc_Ring_add : FnScope ["self", "host", "places"] ["self", "host", "places"] (defScope s_Ring_add) := ⟨rfl, rfl, rfl, by decide +kernel, rfl, by decide +kernel, by decide +kernel⟩
def b_Ring_add (Z : Cs) : XS K T :=
  (sSeq (sIf (qT (xOp (oInK false) (xVar 1) (xFld "_places" (xVar 0)))) (sRaise Z.Full) sNx)
  (sDSt (xFld "_places" (xVar 0)) (xVar 1) (xVar 2)))
theorem len_Ring_add (Z : Cs) : ∀ ds M Φ Ξ, sp_Ring_add Z ds M Φ Ξ → ds.length = 3 := by
  rintro _ _ _ _ ⟨p, q, c, a, n, rfl, _⟩
  rfl
theorem vc_Ring_add (Z : Cs) (hZ : ZOk K Z) : ∀ ds M Φ Ξ, sp_Ring_add Z ds M Φ Ξ → Wpx (b_Ring_add Z : XS K T) 3 ds M Φ Ξ := by
  rintro _ M Φ Ξ ⟨p, q, c, a, n, rfl, ⟨⟨dx, hp⟩, hq⟩, hl, h1, h2⟩
  unfold Wpx b_Ring_add
  walk_at "vc"
  rw [mI_of hp]
  (try simp (disch := decide +kernel) only [fld_hd, fld_tl, putD_hd, putD_tl, putD_nil])
  walk_at "vc"
  refine ⟨hZ.cl, hZ.na, ?_⟩
  rw [dget_1 hq]
  show if (vK (kdN c) (Sum.inl a)).isSome = true then _ else _
  rw [kdN_some]
  refine ite2 (fun z => h2 (of_decide_eq_true z)) (fun z => ?_)
  have hn : a ∉ c.map Prod.fst := fun y => z (decide_eq_true y)
  rw [mI_of hp]
  (try simp (disch := decide +kernel) only [fld_hd, fld_tl, putD_hd, putD_tl, putD_nil])
  refine ⟨hZ.cl, hZ.na, ?_⟩
  show dput M q (.int a) (.int n) fun M4 => Φ .non M4
  rw [dput_1 hq]
  refine ⟨by show List.length (List.map _ c) < 100000; rw [List.length_map]; omega, ?_⟩
  show Φ .non (um M q (.dct (pK (kdN c) (Sum.inl a) (.int n))))
  rw [kdN_put, pK_new _ (vK_none.mpr hn)]
  exact h1 hn
theorem cl_Ring_add {Z : Cs} (hZ : ZOk K Z) (e_Full : Ec K mg "Full" Z.Full) (F : Dm K Z.Ring "add" "Ring.add" s_Ring_add) : Me P w K mg base T 1 Z.Ring "add" (sp_Ring_add Z) :=
  meX F sc_Ring_add (b_Ring_add Z) (len_Ring_add Z) (fun _ _ _ _ _ _ us hl => match us, hl with | [_, _, _], _ => rfl) (fun f cdv A outer s H E hr tk =>
  (dsCons (dsIf (dqT (o := (oInK false)) (op_inK (un1r hr)) (dVar 1) (dFld (dVar 0))) (dsOne (dRaise e_Full rfl tk)) dsNil)
  (dsOne (dDSt (un1r hr) (dFld (dVar 0)) (dVar 1) (dVar 2))))) (vc_Ring_add Z hZ)
def sp_Ring_remove (Z : Cs) : Pm := fun ds M Φ Ξ => ∃ (p q : Addr) (c : Pl2) (h : Int), ds = [.ref p, .int h] ∧ Rg Z M p q c ∧ (c.map Prod.fst).Nodup ∧ (h ∈ c.map Prod.fst → Φ .non (um M q (.dct (kdN (dK c h))))) ∧ (h ∉ c.map Prod.fst → Ξ (.ref Z.NotFound) none M)
/-! Ring.remove -/
abbrev s_Ring_remove : Stmt := clsItem (top 11) 2
abbrev nm_Ring_remove : List Str := ["self", "host"]
theorem sc_Ring_remove : FnScope ["self", "host"] ["self", "host"] (defScope s_Ring_remove) := ⟨rfl, rfl, rfl, by decide +kernel, rfl, by decide +kernel, by decide +kernel⟩
def b_Ring_remove (Z : Cs) : XS K T :=
  (sSeq (sIf (qT (xOp (oInK true) (xVar 1) (xFld "_places" (xVar 0)))) (sRaise Z.NotFound) sNx)
  (sEx (xDPop1 (xFld "_places" (xVar 0)) (xVar 1))))
theorem len_Ring_remove (Z : Cs) : ∀ ds M Φ Ξ, sp_Ring_remove Z ds M Φ Ξ → ds.length = 2 := by
  rintro _ _ _ _ ⟨p, q, c, a, rfl, _⟩
  rfl
theorem vc_Ring_remove (Z : Cs) (hZ : ZOk K Z) : ∀ ds M Φ Ξ, sp_Ring_remove Z ds M Φ Ξ → Wpx (b_Ring_remove Z : XS K T) 2 ds M Φ Ξ := by
  rintro _ M Φ Ξ ⟨p, q, c, a, rfl, ⟨⟨dx, hp⟩, hq⟩, nd, h1, h2⟩
  unfold Wpx b_Ring_remove
  walk_at "vc"
  rw [mI_of hp]
  (try simp (disch := decide +kernel) only [fld_hd, fld_tl, putD_hd, putD_tl, putD_nil])
  walk_at "vc"
  refine ⟨hZ.cl, hZ.na, ?_⟩
  rw [dget_1 hq]
  show if (vK (kdN c) (Sum.inl a)).isSome = false then _ else _
  rw [kdN_some]
  refine ite2 (fun z => h2 (of_decide_eq_false z)) (fun z => ?_)
  have hn : a ∈ c.map Prod.fst := by
    by_cases y : a ∈ c.map Prod.fst
    · exact y
    · exact absurd (decide_eq_false y) z
  rw [mI_of hp]
  (try simp (disch := decide +kernel) only [fld_hd, fld_tl, putD_hd, putD_tl, putD_nil])
  refine ⟨hZ.cl, hZ.na, isd_1 hq, ?_⟩
  rw [mD_of hq]
  obtain ⟨v, hv⟩ : ∃ v, vK c a = some v := by
    cases e : vK c a with
    | none => exact absurd hn (vK_none.mp e)
    | some v => exact ⟨v, rfl⟩
  refine ⟨.int v, by rw [kdN_get, hv]; rfl, ?_⟩
  rw [kdN_drop]
  exact h1 hn
theorem cl_Ring_remove {Z : Cs} (hZ : ZOk K Z) (e_NotFound : Ec K mg "NotFound" Z.NotFound) (F : Dm K Z.Ring "remove" "Ring.remove" s_Ring_remove) : Me P w K mg base T 1 Z.Ring "remove" (sp_Ring_remove Z) :=
  meX F sc_Ring_remove (b_Ring_remove Z) (len_Ring_remove Z) (fun _ _ _ _ _ _ us hl => match us, hl with | [_, _], _ => rfl) (fun f cdv A outer s H E hr tk =>
  (dsCons (dsIf (dqT (o := (oInK true)) (op_notInK (un1r hr)) (dVar 1) (dFld (dVar 0))) (dsOne (dRaise e_NotFound rfl tk)) dsNil)
  (dsOne (dEx (dDPop1 (dFld (dVar 0)) (dVar 1)))))) (vc_Ring_remove Z hZ)
def sp_Ring_hosts (Z : Cs) : Pm := fun ds M Φ _ => ∃ (p q : Addr) (c : Pl2), ds = [.ref p] ∧ Rg Z M p q c ∧ c.length ≤ 8 ∧ ∀ ys : List Int, ys.Perm (c.map Prod.fst) → ys.Pairwise (· ≤ ·) → Φ (.lst (ys.map D.int)) M
/-! Ring.hosts -/
abbrev s_Ring_hosts : Stmt := clsItem (top 11) 3
abbrev nm_Ring_hosts : List Str := ["self"]
theorem sc_Ring_hosts : FnScope ["self"] ["self"] (defScope s_Ring_hosts) := ⟨rfl, rfl, rfl, by decide +kernel, rfl, by decide +kernel, by decide +kernel⟩
def b_Ring_hosts (Z : Cs) : XS K T :=
  (sRet (xB bSortDI (aCons (xFld "_places" (xVar 0)) aNil)))
theorem len_Ring_hosts (Z : Cs) : ∀ ds M Φ Ξ, sp_Ring_hosts Z ds M Φ Ξ → ds.length = 1 := by
  rintro _ _ _ _ ⟨p, q, c, rfl, _⟩
  rfl
theorem vc_Ring_hosts (Z : Cs) (hZ : ZOk K Z) : ∀ ds M Φ Ξ, sp_Ring_hosts Z ds M Φ Ξ → Wpx (b_Ring_hosts Z : XS K T) 1 ds M Φ Ξ := by
  rintro _ M Φ Ξ ⟨p, q, c, rfl, ⟨⟨dx, hp⟩, hq⟩, hl, h⟩
  unfold Wpx b_Ring_hosts
  walk_at "vc"
  rw [mI_of hp]
  (try simp (disch := decide +kernel) only [fld_hd, fld_tl, putD_hd, putD_tl, putD_nil])
  walk_at "vc"
  refine ⟨hZ.cl, hZ.na, ?_⟩
  rw [mDr_1 hq]
  exact ⟨c.map Prod.fst, kdN_keys c, by rw [List.length_map]; omega, h⟩
theorem cl_Ring_hosts {Z : Cs} (hZ : ZOk K Z) (z_sorted : mg "sorted" = none) (F : Dm K Z.Ring "hosts" "Ring.hosts" s_Ring_hosts) : Me P w K mg base T 1 Z.Ring "hosts" (sp_Ring_hosts Z) :=
  meX F sc_Ring_hosts (b_Ring_hosts Z) (len_Ring_hosts Z) (fun _ _ _ _ _ _ us hl => match us, hl with | [_], _ => rfl) (fun f cdv A outer s H E hr tk =>
  (dsOne (dRet (dB (bb := bSortDI) (call_sortedDI rfl) z_sorted (dCons (dFld (dVar 0)) dNil) (by decide +kernel))))) (vc_Ring_hosts Z hZ)
def encT (t : Int × Int × Int) : D := .tup [.int t.1, .int t.2.1, .int t.2.2]
def encTP (t : Int × Int × Int) : PyData := .tuple [.int t.1, .int t.2.1, .int t.2.2]
def ptN (e : Int × Int) : List (Int × Int × Int) := (List.range e.2.toNat).map fun (k : Nat) => (psp e.1 k, e.1, (k : Int))
def pts (c : Pl2) : List (Int × Int × Int) := c.flatMap ptN
def srtP (c : Pl2) : List (Int × Int × Int) := (pts c).mergeSort (PySem.W.dataLe false encTP)
theorem dPs_T : ∀ l : List (Int × Int × Int), dPs (l.map encT) = some (l.map encTP)
  | [] => rfl
  | t :: l => by
    show (match dP (encT t), dPs (l.map encT) with | some x, some xs => some (x :: xs) | _, _ => none) = _
    rw [dPs_T l]; rfl
theorem srtD_T (l : List (Int × Int × Int)) : srtD (l.map encT) (l.map encTP) = (l.mergeSort (PySem.W.dataLe false encTP)).map encT := by
  unfold srtD
  have m1 := List.map_mergeSort (r := PySem.W.dataLe false encTP) (s := PySem.W.dataLe false Prod.snd) (f := fun z : Int × Int × Int => (encT z, encTP z)) (l := l) (fun _ _ _ _ => rfl)
  rw [List.zip_map', ← m1, List.map_map]; rfl
theorem alT (l : List (Int × Int × Int)) : PySem.W.AllAlike (l.map encTP) := PySem.W.AllAlike.of fun e f => by unfold encTP; simp [PySem.W.alike, PySem.W.alikeAll]
theorem soT (l : List (Int × Int × Int)) : PySem.W.Sortable (l.map encTP) := PySem.W.Sortable.tuples fun e => ⟨_, _, rfl⟩
theorem ptN_len {e : Int × Int} (h : 1 ≤ e.2 ∧ e.2 ≤ 6) : (ptN e).length ≤ 6 := by unfold ptN; rw [List.length_map, List.length_range]; omega
theorem pts_len : ∀ {c : Pl2}, (∀ e ∈ c, 1 ≤ e.2 ∧ e.2 ≤ 6) → (pts c).length ≤ 6 * c.length
  | [], _ => by simp [pts]
  | e :: c, h => by
    unfold pts
    rw [List.flatMap_cons, List.length_append, List.length_cons]
    have h1 := ptN_len (h e List.mem_cons_self)
    have h2 := pts_len (c := c) fun x hx => h x (List.mem_cons_of_mem _ hx)
    unfold pts at h2
    omega
theorem dpT {l : List (Int × Int × Int)} : ∀ b ∈ l.map encTP, b.depth ≤ 8 := fun b hb => by
  obtain ⟨t, _, rfl⟩ := List.mem_map.mp hb
  unfold encTP; simp [PyData.depth, PyData.depthAll]
theorem pt_take {e : Int × Int} {j : Nat} (h : j < e.2.toNat) : (ptN e).take (j + 1) = (ptN e).take j ++ [(psp e.1 j, e.1, (j : Int))] := take_at (by unfold ptN; rw [List.getElem?_map, List.getElem?_range h]; rfl)
theorem pts_take {c : Pl2} {i : Nat} {e : Int × Int} (h : c[i]? = some e) : (c.take (i + 1)).flatMap ptN = (c.take i).flatMap ptN ++ ptN e := by rw [take_at h, List.flatMap_append]; simp
def sp_Ring_points (Z : Cs) : Pm := fun ds M Φ _ => ∃ (p q : Addr) (c : Pl2), ds = [.ref p] ∧ Rg Z M p q c ∧ OKP c ∧ Φ (.lst ((srtP c).map encT)) M
/-! Ring.points -/
abbrev s_Ring_points : Stmt := clsItem (top 11) 4
abbrev nm_Ring_points : List Str := ["self", "host", "places", "place", "points"]
theorem sc_Ring_points : FnScope ["self", "host", "places", "place", "points"] ["self"] (defScope s_Ring_points) := ⟨rfl, rfl, rfl, by decide +kernel, rfl, by decide +kernel, by decide +kernel⟩
def b_Ring_points (Z : Cs) : XS K T :=
  (sSeq (sLk (sAs (xLc2 (iDI (xFld "_places" (xVar 0))) (.many [1, 2]) qYes (iR1 (xVar 2)) (.one 3) qYes (xTup (aCons (xCall sp_place_spot (aCons (xVar 1) (aCons (xVar 3) aNil))) (aCons (xVar 1) (aCons (xVar 3) aNil))))) (gN 4)))
  (sRet (xB bSortD (aCons (xVar 4) aNil))))
theorem len_Ring_points (Z : Cs) : ∀ ds M Φ Ξ, sp_Ring_points Z ds M Φ Ξ → ds.length = 1 := by
  rintro _ _ _ _ ⟨p, q, c, rfl, _⟩
  rfl
theorem vc_Ring_points (Z : Cs) (hZ : ZOk K Z) : ∀ ds M Φ Ξ, sp_Ring_points Z ds M Φ Ξ → Wpx (b_Ring_points Z : XS K T) 5 ds M Φ Ξ := by
  rintro _ M Φ Ξ ⟨p, q, c, rfl, ⟨⟨dx, hp⟩, hq⟩, ok, h⟩
  unfold Wpx b_Ring_points
  walk_at "vc"
  refine ⟨q, ?_⟩
  have npq : p ≠ q := fun z => by rw [z, hq] at hp; cases hp
  rw [lkd_1 hq, mI_of ((um_ne npq).trans hp)]
  (try simp (disch := decide +kernel) only [fld_hd, fld_tl, putD_hd, putD_tl, putD_nil])
  walk_at "vc"
  refine ⟨hZ.cl, hZ.na, ?_⟩
  rw [wlkI_1 um_same, kdN_pair]
  have hpl := pts_len ok.ns
  have hln := ok.ln
  refine ⟨fun i acc M' => M' = um M q (.dlk (kdN c)) ∧ acc = ((c.take i).flatMap ptN).map encT, ⟨rfl, rfl⟩, fun _ _ _ _ => trivial, ?_, ?_⟩
  · rintro i d acc M' hd ⟨rfl, rfl⟩
    obtain ⟨e, ee, rfl⟩ := map_get' hd
    have he := List.mem_of_getElem? ee
    have hs := ok.hs e he
    have hn := ok.ns e he
    have hi := (List.getElem?_eq_some_iff.mp ee).1
    have tl := pts_len (c := c.take i) fun x hx => ok.ns x (List.mem_of_mem_take hx)
    rw [List.length_take] at tl
    unfold pts at tl
    walk_at "vc"
    refine ⟨by omega, by omega, fun j acc M' => M' = um M q (.dlk (kdN c)) ∧ acc = ((c.take i).flatMap ptN ++ (ptN e).take j).map encT, ⟨rfl, by simp⟩, fun _ _ _ _ => trivial, ?_, ?_⟩
    · rintro j d acc M' hd2 ⟨rfl, rfl⟩
      obtain ⟨hj, rfl⟩ := rngD_get hd2
      have l2 : ((ptN e).take j).length ≤ j := by rw [List.length_take]; omega
      refine ⟨by rw [List.length_map, List.length_append]; omega, ?_⟩
      walk_at "vc"
      refine ⟨e.1, 0 + (j : Int), rfl, hs, ⟨by omega, by omega⟩, ?_⟩
      refine ⟨rfl, ?_⟩
      rw [pt_take (by omega), ← List.append_assoc, List.map_append (l₁ := _ ++ _), Int.zero_add]; rfl
    · rintro acc M' ⟨rfl, rfl⟩
      have lp : (ptN e).length = e.2.toNat := by unfold ptN; rw [List.length_map, List.length_range]
      rw [pts_take ee, ← lp, List.take_length]
      exact ⟨rfl, rfl⟩
  · rintro acc M' ⟨rfl, rfl⟩
    rw [List.length_map, List.take_length]
    refine ⟨um_same, ?_⟩
    rw [um_um, um_id hq]
    refine ⟨_, dPs_T _, alT _, soT _, by rw [List.length_map]; unfold pts at hpl; omega, dpT, ?_⟩
    have e := srtD_T (c.flatMap ptN)
    rw [e]
    exact h
theorem cl_Ring_points {Z : Cs} (hZ : ZOk K Z) (z_range : mg "range" = none) (z_sorted : mg "sorted" = none) (c_place_spot : Cl P w K mg base T 2 "place_spot" sp_place_spot) (F : Dm K Z.Ring "points" "Ring.points" s_Ring_points) : Me P w K mg base T 3 Z.Ring "points" (sp_Ring_points Z) :=
  meX F sc_Ring_points (b_Ring_points Z) (len_Ring_points Z) (fun _ _ _ _ _ _ us hl => match us, hl with | [_], _ => rfl) (fun f cdv A outer s H E hr tk =>
  (dsCons (dLkS (dSetLc2 false rfl sc_Ring_points.nd (i := 4) rfl (blkOk_by (N := nm_Ring_points) (sc := defScope s_Ring_points) (own := [("host", 1), ("places", 2), ("place", 3)]) (by decide +kernel)) (diDI (dFld (dVar 0))) rfl (fun _ _ _ _ _ => (cgMany rfl (cgsC 1 sc_Ring_points.nd (cgsC 2 sc_Ring_points.nd cgsN)))) (fun _ _ _ _ _ => dYes) (fun _ _ _ _ _ => (diR1 z_range (dVar 2))) (fun _ _ _ _ _ => (cgOne 3 sc_Ring_points.nd)) (fun _ _ _ _ _ => dYes) (fun _ _ _ _ _ => (dTup (dCons (dCall c_place_spot hr (by decide) takes0 (dCons (dVar 1) (dCons (dVar 3) dNil))) (dCons (dVar 1) (dCons (dVar 3) dNil)))))))
  (dsOne (dRet (dB (bb := bSortD) (cr_sortD rfl (un64 hr)) z_sorted (dCons (dVar 4) dNil) (by decide +kernel)))))) (vc_Ring_points Z hZ)
def ddp (xs : List Int) : List Int := xs.foldl (fun acc x => if x ∈ acc then acc else acc ++ [x]) []
def hms (c : Pl2) (key : Str) : List Int := ddp ((((srtP c).filter fun t => decide (spN key.cps.toList ≤ t.1)) ++ ((srtP c).filter fun t => decide (t.1 < spN key.cps.toList))).map fun t => t.2.1)
theorem ddp_take {xs : List Int} {i : Nat} {x : Int} (h : xs[i]? = some x) : ddp (xs.take (i + 1)) = if x ∈ ddp (xs.take i) then ddp (xs.take i) else ddp (xs.take i) ++ [x] := by unfold ddp; rw [fold_take h]
/-- the keys of {x: True for x in xs} -/
def kdB (c : List Int) : List (Key × D) := c.map fun x => (Sum.inl x, D.bl true)
theorem kdB_put (c : List Int) (x : Int) : pK (kdB c) (Sum.inl x) (D.bl true) = kdB (if x ∈ c then c else c ++ [x]) := by
  unfold pK
  have e : (kdB c).any (fun kv => decide (kv.1 = Sum.inl x)) = decide (x ∈ c) := by
    unfold kdB
    rw [List.any_map]
    induction c with
    | nil => rfl
    | cons y c ih =>
      rw [List.any_cons, ih]
      simp only [Function.comp, List.mem_cons]
      by_cases h : y = x
      · subst h; simp
      · have h2 : ¬ x = y := fun z => h z.symm
        simp [h, h2]
  rw [e]
  by_cases h : x ∈ c
  · rw [decide_eq_true h, if_pos rfl, if_pos h]
    unfold kdB
    rw [List.map_map]
    apply List.map_congr_left
    intro y _
    simp only [Function.comp]
    split <;> rfl
  · rw [decide_eq_false h, if_neg (by simp), if_neg h]
    unfold kdB; rw [List.map_append]; rfl
theorem kdB_kd (c : List Int) : (kdB c).map (fun kv => kD kv.1) = c.map D.int := by unfold kdB; rw [List.map_map]; rfl
theorem filt_take {α : Type} (p : α → Bool) {l : List α} {i : Nat} {a : α} (h : l[i]? = some a) : (l.take (i + 1)).filter p = (l.take i).filter p ++ if p a = true then [a] else [] := by
  rw [take_at h, List.filter_append]
  by_cases e : p a = true
  · rw [if_pos e, List.filter_cons_of_pos e]; rfl
  · rw [if_neg e, List.filter_cons_of_neg e]; rfl
theorem srtP_len {c : Pl2} (ok : OKP c) : (srtP c).length ≤ 48 := by
  unfold srtP
  rw [List.length_mergeSort]
  have := pts_len ok.ns
  have := ok.ln
  omega
def sp_Ring_homes (Z : Cs) : Pm := fun ds M Φ _ => ∃ (p q : Addr) (c : Pl2) (key : Str), ds = [.ref p, .str key] ∧ Rg Z M p q c ∧ OKP c ∧ ∀ l M', M l = none → Kp M M' → M' l = some (.lst ((hms c key).map D.int)) → Φ (.ref l) M'
/-! Ring.homes -/
abbrev s_Ring_homes : Stmt := clsItem (top 11) 5
abbrev nm_Ring_homes : List Str := ["self", "key", "start", "points", "at", "host", "_", "ahead", "behind"]
theorem sc_Ring_homes : FnScope ["self", "key", "start", "points", "at", "host", "_", "ahead", "behind"] ["self", "key"] (defScope s_Ring_homes) := ⟨rfl, rfl, rfl, by decide +kernel, rfl, by decide +kernel, by decide +kernel⟩
def b_Ring_homes (Z : Cs) : XS K T :=
  (sSeq (sAs (xCall sp_spot (aCons (xVar 1) aNil)) (gN 2))
  (sSeq (sAs (xMeth Z.Ring "points" (sp_Ring_points Z) (xVar 0) aNil) (gN 3))
  (sSeq (sAs (xLc (iL (xVar 3)) (.many [4, 5, 6]) (qT (xOp oGe (xVar 4) (xVar 2))) (xVar 5)) (gN 7))
  (sSeq (sAs (xLc (iL (xVar 3)) (.many [4, 5, 6]) (qT (xOp oLt (xVar 4) (xVar 2))) (xVar 5)) (gN 8))
  (sRet (xB bListDM (aCons (xDc (iL (xOp oCatL (xVar 7) (xVar 8))) (.one 5) qYes (xVar 5) (xBl true)) aNil)))))))
theorem len_Ring_homes (Z : Cs) : ∀ ds M Φ Ξ, sp_Ring_homes Z ds M Φ Ξ → ds.length = 2 := by
  rintro _ _ _ _ ⟨p, q, c, key, rfl, _⟩
  rfl
theorem vc_Ring_homes (Z : Cs) (hZ : ZOk K Z) : ∀ ds M Φ Ξ, sp_Ring_homes Z ds M Φ Ξ → Wpx (b_Ring_homes Z : XS K T) 9 ds M Φ Ξ := by
  rintro _ M Φ Ξ ⟨p, q, c, key, rfl, hR, ok, h⟩
  unfold Wpx b_Ring_homes
  walk_at "vc"
  obtain ⟨⟨dx, hp⟩, hq⟩ := id hR
  refine ⟨key, rfl, ?_⟩
  walk_at "vc"
  rw [mI_of hp]
  refine ⟨rfl, lk1 (by decide +kernel), p, q, c, rfl, hR, ok, ?_⟩
  walk_at "vc"
  have sl := srtP_len ok
  refine ⟨by rw [List.length_map]; omega, fun i acc M' => M' = M ∧ acc = (((srtP c).take i).filter fun t => decide (spN key.cps.toList ≤ t.1)).map fun t => D.int t.2.1, ⟨rfl, rfl⟩, fun _ _ _ _ => trivial, ?_, ?_⟩
  · rintro i d acc M' hd ⟨rfl, rfl⟩
    obtain ⟨⟨t1, t2, t3⟩, et, rfl⟩ := map_get' hd
    unfold encT
    walk_at "vc"
    rw [filt_take _ et, List.map_append]
    refine ite2 (fun z => ?_) (fun z => ?_)
    · rw [if_pos (decide_eq_true z)]; rfl
    · rw [if_neg (fun y => z (of_decide_eq_true y)), List.map_nil, List.append_nil]
  · rintro acc M' ⟨rfl, rfl⟩
    rw [List.length_map, List.take_length]
    refine ⟨by omega, fun i acc M2 => M2 = M' ∧ acc = (((srtP c).take i).filter fun t => decide (t.1 < spN key.cps.toList)).map fun t => D.int t.2.1, ⟨rfl, rfl⟩, fun _ _ _ _ => trivial, ?_, ?_⟩
    · rintro i d acc M2 hd ⟨rfl, rfl⟩
      obtain ⟨⟨t1, t2, t3⟩, et, rfl⟩ := map_get' hd
      unfold encT
      walk_at "vc"
      rw [filt_take _ et, List.map_append]
      refine ite2 (fun z => ?_) (fun z => ?_)
      · rw [if_pos (decide_eq_true z)]; rfl
      · rw [if_neg (fun y => z (of_decide_eq_true y)), List.map_nil, List.append_nil]
    · rintro acc M2 ⟨rfl, rfl⟩
      rw [List.take_length]
      have f1 := List.length_filter_le (fun t : Int × Int × Int => decide (spN key.cps.toList ≤ t.1)) (srtP c)
      have f2 := List.length_filter_le (fun t : Int × Int × Int => decide (t.1 < spN key.cps.toList)) (srtP c)
      have eA : ((srtP c).filter fun t => decide (spN key.cps.toList ≤ t.1)).map (fun t => D.int t.2.1) ++ ((srtP c).filter fun t => decide (t.1 < spN key.cps.toList)).map (fun t => D.int t.2.1) = ((((srtP c).filter fun t => decide (spN key.cps.toList ≤ t.1)) ++ ((srtP c).filter fun t => decide (t.1 < spN key.cps.toList))).map fun t => t.2.1).map D.int := by rw [← List.map_append, List.map_map]; rfl
      refine ⟨by rw [List.length_map, List.length_map]; omega, by rw [List.length_append, List.length_map, List.length_map]; omega, ?_⟩
      rw [eA]
      unfold hms at h
      generalize ((((srtP c).filter fun t => decide (spN key.cps.toList ≤ t.1)) ++ ((srtP c).filter fun t => decide (t.1 < spN key.cps.toList))).map fun t => t.2.1) = xs at h
      refine ⟨fun i acc M3 => M3 = M2 ∧ acc = kdB (ddp (xs.take i)), ⟨rfl, rfl⟩, fun _ _ _ _ => trivial, ?_, ?_⟩
      · rintro i d acc M3 hd ⟨rfl, rfl⟩
        obtain ⟨x, ex, rfl⟩ := map_get' hd
        refine ⟨rfl, ?_⟩
        rw [ddp_take ex, ← kdB_put]
      · rintro acc M3 ⟨rfl, rfl⟩
        rw [List.length_map, List.take_length]
        intro p2 hp2
        walk_at "vc"
        rw [mDr_1 um_same, kdB_kd]
        intro l hl2
        exact h l _ (um_none hl2).2.2 ((Kp.new hp2).trans (Kp.new hl2)) um_same
theorem cl_Ring_homes {Z : Cs} (hZ : ZOk K Z) (z_list : mg "list" = none) (c_Ring_points : Me P w K mg base T 3 Z.Ring "points" (sp_Ring_points Z)) (c_spot : Cl P w K mg base T 1 "spot" sp_spot) (F : Dm K Z.Ring "homes" "Ring.homes" s_Ring_homes) : Me P w K mg base T 4 Z.Ring "homes" (sp_Ring_homes Z) :=
  meX F sc_Ring_homes (b_Ring_homes Z) (len_Ring_homes Z) (fun _ _ _ _ _ _ us hl => match us, hl with | [_, _], _ => rfl) (fun f cdv A outer s H E hr tk =>
  (dsCons (dAs (dCall c_spot hr (by decide) tk (dCons (dVar 1) dNil)) (dN 2 sc_Ring_homes.nd))
  (dsCons (dAs (dMeth0 c_Ring_points hr (by decide) tk (dVar 0)) (dN 3 sc_Ring_homes.nd))
  (dsCons (dSetLc false rfl sc_Ring_homes.nd (i := 7) rfl (blkOk_by (N := nm_Ring_homes) (sc := defScope s_Ring_homes) (own := [("at", 4), ("host", 5), ("_", 6)]) (by decide +kernel)) (diL (dVar 3)) rfl (fun _ _ _ _ _ => (cgMany rfl (cgsC 4 sc_Ring_homes.nd (cgsC 5 sc_Ring_homes.nd (cgsC 6 sc_Ring_homes.nd cgsN))))) (fun _ _ _ _ _ => (dTest (dqT (o := oGe) op_ge (dVar 4) (dVar 2)))) (fun _ _ _ _ _ => (dVar 5)))
  (dsCons (dSetLc false rfl sc_Ring_homes.nd (i := 8) rfl (blkOk_by (N := nm_Ring_homes) (sc := defScope s_Ring_homes) (own := [("at", 4), ("host", 5), ("_", 6)]) (by decide +kernel)) (diL (dVar 3)) rfl (fun _ _ _ _ _ => (cgMany rfl (cgsC 4 sc_Ring_homes.nd (cgsC 5 sc_Ring_homes.nd (cgsC 6 sc_Ring_homes.nd cgsN))))) (fun _ _ _ _ _ => (dTest (dqT (o := oLt) op_lt (dVar 4) (dVar 2)))) (fun _ _ _ _ _ => (dVar 5)))
  (dsOne (dRet (dTy (bb := bListDM) (call_listD rfl) z_list (dCons (dDc rfl sc_Ring_homes.nd (blkOk_by (N := nm_Ring_homes) (sc := defScope s_Ring_homes) (own := [("host", 5)]) (by decide +kernel)) (diL (dOp (o := oCatL) op_cat (dVar 7) (dVar 8))) rfl (fun _ _ _ _ _ => (cgOne 5 sc_Ring_homes.nd)) (fun _ _ _ _ _ => dYes) (fun _ _ _ _ _ => (dVar 5)) (fun _ _ _ _ _ => dBl)) dNil) (by decide +kernel))))))))) (vc_Ring_homes Z hZ)
theorem ddp_mem (x : Int) : ∀ r : List Int, x ∈ ddp r.reverse ↔ x ∈ r
  | [] => by simp [ddp]
  | y :: r => by
    have ih := ddp_mem x r
    have e : ddp (y :: r).reverse = if y ∈ ddp r.reverse then ddp r.reverse else ddp r.reverse ++ [y] := by
      unfold ddp; rw [List.reverse_cons, List.foldl_append]; rfl
    rw [e, List.mem_cons, ← ih]
    by_cases h : y ∈ ddp r.reverse
    · rw [if_pos h]
      constructor
      · exact .inr
      · rintro (rfl | z)
        · exact h
        · exact z
    · rw [if_neg h, List.mem_append, List.mem_singleton]
      exact ⟨fun z => z.symm, fun z => z.symm⟩
theorem hms_ne {c : Pl2} (ok : OKP c) (hc : c ≠ []) (key : Str) : hms c key ≠ [] := by
  cases c with
  | nil => exact absurd rfl hc
  | cons e r =>
    have hn := ok.ns e List.mem_cons_self
    have h0 : (psp e.1 (0 : Nat), e.1, ((0 : Nat) : Int)) ∈ srtP (e :: r) := by
      unfold srtP
      rw [(List.mergeSort_perm _ _).mem_iff]
      refine List.mem_flatMap.mpr ⟨e, List.mem_cons_self, List.mem_map.mpr ⟨0, List.mem_range.mpr (by omega), rfl⟩⟩
    intro z
    have hx : e.1 ∈ hms (e :: r) key := by
      unfold hms
      rw [show ∀ l : List Int, ddp l = ddp l.reverse.reverse from fun l => by rw [List.reverse_reverse], ddp_mem, List.mem_reverse, List.mem_map]
      refine ⟨(psp e.1 (0 : Nat), e.1, ((0 : Nat) : Int)), ?_, rfl⟩
      rw [List.mem_append, List.mem_filter, List.mem_filter]
      by_cases g : spN key.cps.toList ≤ psp e.1 (0 : Nat)
      · exact .inl ⟨h0, decide_eq_true g⟩
      · exact .inr ⟨h0, decide_eq_true (by omega)⟩
    rw [z] at hx; cases hx
theorem ddp_len : ∀ r : List Int, (ddp r.reverse).length ≤ r.length
  | [] => Nat.le_refl _
  | y :: r => by
    have ih := ddp_len r
    have e : ddp (y :: r).reverse = if y ∈ ddp r.reverse then ddp r.reverse else ddp r.reverse ++ [y] := by
      unfold ddp; rw [List.reverse_cons, List.foldl_append]; rfl
    rw [e]
    split
    · rw [List.length_cons]; omega
    · rw [List.length_append]; simp; omega
theorem hms_len {c : Pl2} (ok : OKP c) (key : Str) : (hms c key).length ≤ 96 := by
  have sl := srtP_len ok
  have f1 := List.length_filter_le (fun t : Int × Int × Int => decide (spN key.cps.toList ≤ t.1)) (srtP c)
  have f2 := List.length_filter_le (fun t : Int × Int × Int => decide (t.1 < spN key.cps.toList)) (srtP c)
  unfold hms
  have h := ddp_len ((((srtP c).filter fun t => decide (spN key.cps.toList ≤ t.1)) ++ ((srtP c).filter fun t => decide (t.1 < spN key.cps.toList))).map fun t => t.2.1).reverse
  rw [List.reverse_reverse, List.length_reverse, List.length_map, List.length_append] at h
  omega
def sp_Ring_home (Z : Cs) : Pm := fun ds M Φ Ξ => ∃ (p q : Addr) (c : Pl2) (key : Str), ds = [.ref p, .str key] ∧ Rg Z M p q c ∧ OKP c ∧ (c = [] → Ξ (.ref Z.NotFound) none M) ∧ (∀ x M', c ≠ [] → (hms c key).head? = some x → Kp M M' → Φ (.int x) M')
/-! Ring.home -/
abbrev s_Ring_home : Stmt := clsItem (top 11) 6
abbrev nm_Ring_home : List Str := ["self", "key"]
theorem sc_Ring_home : FnScope ["self", "key"] ["self", "key"] (defScope s_Ring_home) := ⟨rfl, rfl, rfl, by decide +kernel, rfl, by decide +kernel, by decide +kernel⟩
def b_Ring_home (Z : Cs) : XS K T :=
  (sSeq (sIf (qNot (qTr (xFld "_places" (xVar 0)))) (sRaise Z.NotFound) sNx)
  (sRet (xOp oIxL (xMeth Z.Ring "homes" (sp_Ring_homes Z) (xVar 0) (aCons (xVar 1) aNil)) (xInt 0))))
theorem len_Ring_home (Z : Cs) : ∀ ds M Φ Ξ, sp_Ring_home Z ds M Φ Ξ → ds.length = 2 := by
  rintro _ _ _ _ ⟨p, q, c, key, rfl, _⟩
  rfl
theorem vc_Ring_home (Z : Cs) (hZ : ZOk K Z) : ∀ ds M Φ Ξ, sp_Ring_home Z ds M Φ Ξ → Wpx (b_Ring_home Z : XS K T) 2 ds M Φ Ξ := by
  rintro _ M Φ Ξ ⟨p, q, c, key, rfl, hR, ok, h1, h2⟩
  unfold Wpx b_Ring_home
  walk_at "vc"
  obtain ⟨⟨dx, hp⟩, hq⟩ := id hR
  rw [mI_of hp]
  (try simp (disch := decide +kernel) only [fld_hd, fld_tl, putD_hd, putD_tl, putD_nil])
  walk_at "vc"
  refine ⟨hZ.cl, hZ.na, ?_⟩
  rw [trM_2 hq]
  refine ite2 (fun z => h1 ?_) (fun z => ?_)
  · cases c with
    | nil => rfl
    | cons e r => cases z
  · rw [mI_of hp]
    have hc : c ≠ [] := fun y => by subst y; exact z rfl
    refine ⟨rfl, lk1 (by decide +kernel), p, q, c, key, rfl, hR, ok, fun l M' hl kp hm => ?_⟩
    walk_at "vc"
    rw [mL_of hm]
    have hne := hms_ne ok hc key
    cases e : hms c key with
    | nil => exact absurd e hne
    | cons x r =>
      rw [e] at h2
      rw [show (0 : Int) = ((0 : Nat) : Int) from rfl, at_nat (show (List.map D.int (x :: r))[0]? = some (.int x) from rfl)]
      exact h2 x M' hc rfl kp
theorem cl_Ring_home {Z : Cs} (hZ : ZOk K Z) (e_NotFound : Ec K mg "NotFound" Z.NotFound) (c_Ring_homes : Me P w K mg base T 4 Z.Ring "homes" (sp_Ring_homes Z)) (F : Dm K Z.Ring "home" "Ring.home" s_Ring_home) : Me P w K mg base T 5 Z.Ring "home" (sp_Ring_home Z) :=
  meX F sc_Ring_home (b_Ring_home Z) (len_Ring_home Z) (fun _ _ _ _ _ _ us hl => match us, hl with | [_, _], _ => rfl) (fun f cdv A outer s H E hr tk =>
  (dsCons (dsIf (dqNot (dTr (dFld (dVar 0)))) (dsOne (dRaise e_NotFound rfl tk)) dsNil)
  (dsOne (dRet (dIx (o := oIxL) ix_list (dMeth c_Ring_homes hr (by decide) tk (dVar 0) (dCons (dVar 1) dNil)) dInt))))) (vc_Ring_home Z hZ)
/-! the walk without a host -/
theorem T_lt (e f : Int × Int × Int) : PySem.W.dataLe false encTP e f = !(decide (f.1 < e.1 ∨ (f.1 = e.1 ∧ (f.2.1 < e.2.1 ∨ (f.2.1 = e.2.1 ∧ f.2.2 < e.2.2))))) := by
  have h := PySem.W.DatumOrd.lt_eq (α := PySem.W.T3 Int Int Int) ⟨f.1, f.2.1, f.2.2⟩ ⟨e.1, e.2.1, e.2.2⟩
  have h2 : PySem.W.dataLt (encTP f) (encTP e) = (if f.1 = e.1 then (if f.2.1 = e.2.1 then decide (f.2.2 < e.2.2) else decide (f.2.1 < e.2.1)) else decide (f.1 < e.1)) := h
  rw [PySem.W.dataLe_eq]
  show (!PySem.W.dataLt (encTP f) (encTP e)) = _
  rw [h2]
  congr 1
  by_cases q : f.1 = e.1
  · rw [if_pos q]
    by_cases q2 : f.2.1 = e.2.1
    · rw [if_pos q2]; apply Bool.eq_iff_iff.mpr; simp only [decide_eq_true_eq]; omega
    · rw [if_neg q2]; apply Bool.eq_iff_iff.mpr; simp only [decide_eq_true_eq]; omega
  · rw [if_neg q]; apply Bool.eq_iff_iff.mpr; simp only [decide_eq_true_eq]; omega
theorem T_anti {e f : Int × Int × Int} (h : PySem.W.dataLe false encTP e f = true) (g : PySem.W.dataLe false encTP f e = true) : e = f := by
  rw [T_lt] at h g
  obtain ⟨a, b, c⟩ := e
  obtain ⟨a', b', c'⟩ := f
  simp only [Bool.not_eq_true', decide_eq_false_iff_not, not_or, not_and, Int.not_lt] at h g
  have e1 : a = a' := by omega
  subst e1
  have e2 : b = b' := by have := (h.2 rfl).1; have := (g.2 rfl).1; omega
  subst e2
  have e3 : c = c' := by have := (h.2 rfl).2 rfl; have := (g.2 rfl).2 rfl; omega
  rw [e3]
theorem T_tot (e f : Int × Int × Int) : (PySem.W.dataLe false encTP e f || PySem.W.dataLe false encTP f e) = true := by
  rw [T_lt, T_lt]
  obtain ⟨a, b, c⟩ := e
  obtain ⟨a', b', c'⟩ := f
  simp only [Bool.or_eq_true, Bool.not_eq_true', decide_eq_false_iff_not]
  omega
theorem T_tr (e f g : Int × Int × Int) (h1 : PySem.W.dataLe false encTP e f = true) (h2 : PySem.W.dataLe false encTP f g = true) : PySem.W.dataLe false encTP e g = true := by
  rw [T_lt] at h1 h2 ⊢
  obtain ⟨a, b, c⟩ := e
  obtain ⟨a', b', c'⟩ := f
  obtain ⟨a2, b2, c2⟩ := g
  simp only [Bool.not_eq_true', decide_eq_false_iff_not] at h1 h2 ⊢
  omega
theorem sort_uniq : ∀ {l r : List (Int × Int × Int)}, l.Perm r → l.Pairwise (fun a b => PySem.W.dataLe false encTP a b = true) → r.Pairwise (fun a b => PySem.W.dataLe false encTP a b = true) → l = r
  | [], r, p, _, _ => (List.nil_perm.mp p).symm
  | a :: l, [], p, _, _ => absurd p.length_eq (by simp)
  | a :: l, b :: r, p, h1, h2 => by
    have e : a = b := by
      have x1 : a ∈ b :: r := p.mem_iff.mp List.mem_cons_self
      have x2 : b ∈ a :: l := p.mem_iff.mpr List.mem_cons_self
      rcases List.mem_cons.mp x1 with z | z
      · exact z
      · rcases List.mem_cons.mp x2 with y | y
        · exact y.symm
        · exact T_anti ((List.pairwise_cons.mp h1).1 b y) ((List.pairwise_cons.mp h2).1 a z)
    subst e
    rw [sort_uniq p.cons_inv (List.pairwise_cons.mp h1).2 (List.pairwise_cons.mp h2).2]
theorem srtP_pw (c : Pl2) : (srtP c).Pairwise (fun a b => PySem.W.dataLe false encTP a b = true) := List.pairwise_mergeSort (fun a b c => T_tr a b c) T_tot _
theorem pts_drop (c : Pl2) (x : Int) : pts (dK c x) = (pts c).filter fun t => decide (t.2.1 ≠ x) := by
  unfold pts dK
  induction c with
  | nil => rfl
  | cons e c ih =>
    rw [List.flatMap_cons, List.filter_append, ← ih]
    by_cases h : e.1 = x
    · rw [List.filter_cons_of_neg (by simp [h])]
      have e0 : (ptN e).filter (fun t => decide (t.2.1 ≠ x)) = [] := List.filter_eq_nil_iff.mpr fun t ht => by
        obtain ⟨k, _, rfl⟩ := List.mem_map.mp (show t ∈ ptN e from ht)
        simp [h]
      rw [e0, List.nil_append]
    · rw [List.filter_cons_of_pos (by simp [h]), List.flatMap_cons]
      congr 1
      refine (List.filter_eq_self.mpr fun t ht => ?_).symm
      obtain ⟨k, _, rfl⟩ := List.mem_map.mp (show t ∈ ptN e from ht)
      simp [h]
theorem srtP_drop (c : Pl2) (x : Int) : srtP (dK c x) = (srtP c).filter fun t => decide (t.2.1 ≠ x) := by
  refine sort_uniq ?_ (srtP_pw _) ((srtP_pw c).filter _)
  unfold srtP
  rw [pts_drop]
  exact (List.mergeSort_perm _ _).trans ((List.mergeSort_perm _ _).filter _).symm
theorem ddp_filter (x : Int) : ∀ r : List Int, ddp ((r.reverse).filter fun y => decide (y ≠ x)) = (ddp r.reverse).filter fun y => decide (y ≠ x)
  | [] => rfl
  | y :: r => by
    have ih := ddp_filter x r
    have e : ∀ (l : List Int) (y : Int), ddp (l ++ [y]) = if y ∈ ddp l then ddp l else ddp l ++ [y] := fun l y => by
      unfold ddp; rw [List.foldl_append]; rfl
    rw [List.reverse_cons, List.filter_append, e]
    by_cases h : y = x
    · subst h
      rw [List.filter_cons_of_neg (by simp), List.filter_nil, List.append_nil, ih]
      by_cases hm : y ∈ ddp r.reverse
      · rw [if_pos hm]
      · rw [if_neg hm, List.filter_append, List.filter_cons_of_neg (by simp), List.filter_nil, List.append_nil]
    · rw [List.filter_cons_of_pos (by simp [h]), List.filter_nil, e, ih]
      by_cases hm : y ∈ ddp r.reverse
      · rw [if_pos hm, if_pos (List.mem_filter.mpr ⟨hm, by simp [h]⟩)]
      · rw [if_neg hm, if_neg (fun z => hm (List.mem_filter.mp z).1), List.filter_append, List.filter_cons_of_pos (by simp [h]), List.filter_nil]
theorem hms_drop (c : Pl2) (x : Int) (key : Str) : hms (dK c x) key = (hms c key).filter fun y => decide (y ≠ x) := by
  unfold hms
  rw [srtP_drop]
  have h := ddp_filter x ((((srtP c).filter fun t => decide (spN key.cps.toList ≤ t.1)) ++ ((srtP c).filter fun t => decide (t.1 < spN key.cps.toList))).map fun t => t.2.1).reverse
  rw [List.reverse_reverse] at h
  rw [← h, List.filter_map, List.filter_append]
  congr 2
  rw [List.filter_filter, List.filter_filter, List.filter_filter, List.filter_filter]
  congr 1
  · apply List.filter_congr; intro t _; simp [Function.comp, Bool.and_comm]
  · apply List.filter_congr; intro t _; simp [Function.comp, Bool.and_comm]
theorem ddp_nodup : ∀ r : List Int, (ddp r.reverse).Nodup
  | [] => by simp [ddp]
  | y :: r => by
    have ih := ddp_nodup r
    have e : ddp (y :: r).reverse = if y ∈ ddp r.reverse then ddp r.reverse else ddp r.reverse ++ [y] := by
      unfold ddp; rw [List.reverse_cons, List.foldl_append]; rfl
    rw [e]
    by_cases h : y ∈ ddp r.reverse
    · rw [if_pos h]; exact ih
    · rw [if_neg h, List.nodup_append]
      exact ⟨ih, by simp, fun a ha b hb => by rw [List.mem_singleton.mp hb]; exact fun z => h (z ▸ ha)⟩
theorem hms_nodup (c : Pl2) (key : Str) : (hms c key).Nodup := by
  unfold hms
  have h := ddp_nodup ((((srtP c).filter fun t => decide (spN key.cps.toList ≤ t.1)) ++ ((srtP c).filter fun t => decide (t.1 < spN key.cps.toList))).map fun t => t.2.1).reverse
  rwa [List.reverse_reverse] at h
/-- the home, or none -/
def hdo (c : Pl2) (k : Str) : Option Int := (hms c k).head?
theorem hdo_less {c : Pl2} {x : Int} {k : Str} : hdo c k = some x ∨ hdo c k = hdo (dK c x) k := by
  unfold hdo
  rw [hms_drop]
  cases hms c k with
  | nil => exact .inr rfl
  | cons y l =>
    by_cases h : y = x
    · subst h; exact .inl rfl
    · refine .inr ?_
      rw [List.filter_cons_of_pos (by simp [h])]; rfl
theorem hdo_second {c : Pl2} {x : Int} {k : Str} : hdo (dK c x) k = if (hms c k).head? = some x then (hms c k)[1]? else (hms c k).head? := by
  unfold hdo
  rw [hms_drop]
  have nd := hms_nodup c k
  cases e : hms c k with
  | nil => rw [List.head?_nil, if_neg (by simp)]; rfl
  | cons y l =>
    rw [e] at nd
    by_cases h : y = x
    · subst h
      rw [List.filter_cons_of_neg (by simp), List.head?_cons, if_pos rfl, List.getElem?_cons_succ]
      have e0 : l.filter (fun z => decide (z ≠ y)) = l := List.filter_eq_self.mpr fun z hz => decide_eq_true fun q => (List.nodup_cons.mp nd).1 (by rw [← q]; exact hz)
      rw [e0]
      cases l <;> rfl
    · rw [List.filter_cons_of_pos (by simp [h]), List.head?_cons, List.head?_cons, if_neg (by simp [h])]
theorem dK_app {c : Pl2} {h n : Int} (hn : h ∉ c.map Prod.fst) : dK (c ++ [(h, n)]) h = c := by
  unfold dK
  rw [List.filter_append, List.filter_cons_of_neg (by simp), List.filter_nil, List.append_nil]
  refine List.filter_eq_self.mpr fun e he => decide_eq_true fun z => hn (z ▸ List.mem_map_of_mem he)
theorem OKP.drop {c : Pl2} (ok : OKP c) (x : Int) : OKP (dK c x) := ⟨dK_nodup ok.nd x, fun e he => ok.hs e (List.mem_filter.mp he).1, fun e he => ok.ns e (List.mem_filter.mp he).1, Nat.le_trans (dK_len c x) ok.ln⟩
/-! tables of homes -/
def oD : Option Int → D | some i => .int i | none => .non
theorem oD_inj {a b : Option Int} : oD a = oD b ↔ a = b := by cases a <;> cases b <;> simp [oD]
theorem oD_nb {n : Nat} (a : Option Int) : Nb (n + 1) (oD a) := by cases a <;> first | exact nb_non | exact nb_int
theorem oD_sc (a : Option Int) : (scD (oD a)).isSome = true := by cases a <;> rfl
def tbl (f : Str → Option Int) (ks : List Str) : List (Key × D) := ks.foldl (fun t k => pK t (Sum.inr k) (oD (f k))) []
theorem tbl_nodup (f : Str → Option Int) : ∀ r : List Str, ((tbl f r.reverse).map Prod.fst).Nodup
  | [] => by simp [tbl]
  | k :: r => by
    unfold tbl; rw [List.reverse_cons, List.foldl_append]
    exact pK_nodup (tbl_nodup f r) _ _
theorem tbl_get (f : Str → Option Int) (k : Str) : ∀ r : List Str, vK (tbl f r.reverse) (Sum.inr k) = if k ∈ r then some (oD (f k)) else none
  | [] => by simp [tbl, vK_nil]
  | x :: r => by
    have ih := tbl_get f k r
    have e : tbl f (x :: r).reverse = pK (tbl f r.reverse) (Sum.inr x) (oD (f x)) := by
      unfold tbl; rw [List.reverse_cons, List.foldl_append]; rfl
    rw [e, vK_put, ih]
    by_cases h : k = x
    · subst h; rw [if_pos rfl, if_pos List.mem_cons_self]
    · rw [if_neg (fun z => h (Sum.inr.inj z))]
      by_cases hm : k ∈ r
      · rw [if_pos hm, if_pos (List.mem_cons_of_mem _ hm)]
      · rw [if_neg hm, if_neg (fun z => (List.mem_cons.mp z).elim h hm)]
theorem tbl_mem {f : Str → Option Int} {ks : List Str} {k : Str} (h : k ∈ ks) : vK (tbl f ks) (Sum.inr k) = some (oD (f k)) := by
  have := tbl_get f k ks.reverse
  rwa [List.reverse_reverse, if_pos (List.mem_reverse.mpr h)] at this
theorem tbl_len (f : Str → Option Int) : ∀ r : List Str, (tbl f r.reverse).length ≤ r.length
  | [] => by simp [tbl]
  | k :: r => by
    have e : tbl f (k :: r).reverse = pK (tbl f r.reverse) (Sum.inr k) (oD (f k)) := by
      unfold tbl; rw [List.reverse_cons, List.foldl_append]; rfl
    rw [e]
    have := pK_len (tbl f r.reverse) (Sum.inr k : Key) (oD (f k))
    have := tbl_len f r
    rw [List.length_cons]; omega
theorem tbl_le (f : Str → Option Int) (ks : List Str) : (tbl f ks).length ≤ ks.length := by
  have := tbl_len f ks.reverse
  rwa [List.reverse_reverse, List.length_reverse] at this
theorem tbl_take {f : Str → Option Int} {ks : List Str} {i : Nat} {k : Str} (h : ks[i]? = some k) : tbl f (ks.take (i + 1)) = pK (tbl f (ks.take i)) (Sum.inr k) (oD (f k)) := by unfold tbl; rw [fold_take h]
theorem pK_pK {κ α : Type} [DecidableEq κ] (l : List (κ × α)) (k : κ) (a b : α) : pK (pK l k a) k b = pK l k b := by
  unfold pK
  by_cases h : (l.any fun kv => decide (kv.1 = k)) = true
  · rw [if_pos h, if_pos h]
    have h2 : ((l.map fun kv => if kv.1 = k then (kv.1, a) else kv).any fun kv => decide (kv.1 = k)) = true := by
      rw [List.any_map, ← h]
      congr 1
      funext kv
      simp only [Function.comp]
      split <;> rfl
    rw [if_pos h2, List.map_map]
    apply List.map_congr_left
    intro kv _
    simp only [Function.comp]
    by_cases q : kv.1 = k
    · rw [if_pos q, if_pos q, if_pos (show (kv.1, a).1 = k from q)]
    · rw [if_neg q, if_neg q]
  · rw [if_neg h, if_neg h]
    have h2 : ((l ++ [(k, a)]).any fun kv => decide (kv.1 = k)) = true := by rw [List.any_append]; simp
    rw [if_pos h2, List.map_append]
    congr 1
    · conv => rhs; rw [← List.map_id l]
      apply List.map_congr_left
      intro kv hk
      have : ¬ kv.1 = k := fun z => h (List.any_eq_true.mpr ⟨kv, hk, decide_eq_true z⟩)
      rw [if_neg this]; rfl
    · simp
theorem tbl_congr {f g : Str → Option Int} {ks : List Str} (h : ∀ k, f k = g k) : tbl f ks = tbl g ks := by rw [show f = g from funext h]
theorem tbl_eqDs (f : Str → Option Int) (ks : List Str) : eqDs (tbl f ks) (tbl f ks) := ⟨rfl, fun kv hk => by
  have nd := tbl_nodup f ks.reverse
  rw [List.reverse_reverse] at nd
  have h1 := vK_of nd (show (kv.1, kv.2) ∈ tbl f ks from hk)
  refine ⟨?_, h1⟩
  suffices ∀ r : List Str, ∀ kv ∈ tbl f r.reverse, (scD kv.2).isSome = true by
    have := this ks.reverse kv (by rw [List.reverse_reverse]; exact hk)
    exact this
  intro r
  induction r with
  | nil => intro kv hk; simp [tbl] at hk
  | cons k r ih =>
    intro kv hk
    have e : tbl f (k :: r).reverse = pK (tbl f r.reverse) (Sum.inr k) (oD (f k)) := by
      unfold tbl; rw [List.reverse_cons, List.foldl_append]; rfl
    rw [e] at hk
    rcases pK_mem hk with rfl | q
    · exact oD_sc _
    · exact ih kv q⟩
/-! the moves -/
def mvD (f g : Str → Option Int) (k : Str) : D := .tup [.str k, oD (f k), oD (g k)]
def mv (f g : Str → Option Int) (ys : List Str) : List D := (ys.filter fun k => decide (f k ≠ g k)).map (mvD f g)
def dds (xs : List Str) : List Str := xs.foldl (fun acc x => if x ∈ acc then acc else acc ++ [x]) []
theorem dds_snoc (l : List Str) (y : Str) : dds (l ++ [y]) = if y ∈ dds l then dds l else dds l ++ [y] := by
  unfold dds; rw [List.foldl_append]; rfl
theorem dds_take {xs : List Str} {i : Nat} {x : Str} (h : xs[i]? = some x) : dds (xs.take (i + 1)) = if x ∈ dds (xs.take i) then dds (xs.take i) else dds (xs.take i) ++ [x] := by unfold dds; rw [fold_take h]
theorem dds_ok : ∀ r : List Str, (dds r.reverse).Nodup ∧ List.Sublist (dds r.reverse) r.reverse ∧ ∀ x, x ∈ dds r.reverse ↔ x ∈ r
  | [] => ⟨by simp [dds], by simp [dds], by simp [dds]⟩
  | y :: r => by
    obtain ⟨h1, h2, h3⟩ := dds_ok r
    rw [List.reverse_cons, dds_snoc]
    by_cases h : y ∈ dds r.reverse
    · rw [if_pos h]
      exact ⟨h1, h2.trans (List.sublist_append_left _ _), fun x => by
        rw [List.mem_cons, h3]
        exact ⟨.inr, fun z => z.elim (fun e => e ▸ (h3 y).mp h) id⟩⟩
    · rw [if_neg h]
      refine ⟨List.nodup_append.mpr ⟨h1, by simp, fun a ha b hb => by rw [List.mem_singleton.mp hb]; exact fun z => h (z ▸ ha)⟩, h2.append (List.Sublist.refl _), fun x => ?_⟩
      rw [List.mem_append, List.mem_singleton, List.mem_cons, h3]
      exact Or.comm
theorem dds_le (xs : List Str) : (dds xs).length ≤ xs.length := by
  have h := (dds_ok xs.reverse).2.1.length_le
  rwa [List.reverse_reverse] at h
theorem mv_mem {f g : Str → Option Int} {ys : List Str} {k : Str} : mvD f g k ∈ mv f g ys ↔ k ∈ ys ∧ f k ≠ g k := by
  unfold mv
  rw [List.mem_map]
  constructor
  · rintro ⟨x, hx, e⟩
    have : x = k := by unfold mvD at e; simpa using congrArg (fun d => match d with | D.tup (D.str s :: _) => s | _ => Str.empty) e
    subst this
    obtain ⟨a, b⟩ := List.mem_filter.mp hx
    exact ⟨a, of_decide_eq_true b⟩
  · rintro ⟨a, b⟩
    exact ⟨k, List.mem_filter.mpr ⟨a, decide_eq_true b⟩, rfl⟩
theorem mv_snoc (f g : Str → Option Int) (ys : List Str) (k : Str) : mv f g (ys ++ [k]) = mv f g ys ++ if f k ≠ g k then [mvD f g k] else [] := by
  unfold mv
  rw [List.filter_append, List.map_append]
  congr 1
  by_cases h : f k = g k
  · rw [List.filter_cons_of_neg (by simp [h]), if_neg (by simp [h])]; rfl
  · rw [List.filter_cons_of_pos (by simp [h]), if_pos h]; rfl
theorem mv_le (f g : Str → Option Int) (ys : List Str) : (mv f g ys).length ≤ ys.length := by unfold mv; rw [List.length_map]; exact List.length_filter_le _ _
theorem mv_same (f : Str → Option Int) (ys : List Str) : mv f f ys = [] := by
  unfold mv
  rw [List.filter_eq_nil_iff.mpr (fun k _ => by simp)]; rfl
theorem srt_one {ys zs ks : List Str} (nd : ys.Nodup) (so : sortedS ys = true) (hm : ∀ k, k ∈ ys ↔ k ∈ ks) (pm : zs.Perm ks) (so2 : sortedS zs = true) : dds zs = ys := by
  obtain ⟨h1, h2, h3⟩ := dds_ok zs.reverse
  rw [List.reverse_reverse] at h1 h2 h3
  have strict : ∀ {l : List Str}, l.Pairwise leS → l.Nodup → l.Pairwise fun a b => ltS a b = true := fun {l} p q => by
    refine (List.pairwise_and_iff.mpr ⟨p, q⟩).imp fun {a b} h => ?_
    cases e : ltS a b with
    | true => rfl
    | false => exact absurd (leS_anti a b h.1 e) h.2
  refine sorted_ext (lt := fun a b : Str => ltS a b = true) (fun a b q z => by rw [ltS_as _ _ q] at z; cases z) (strict ((sortedS_pw so2).sublist h2) h1) (strict (sortedS_pw so) nd) fun a => ?_
  rw [h3, List.mem_reverse, pm.mem_iff, hm]
theorem sorted_perm : ∀ {l r : List Int}, l.Perm r → l.Pairwise (· ≤ ·) → r.Pairwise (· ≤ ·) → l = r
  | [], r, p, _, _ => (List.nil_perm.mp p).symm
  | a :: l, [], p, _, _ => absurd p.length_eq (by simp)
  | a :: l, b :: r, p, h1, h2 => by
    have e : a = b := by
      have x1 : a ∈ b :: r := p.mem_iff.mp List.mem_cons_self
      have x2 : b ∈ a :: l := p.mem_iff.mpr List.mem_cons_self
      rcases List.mem_cons.mp x1 with z | z
      · exact z
      · rcases List.mem_cons.mp x2 with y | y
        · exact y.symm
        · have q1 := (List.pairwise_cons.mp h2).1 a z
          have q2 := (List.pairwise_cons.mp h1).1 b y
          omega
    subst e
    rw [sorted_perm p.cons_inv (List.pairwise_cons.mp h1).2 (List.pairwise_cons.mp h2).2]
theorem nbT {t : Int × Int × Int} : Nb 2 (encT t) := nb_tup (by simp) fun x hx => by
  simp only [List.mem_cons, List.not_mem_nil, or_false] at hx
  rcases hx with rfl | rfl | rfl <;> exact nb_int
theorem nbTs {l : List (Int × Int × Int)} (h : l.length ≤ 1000) : Nb 3 (.lst (l.map encT)) := nb_lst (by rw [List.length_map]; exact h) fun x hx => by
  obtain ⟨t, _, rfl⟩ := List.mem_map.mp hx; exact nbT
theorem nbIs {l : List Int} (h : l.length ≤ 1000) : Nb 3 (.lst (l.map D.int)) := nb_lst (by rw [List.length_map]; exact h) fun x hx => by
  obtain ⟨t, _, rfl⟩ := List.mem_map.mp hx; exact nb_int
theorem Rg.kp {Z : Cs} {M M' : Mh} {p q : Addr} {c : Pl2} (h : Rg Z M p q c) (k : Kp M M') : Rg Z M' p q c := let ⟨⟨dx, a⟩, b⟩ := h; ⟨⟨dx, k _ _ a⟩, k _ _ b⟩
theorem asPy_ref {M : Mh} {p : Addr} {ds : List D} {k : PyData → Prop} (hm : M p = some (.lst ds)) (h : asPy (.lst ds) M k) : asPy (.ref p) M k := by
  obtain ⟨x, e, hk⟩ := (show ∃ x, dP (.lst ds) = some x ∧ k x from h)
  obtain ⟨xs, e2, rfl⟩ := dP_lst e
  show mL M p _
  rw [mL_of hm]
  exact ⟨xs, e2, hk⟩
theorem hms_nil (key : Str) : hms [] key = [] := by
  unfold hms srtP pts
  simp [ddp]
theorem hdo_nil (k : Str) : hdo [] k = none := by unfold hdo; rw [hms_nil]; rfl
def sp_home (Z : Cs) : Pm := fun ds M Φ _ => ∃ (p q : Addr) (c : Pl2) (key : Str), ds = [.ref p, .str key] ∧ Rg Z M p q c ∧ OKP c ∧ ∀ M', Kp M M' → Φ (oD (hdo c key)) M'
/-! _home -/
abbrev s_home : Stmt := top 14
abbrev nm_home : List Str := ["ring", "key"]
theorem sc_home : FnScope ["ring", "key"] ["ring", "key"] (defScope s_home) := ⟨rfl, rfl, rfl, by decide +kernel, rfl, by decide +kernel, by decide +kernel⟩
def b_home (Z : Cs) : XS K T :=
  (sSeq (sIf (qNot (qTr (xMeth Z.Ring "hosts" (sp_Ring_hosts Z) (xVar 0) aNil))) (sRet xNon) sNx)
  (sRet (xMeth Z.Ring "home" (sp_Ring_home Z) (xVar 0) (aCons (xVar 1) aNil))))
theorem len_home (Z : Cs) : ∀ ds M Φ Ξ, sp_home Z ds M Φ Ξ → ds.length = 2 := by
  rintro _ _ _ _ ⟨p, q, c, key, rfl, _⟩
  rfl
theorem vc_home (Z : Cs) (hZ : ZOk K Z) : ∀ ds M Φ Ξ, sp_home Z ds M Φ Ξ → Wp (b_home Z : XS K T) 2 ds M Φ := by
  rintro _ M Φ Ξ ⟨p, q, c, key, rfl, hR, ok, h⟩
  unfold Wp b_home
  walk_at "vc"
  obtain ⟨⟨dx, hp⟩, hq⟩ := id hR
  walk_at "vc"
  rw [mI_of hp]
  refine ⟨rfl, lk1 (by decide +kernel), p, q, c, rfl, hR, ok.ln, fun ys pm so => ?_⟩
  walk_at "vc"
  refine ite2 (fun z => ?_) (fun z => ?_)
  · have hy : ys = [] := by
      cases ys with
      | nil => rfl
      | cons y r => cases z
    subst hy
    have hc : c = [] := by
      have := pm.length_eq
      rw [List.length_map] at this
      exact List.length_eq_zero_iff.mp this.symm
    subst hc
    have := h M (Kp.refl _)
    rw [hdo_nil] at this
    exact this
  · rw [mI_of hp]
    refine ⟨rfl, lk1 (by decide +kernel), p, q, c, key, rfl, hR, ok, fun hc => ?_, fun x M' hc hx kp => ?_⟩
    · subst hc
      exact absurd (by rw [List.Perm.eq_nil pm]; rfl) z
    · have := h M' kp
      unfold hdo at this
      rw [hx] at this
      exact this
theorem cl_home (F : Df K mg "_home" s_home) {Z : Cs} (hZ : ZOk K Z) (c_Ring_home : Me P w K mg base T 5 Z.Ring "home" (sp_Ring_home Z)) (c_Ring_hosts : Me P w K mg base T 1 Z.Ring "hosts" (sp_Ring_hosts Z)) : Cl P w K mg base T 6 "_home" (sp_home Z) :=
  cl0 F sc_home (b_home Z) (len_home Z) (fun _ _ _ _ _ _ us hl => match us, hl with | [_, _], _ => rfl) (fun f cdv A outer s H E hr =>
  (dsCons (dsIf (dqNot (dTr (dMeth0 c_Ring_hosts hr (by decide) takes0 (dVar 0)))) (dsOne (dRet dNon)) dsNil)
  (dsOne (dRet (dMeth c_Ring_home hr (by decide) takes0 (dVar 0) (dCons (dVar 1) dNil)))))) (vc_home Z hZ)
theorem nodup_len : ∀ (l K : List Str), l.Nodup → (∀ x ∈ l, x ∈ K) → l.length ≤ K.length
  | [], K, _, _ => Nat.zero_le _
  | x :: l, K, nd, h => by
    obtain ⟨h1, h2⟩ := List.nodup_cons.mp nd
    have hx := h x List.mem_cons_self
    have ih := nodup_len l (K.erase x) h2 fun y hy => (List.mem_erase_of_ne (fun z => h1 (by rw [← z]; exact hy))).mpr (h y (List.mem_cons_of_mem _ hy))
    have e := List.length_erase_of_mem hx
    have p : 0 < K.length := List.length_pos_of_mem hx
    rw [List.length_cons]; omega
def sp_moves (Z : Cs) : Pm := fun ds M Φ _ => ∃ (p q p' q' : Addr) (c c' : Pl2) (ks : List Str), ds = [.ref p, .ref p', .lst (ks.map D.str)] ∧ Rg Z M p q c ∧ Rg Z M p' q' c' ∧ OKP c ∧ OKP c' ∧ ks.length < 64 ∧ ∀ (ys : List Str) (l : Addr) M', ys.Nodup → sortedS ys = true → (∀ k, k ∈ ys ↔ k ∈ ks) → M l = none → Kp M M' → M' l = some (.lst (mv (hdo c) (hdo c') ys)) → Φ (.ref l) M'
/-! moves -/
abbrev s_moves : Stmt := top 13
abbrev nm_moves : List Str := ["before", "after", "keys", "found", "key", "old", "new"]
theorem sc_moves : FnScope ["before", "after", "keys", "found", "key", "old", "new"] ["before", "after", "keys"] (defScope s_moves) := ⟨rfl, rfl, rfl, by decide +kernel, rfl, by decide +kernel, by decide +kernel⟩
def b_moves (Z : Cs) : XS K T :=
  (sSeq (sAs (xLstM aNil) (gN 3))
  (sSeq (sFor (iL (xSrtSet (xVar 2))) (gN 4)
    (sSeq (sAs (xCall (sp_home Z) (aCons (xVar 0) (aCons (xVar 4) aNil))) (gN 5))
  (sSeq (sAs (xCall (sp_home Z) (aCons (xVar 1) (aCons (xVar 4) aNil))) (gN 6))
  (sIf (qT (xOp oNeD (xVar 5) (xVar 6))) (sEx (xApp (xVar 3) (xTup (aCons (xVar 4) (aCons (xVar 5) (aCons (xVar 6) aNil)))))) sNx))))
  (sRet (xVar 3))))
theorem len_moves (Z : Cs) : ∀ ds M Φ Ξ, sp_moves Z ds M Φ Ξ → ds.length = 3 := by
  rintro _ _ _ _ ⟨p, q, p', q', c, c', ks, rfl, _⟩
  rfl
theorem vc_moves (Z : Cs) (hZ : ZOk K Z) : ∀ ds M Φ Ξ, sp_moves Z ds M Φ Ξ → Wp (b_moves Z : XS K T) 7 ds M Φ := by
  rintro _ M Φ Ξ ⟨p, q, p', q', c, c', ks, rfl, hR, hR', ok, ok', h64, h⟩
  unfold Wp b_moves
  walk_at "vc"
  intro l hl
  walk_at "vc"
  refine ⟨h64, fun ys nd so hm => ?_⟩
  have hyl : ys.length ≤ ks.length := nodup_len ys ks nd fun x hx => (hm x).mp hx
  refine ⟨fun i ρ' M' => ∃ o4 o5 o6, ρ' = [some (.ref p), some (.ref p'), some (.lst (ks.map D.str)), some (.ref l), o4, o5, o6] ∧ Kp M M' ∧ M' l = some (.lst (mv (hdo c) (hdo c') (ys.take i))), ⟨none, none, none, rfl, Kp.new hl, um_same⟩, fun _ _ _ _ => trivial, ?_, ?_⟩
  · rintro i d ρ' M' hd ⟨o4, o5, o6, rfl, kp, hml⟩
    obtain ⟨k, ek, rfl⟩ := map_get' hd
    have hi := (List.getElem?_eq_some_iff.mp ek).1
    walk_at "vc"
    refine ⟨p, q, c, k, rfl, hR.kp kp, ok, fun M2 kp2 => ?_⟩
    have hl2 := kp2 _ _ hml
    walk_at "vc"
    refine ⟨p', q', c', k, rfl, hR'.kp (kp.trans kp2), ok', fun M3 kp3 => ?_⟩
    have hl3 := kp3 _ _ hl2
    walk_at "vc"
    have et := mv_snoc (hdo c) (hdo c') (ys.take i) k
    rw [← take_at ek] at et
    refine eqNb (R := fun b => if b = false then _ else _) (n := 3) (by decide) (oD_nb _) (oD_nb _) (fun e => ?_) (fun e => ?_)
    · rw [if_neg (by simp)]
      refine ⟨_, _, _, rfl, (kp.trans kp2).trans kp3, ?_⟩
      rw [et, if_neg (by simp [oD_inj.mp e]), List.append_nil]; exact hl3
    · rw [if_pos rfl]
      walk_at "vc"
      simp only [mL_of hl3]
      have ml := mv_le (hdo c) (hdo c') (ys.take i)
      rw [List.length_take] at ml
      refine ⟨by omega, _, _, _, rfl, fun a m ha => (um_ne (ne_nn ha hl)).trans (kp3 _ _ (kp2 _ _ (kp _ _ ha))), ?_⟩
      rw [um_same, et, if_pos (fun z => e (oD_inj.mpr z))]; rfl
  · rintro ρ' M' ⟨o4, o5, o6, rfl, kp, hml⟩
    rw [List.length_map, List.take_length] at hml
    walk_at "vc"
    exact h ys l M' nd so hm hl kp hml
theorem cl_moves (F : Df K mg "moves" s_moves) {Z : Cs} (hZ : ZOk K Z) (z_set : mg "set" = none) (z_sorted : mg "sorted" = none) (c_home : Cl P w K mg base T 6 "_home" (sp_home Z)) : Cl P w K mg base T 7 "moves" (sp_moves Z) :=
  cl0 F sc_moves (b_moves Z) (len_moves Z) (fun _ _ _ _ _ _ us hl => match us, hl with | [_, _, _], _ => rfl) (fun f cdv A outer s H E hr =>
  (dsCons (dAs (dLstM dNil) (dN 3 sc_moves.nd))
  (dsCons (dFor PassesOwn.never rfl (diL (dSrtSet rfl z_sorted z_set (dVar 2))) (dN 4 sc_moves.nd)
    (dsCons (dAs (dCall c_home hr (by decide) takes0 (dCons (dVar 0) (dCons (dVar 4) dNil))) (dN 5 sc_moves.nd))
  (dsCons (dAs (dCall c_home hr (by decide) takes0 (dCons (dVar 1) (dCons (dVar 4) dNil))) (dN 6 sc_moves.nd))
  (dsOne (dsIf (dqT (o := oNeD) (op_neD (un64 hr)) (dVar 5) (dVar 6)) (dsOne (dEx (dApp (dVar 3) (dTup (dCons (dVar 4) (dCons (dVar 5) (dCons (dVar 6) dNil))))))) dsNil)))))
  (dsOne (dRet (dVar 3)))))) (vc_moves Z hZ)
theorem kk_ltrs : Kk ltrs := by unfold Kk ltrs; decide +kernel
theorem ltr {r : Int} (h0 : 0 ≤ r) (h1 : r < 26) : ∃ c, Kk ⟨#[c]⟩ ∧ (97 ≤ c ∧ c ≤ 122) ∧ ∀ k : Nat → Prop, atS ltrs r k = k c := by
  obtain ⟨c, e1, e2⟩ := atI_in (l := ltrs.cps.toList) h0 h1
  have hm := List.mem_of_getElem? e2
  have hb : ∀ c ∈ ltrs.cps.toList, 97 ≤ c ∧ c ≤ 122 := by decide +kernel
  exact ⟨c, kk_one kk_ltrs hm, hb c hm, fun k => atS_of e1⟩
def sp_law_word : Pm := fun ds M Φ _ => ∃ st n, ds = [.ref st, .int n] ∧ GS M st ∧ 0 ≤ n ∧ n ≤ 20 ∧ ∀ (x : Str) M', (x.length : Int) = n → Kk x → GS M' st → Sam st M M' → Φ (.str x) M'
/-! _law_word -/
abbrev s_law_word : Stmt := top 20
abbrev nm_law_word : List Str := ["state", "many", "letters", "k"]
theorem sc_law_word : FnScope ["state", "many", "letters", "k"] ["state", "many"] (defScope s_law_word) := ⟨rfl, rfl, rfl, by decide +kernel, rfl, by decide +kernel, by decide +kernel⟩
def b_law_word : XS K T :=
  (sSeq (sAs (xStr "abcdefghijklmnopqrstuvwxyz") (gN 2))
  (sRet (xJoin (xStr "") (xLc (iR1 (xVar 1)) (.one 3) qYes (xOp oIxS (xVar 2) (xCall sp_law_draw (aCons (xVar 0) (aCons (xInt 26) aNil))))))))
theorem len_law_word : ∀ ds M Φ Ξ, sp_law_word ds M Φ Ξ → ds.length = 2 := by
  rintro _ _ _ _ ⟨st, n, rfl, _⟩
  rfl
theorem vc_law_word : ∀ ds M Φ Ξ, sp_law_word ds M Φ Ξ → Wp (b_law_word : XS K T) 4 ds M Φ := by
  rintro _ M Φ Ξ ⟨st, n, rfl, hg, h0, h1, h⟩
  unfold Wp b_law_word
  walk_at "vc"
  refine ⟨by omega, by omega, by omega, fun i acc M' => GS M' st ∧ Sam st M M' ∧ ∃ xs : List Str, acc = xs.map D.str ∧ xs.length = i ∧ ∀ x ∈ xs, x.length = 1 ∧ Kk x, ⟨hg, Sam.refl _, [], rfl, rfl, by simp⟩, fun _ _ _ _ => trivial, ?_, ?_⟩
  · rintro i d acc M' _ ⟨g, s, xs, rfl, hl, hx⟩
    refine ⟨st, 26, rfl, g, by decide, by decide, fun r M2 b0 b1 g2 s2 => ?_⟩
    walk_at "vc"
    refine ⟨by decide, ?_⟩
    obtain ⟨c, kc, _, e⟩ := ltr b0 b1
    show Ab.atS ltrs r _
    rw [e]
    refine ⟨g2, s.trans s2, xs ++ [⟨#[c]⟩], by simp, by simp [hl], fun y hy => ?_⟩
    rcases List.mem_append.mp hy with q | q
    · exact hx y q
    · rw [List.mem_singleton.mp q]; exact ⟨rfl, kc⟩
  · rintro acc M' ⟨g, s, xs, rfl, hl, hx⟩
    walk_at "vc"
    have hs : (xs.map (·.length)).sum ≤ xs.length := by
      clear hl
      induction xs with
      | nil => simp
      | cons y ys ih =>
        have q := ih fun z hz => hx z (List.mem_cons_of_mem _ hz)
        have q2 := (hx y List.mem_cons_self).1
        simp only [List.map_cons, List.sum_cons, List.length_cons]
        omega
    refine ⟨?_, h _ M' ?_ (kk_join fun y hy => (hx y hy).2) g s⟩
    · have z : (Str.ofString "").length = 0 := by decide
      rw [z]; omega
    · rw [PySem.W.KT.join_ones xs fun y hy => (hx y hy).1]; omega
theorem cl_law_word (F : Df K mg "_law_word" s_law_word) (z_range : mg "range" = none) (c_law_draw : Cl P w K mg base T 3 "_law_draw" sp_law_draw) : Cl P w K mg base T 4 "_law_word" sp_law_word :=
  cl0 F sc_law_word (b_law_word) (len_law_word) (fun _ _ _ _ _ _ us hl => match us, hl with | [_, _], _ => rfl) (fun f cdv A outer s H E hr =>
  (dsCons (dAs dStr (dN 2 sc_law_word.nd))
  (dsOne (dRet (dJoin dStr (dLc rfl sc_law_word.nd (blkOk_by (N := nm_law_word) (sc := defScope s_law_word) (own := [("k", 3)]) (by decide +kernel)) (diR1 z_range (dVar 1)) rfl (fun _ _ _ _ _ => (cgOne 3 sc_law_word.nd)) (fun _ _ _ _ _ => dYes) (fun _ _ _ _ _ => (dIx (o := oIxS) ix_str (dVar 2) (dCall c_law_draw hr (by decide) takes0 (dCons (dVar 0) (dCons dInt dNil))))))))))) (vc_law_word)
/-- a key's text -/
def Ky (x : Str) : Prop := 1 ≤ x.length ∧ x.length ≤ 8 ∧ Kk x
def sp_law_keys : Pm := fun ds M Φ _ => ∃ st n, ds = [.ref st, .int n] ∧ GS M st ∧ 0 ≤ n ∧ n ≤ 20 ∧ ∀ (xs : List Str) M', (xs.length : Int) = n → (∀ x ∈ xs, Ky x) → GS M' st → Sam st M M' → Φ (.lst (xs.map D.str)) M'
/-! _law_keys -/
abbrev s_law_keys : Stmt := top 21
abbrev nm_law_keys : List Str := ["state", "count", "letters", "before", "behind", "first", "k"]
theorem sc_law_keys : FnScope ["state", "count", "letters", "before", "behind", "first", "k"] ["state", "count"] (defScope s_law_keys) := ⟨rfl, rfl, rfl, by decide +kernel, rfl, by decide +kernel, by decide +kernel⟩
def b_law_keys : XS K T :=
  (sSeq (sAs (xStr "abcdefghijklmnopqrstuvwxyz") (gN 2))
  (sSeq (sAs (xCall sp_law_word (aCons (xVar 0) (aCons (xCall sp_law_draw (aCons (xVar 0) (aCons (xInt 4) aNil))) aNil))) (gN 3))
  (sSeq (sAs (xCall sp_law_word (aCons (xVar 0) (aCons (xCall sp_law_draw (aCons (xVar 0) (aCons (xInt 4) aNil))) aNil))) (gN 4))
  (sSeq (sAs (xCall sp_law_draw (aCons (xVar 0) (aCons (xInt 26) aNil))) (gN 5))
  (sRet (xB bSortS (aCons (xLc (iR1 (xVar 1)) (.one 6) qYes (xOp oAddS (xOp oAddS (xVar 3) (xOp oIxS (xVar 2) (xOp oMod (xB bInt (aCons (xOp oAdd (xVar 5) (xOp oMul (xInt 3) (xVar 6))) aNil)) (xInt 26)))) (xVar 4))) aNil)))))))
theorem len_law_keys : ∀ ds M Φ Ξ, sp_law_keys ds M Φ Ξ → ds.length = 2 := by
  rintro _ _ _ _ ⟨st, n, rfl, _⟩
  rfl
theorem vc_law_keys : ∀ ds M Φ Ξ, sp_law_keys ds M Φ Ξ → Wp (b_law_keys : XS K T) 7 ds M Φ := by
  rintro _ M Φ Ξ ⟨st, n, rfl, hg, h0, h1, h⟩
  unfold Wp b_law_keys
  walk_at "vc"
  refine ⟨st, 4, rfl, hg, by decide, by decide, fun r M1 a0 a1 g1 s1 => ⟨st, r, rfl, g1, by omega, by omega, fun x M2 hx kx g2 s2 => ?_⟩⟩
  walk_at "vc"
  refine ⟨st, 4, rfl, g2, by decide, by decide, fun r3 M3 c0 c1 g3 s3 => ⟨st, r3, rfl, g3, by omega, by omega, fun y M4 hy ky g4 s4 => ?_⟩⟩
  walk_at "vc"
  refine ⟨st, 26, rfl, g4, by decide, by decide, fun r5 M5 d0 d1 g5 s5 => ?_⟩
  walk_at "vc"
  have s15 := (((s1.trans s2).trans s3).trans s4).trans s5
  refine ⟨by omega, by omega, by omega, fun i acc M' => M' = M5 ∧ ∃ xs : List Str, acc = xs.map D.str ∧ xs.length = i ∧ ∀ x ∈ xs, Ky x, ⟨rfl, [], rfl, rfl, by simp⟩, fun _ _ _ _ => trivial, ?_, ?_⟩
  · rintro i d acc M' hd ⟨rfl, xs, rfl, hl, hxs⟩
    obtain ⟨hi, rfl⟩ := rngD_get hd
    walk_at "vc"
    obtain ⟨c, kc, _, e⟩ := ltr (Int.emod_nonneg (r5 + 3 * (0 + (i : Int))) (by decide : (26 : Int) ≠ 0)) (Int.emod_lt_of_pos _ (by decide))
    refine ⟨.inl ⟨by omega, by omega⟩, by decide, by decide, ?_⟩
    show Ab.atS ltrs _ _
    rw [e]
    have z1 : (⟨#[c]⟩ : Str).length = 1 := rfl
    refine ⟨by rw [z1]; omega, by rw [len_app, z1]; omega, xs ++ [x ++ ⟨#[c]⟩ ++ y], by simp, by simp [hl], fun q hq => ?_⟩
    rcases List.mem_append.mp hq with q1 | q1
    · exact hxs q q1
    · rw [List.mem_singleton.mp q1]
      exact ⟨by rw [len_app, len_app, z1]; omega, by rw [len_app, len_app, z1]; omega, kk_app (kk_app kx kc) ky⟩
  · rintro acc M' ⟨rfl, xs, rfl, hl, hxs⟩
    walk_at "vc"
    refine ⟨by omega, fun ys hperm _ => h ys _ ?_ (fun q hq => hxs q (hperm.mem_iff.mp hq)) g5 s15⟩
    rw [hperm.length_eq, hl]; omega
theorem cl_law_keys (F : Df K mg "_law_keys" s_law_keys) (z_int : mg "int" = none) (z_range : mg "range" = none) (z_sorted : mg "sorted" = none) (c_law_draw : Cl P w K mg base T 3 "_law_draw" sp_law_draw) (c_law_word : Cl P w K mg base T 4 "_law_word" sp_law_word) : Cl P w K mg base T 5 "_law_keys" sp_law_keys :=
  cl0 F sc_law_keys (b_law_keys) (len_law_keys) (fun _ _ _ _ _ _ us hl => match us, hl with | [_, _], _ => rfl) (fun f cdv A outer s H E hr =>
  (dsCons (dAs dStr (dN 2 sc_law_keys.nd))
  (dsCons (dAs (dCall c_law_word hr (by decide) takes0 (dCons (dVar 0) (dCons (dCall c_law_draw hr (by decide) takes0 (dCons (dVar 0) (dCons dInt dNil))) dNil))) (dN 3 sc_law_keys.nd))
  (dsCons (dAs (dCall c_law_word hr (by decide) takes0 (dCons (dVar 0) (dCons (dCall c_law_draw hr (by decide) takes0 (dCons (dVar 0) (dCons dInt dNil))) dNil))) (dN 4 sc_law_keys.nd))
  (dsCons (dAs (dCall c_law_draw hr (by decide) takes0 (dCons (dVar 0) (dCons dInt dNil))) (dN 5 sc_law_keys.nd))
  (dsOne (dRet (dB (bb := bSortS) cr_sortedS z_sorted (dCons (dLc rfl sc_law_keys.nd (blkOk_by (N := nm_law_keys) (sc := defScope s_law_keys) (own := [("k", 6)]) (by decide +kernel)) (diR1 z_range (dVar 1)) rfl (fun _ _ _ _ _ => (cgOne 6 sc_law_keys.nd)) (fun _ _ _ _ _ => dYes) (fun _ _ _ _ _ => (dOp (o := oAddS) op_add_str (dOp (o := oAddS) op_add_str (dVar 3) (dIx (o := oIxS) ix_str (dVar 2) (dOp (o := oMod) op_mod (dTy (bb := bInt) call_int1 z_int (dCons (dOp (o := oAdd) op_add (dVar 5) (dOp (o := oMul) op_mul dInt (dVar 6))) dNil) (by decide +kernel)) dInt))) (dVar 4)))) dNil) (by decide +kernel))))))))) (vc_law_keys)
def sp_law_ring (Z : Cs) : Pm := fun ds M Φ _ => ∃ (st p q : Addr), ds = [.ref st, .ref p] ∧ GS M st ∧ Rg Z M p q [] ∧ st ≠ p ∧ st ≠ q ∧ ∀ (r : Addr) (c : Pl2) M', OKP c → c.length ≤ 7 → GS M' st → Rg Z M' p q c → M' r = some (.dct (kdN c)) → r ≠ q → r ≠ st → (∀ a m, M a = some m → a ≠ st → a ≠ q → M' a = some m) → Φ (.ref r) M'
/-! _law_ring -/
abbrev s_law_ring : Stmt := top 25
abbrev nm_law_ring : List Str := ["state", "ring", "places", "k", "host"]
theorem sc_law_ring : FnScope ["state", "ring", "places", "k", "host"] ["state", "ring"] (defScope s_law_ring) := ⟨rfl, rfl, rfl, by decide +kernel, rfl, by decide +kernel, by decide +kernel⟩
def b_law_ring (Z : Cs) : XS K T :=
  (sSeq (sAs xDN (gN 2))
  (sSeq (sFor (iR1 (xCall sp_law_draw (aCons (xVar 0) (aCons (xInt 8) aNil)))) (gN 3)
    (sSeq (sAs (xCall sp_law_draw (aCons (xVar 0) (aCons (xOp oIxL (xLst (aCons (xInt 4) (aCons (xInt 26) aNil))) (xCall sp_law_draw (aCons (xVar 0) (aCons (xInt 2) aNil)))) aNil))) (gN 4))
  (sIf (qT (xOp (oInK true) (xVar 4) (xVar 2))) (sSeq (sDSt (xVar 2) (xVar 4) (xOp oAdd (xInt 1) (xCall sp_law_draw (aCons (xVar 0) (aCons (xInt 6) aNil)))))
  (sEx (xMeth Z.Ring "add" (sp_Ring_add Z) (xVar 1) (aCons (xVar 4) (aCons (xDGet (xVar 2) (xVar 4)) aNil))))) sNx)))
  (sRet (xVar 2))))
theorem len_law_ring (Z : Cs) : ∀ ds M Φ Ξ, sp_law_ring Z ds M Φ Ξ → ds.length = 2 := by
  rintro _ _ _ _ ⟨st, p, q, rfl, _⟩
  rfl
theorem vc_law_ring (Z : Cs) (hZ : ZOk K Z) : ∀ ds M Φ Ξ, sp_law_ring Z ds M Φ Ξ → Wp (b_law_ring Z : XS K T) 5 ds M Φ := by
  rintro _ M Φ Ξ ⟨st, p, q, rfl, hg, hR, n1, n2, h⟩
  unfold Wp b_law_ring
  walk_at "vc"
  intro r hr
  have nr := hg.ne hr
  obtain ⟨⟨dx, hp⟩, hq⟩ := hR
  have nqr : q ≠ r := ne_nn hq hr
  have npr : p ≠ r := ne_nn hp hr
  have npq : p ≠ q := fun z => by rw [z, hq] at hp; cases hp
  refine ⟨st, 8, rfl, hg.u nr, by decide, by decide, fun n M1 a0 a1 g1 s1 => ?_⟩
  walk_at "vc"
  have k1 : ∀ a m, um M r (.dct []) a = some m → a ≠ st → M1 a = some m := fun a m e n => s1 a m e n
  refine ⟨by omega, by omega, fun i ρ' M' => ∃ o3 o4 c, ρ' = [some (.ref st), some (.ref p), some (.ref r), o3, o4] ∧ OKP c ∧ c.length ≤ i ∧ GS M' st ∧ Rg Z M' p q c ∧ M' r = some (.dct (kdN c)) ∧ (∀ a m, M a = some m → a ≠ st → a ≠ q → M' a = some m), ⟨none, none, [], rfl, ⟨List.nodup_nil, by simp, by simp, by simp⟩, Nat.le_refl _, g1, ⟨⟨dx, k1 _ _ ((um_ne npr).trans hp) n1.symm⟩, k1 _ _ ((um_ne nqr).trans hq) n2.symm⟩, k1 _ _ um_same nr, fun a m ha z1 z2 => k1 _ _ ((um_ne (ne_nn ha hr)).trans ha) z1⟩, fun _ _ _ _ => trivial, ?_, ?_⟩
  · rintro i d ρ' M2 hd ⟨o3, o4, c, rfl, ok, hl, g, ⟨⟨dx2, hp2⟩, hq2⟩, hr2, hk⟩
    obtain ⟨hi, rfl⟩ := rngD_get hd
    walk_at "vc"
    refine ⟨st, 2, rfl, g, by decide, by decide, fun x1 M3 b0 b1 g3 s3 => ?_⟩
    walk_at "vc"
    have hcase : x1 = 0 ∨ x1 = 1 := by omega
    have hx : ∃ m : Int, 0 < m ∧ m ≤ 26 ∧ ∀ k : D → Prop, at_ [.int 4, .int 26] x1 k = k (.int m) := by
      rcases hcase with rfl | rfl
      · exact ⟨4, by decide, by decide, fun k => rfl⟩
      · exact ⟨26, by decide, by decide, fun k => rfl⟩
    obtain ⟨m, m0, m1, hm⟩ := hx
    rw [hm]
    refine ⟨st, m, rfl, g3, m0, by omega, fun x2 M4 c0 c1 g4 s4 => ?_⟩
    have s24 := s3.trans s4
    have hr4 := s24 _ _ hr2 nr
    have hq4 := s24 _ _ hq2 n2.symm
    have hp4 := s24 _ _ hp2 n1.symm
    have hk4 : ∀ a m, M a = some m → a ≠ st → a ≠ q → M4 a = some m := fun a m ha z1 z2 => s24 _ _ (hk a m ha z1 z2) z1
    walk_at "vc"
    rw [dget_1 hr4]
    show if (vK (kdN c) (Sum.inl x2)).isSome = false then _ else _
    rw [kdN_some]
    refine ite2 (fun z => ?_) (fun z => ⟨_, _, c, rfl, ok, by omega, g4, ⟨⟨dx2, hp4⟩, hq4⟩, hr4, hk4⟩)
    have hn : x2 ∉ c.map Prod.fst := of_decide_eq_false z
    refine ⟨st, 6, rfl, g4, by decide, by decide, fun x3 M5 d0 d1 g5 s5 => ?_⟩
    have hr5 := s5 _ _ hr4 nr
    have hq5 := s5 _ _ hq4 n2.symm
    have hp5 := s5 _ _ hp4 n1.symm
    have hk5 : ∀ a m, M a = some m → a ≠ st → a ≠ q → M5 a = some m := fun a m ha z1 z2 => s5 _ _ (hk4 a m ha z1 z2) z1
    walk_at "vc"
    have nd2 : ((c ++ [(x2, 1 + x3)]).map Prod.fst).Nodup := by
      rw [List.map_append, List.nodup_append]
      exact ⟨ok.nd, by simp, fun y hy z hz => by simp at hz; subst hz; exact fun e => hn (e ▸ hy)⟩
    have ok2 : OKP (c ++ [(x2, 1 + x3)]) := ⟨nd2, fun e he => (List.mem_append.mp he).elim (ok.hs e) fun y => by rw [List.mem_singleton.mp y]; exact ⟨c0, by simp only; omega⟩, fun e he => (List.mem_append.mp he).elim (ok.ns e) fun y => by rw [List.mem_singleton.mp y]; simp only; omega, by rw [List.length_append]; simp; omega⟩
    have cl := ok.ln
    rw [dput_1 hr5]
    refine ⟨by show List.length (List.map _ c) < 100000; rw [List.length_map]; omega, ?_⟩
    show mI (um M5 r (.dct (pK (kdN c) (Sum.inl x2) (.int (1 + x3))))) p _
    rw [kdN_put, pK_new _ (vK_none.mpr hn), mI_of ((um_ne npr).trans hp5)]
    refine ⟨rfl, lk1 (by decide +kernel), ?_⟩
    rw [dget_1 um_same]
    refine ⟨.int (1 + x3), by rw [kdN_get, vK_of nd2 (List.mem_append_right _ (List.mem_singleton.mpr rfl))]; rfl, p, q, c, x2, 1 + x3, rfl, ⟨⟨dx2, (um_ne npr).trans hp5⟩, (um_ne nqr).trans hq5⟩, by omega, fun _ => ?_, fun y => absurd y hn⟩
    exact ⟨_, _, _, rfl, ok2, by rw [List.length_append]; simp; omega, (g5.u nr).u n2.symm, ⟨⟨dx2, (um_ne npq).trans ((um_ne npr).trans hp5)⟩, um_same⟩, (um_ne nqr.symm).trans um_same, fun a m ha z1 z2 => (um_ne z2).trans ((um_ne (ne_nn ha hr)).trans (hk5 a m ha z1 z2))⟩
  · rintro ρ' M2 ⟨o3, o4, c, rfl, ok, hl, g, hR2, hr2, hk⟩
    walk_at "vc"
    exact h r c M2 ok (by omega) g hR2 hr2 nqr.symm nr hk
theorem cl_law_ring (F : Df K mg "_law_ring" s_law_ring) {Z : Cs} (hZ : ZOk K Z) (z_range : mg "range" = none) (c_Ring_add : Me P w K mg base T 1 Z.Ring "add" (sp_Ring_add Z)) (c_law_draw : Cl P w K mg base T 3 "_law_draw" sp_law_draw) : Cl P w K mg base T 4 "_law_ring" (sp_law_ring Z) :=
  cl0 F sc_law_ring (b_law_ring Z) (len_law_ring Z) (fun _ _ _ _ _ _ us hl => match us, hl with | [_, _], _ => rfl) (fun f cdv A outer s H E hr =>
  (dsCons (dAs dDN (dN 2 sc_law_ring.nd))
  (dsCons (dFor PassesOwn.never rfl (diR1 z_range (dCall c_law_draw hr (by decide) takes0 (dCons (dVar 0) (dCons dInt dNil)))) (dN 3 sc_law_ring.nd)
    (dsCons (dAs (dCall c_law_draw hr (by decide) takes0 (dCons (dVar 0) (dCons (dIx (o := oIxL) ix_list (dLst (dCons dInt (dCons dInt dNil))) (dCall c_law_draw hr (by decide) takes0 (dCons (dVar 0) (dCons dInt dNil)))) dNil))) (dN 4 sc_law_ring.nd))
  (dsOne (dsIf (dqT (o := (oInK true)) (op_notInK (un1r hr)) (dVar 4) (dVar 2)) (dsCons (dDSt (un1r hr) (dVar 2) (dVar 4) (dOp (o := oAdd) op_add dInt (dCall c_law_draw hr (by decide) takes0 (dCons (dVar 0) (dCons dInt dNil)))))
  (dsOne (dEx (dMeth c_Ring_add hr (by decide) takes0 (dVar 1) (dCons (dVar 4) (dCons (dDGet (un1r hr) (dVar 2) (dVar 4)) dNil)))))) dsNil))))
  (dsOne (dRet (dVar 2)))))) (vc_law_ring Z hZ)
theorem nodup_take {l : List Int} {i : Nat} {x : Int} (h : l.Nodup) (e : l[i]? = some x) : x ∉ l.take i := fun z => by
  have h2 : (l.take (i + 1)).Nodup := h.sublist (List.take_sublist _ _)
  rw [take_at e, List.nodup_append] at h2
  exact h2.2.2 x z x List.mem_cons_self rfl
def sp_law_copy (Z : Cs) : Pm := fun ds M Φ _ => ∃ (r : Addr) (c : Pl2), ds = [.ref r] ∧ M r = some (.dct (kdN c)) ∧ OKP c ∧ c.length ≤ 7 ∧ ∀ (p q : Addr) M', M p = none → M q = none → Kp M M' → Rg Z M' p q c → Φ (.ref p) M'
/-! _law_copy -/
abbrev s_law_copy : Stmt := top 26
abbrev nm_law_copy : List Str := ["places", "ring", "host"]
theorem sc_law_copy : FnScope ["places", "ring", "host"] ["places"] (defScope s_law_copy) := ⟨rfl, rfl, rfl, by decide +kernel, rfl, by decide +kernel, by decide +kernel⟩
def b_law_copy (Z : Cs) : XS K T :=
  (sSeq (sAs (xMake Z.Ring (sp_Ring___init__ Z) aNil) (gN 1))
  (sSeq (sLk (sFor (iDK (xVar 0)) (gN 2)
    (sEx (xMeth Z.Ring "add" (sp_Ring_add Z) (xVar 1) (aCons (xVar 2) (aCons (xDGet (xVar 0) (xVar 2)) aNil))))))
  (sRet (xVar 1))))
theorem len_law_copy (Z : Cs) : ∀ ds M Φ Ξ, sp_law_copy Z ds M Φ Ξ → ds.length = 1 := by
  rintro _ _ _ _ ⟨r, c, rfl, _⟩
  rfl
theorem vc_law_copy (Z : Cs) (hZ : ZOk K Z) : ∀ ds M Φ Ξ, sp_law_copy Z ds M Φ Ξ → Wp (b_law_copy Z : XS K T) 3 ds M Φ := by
  rintro _ M Φ Ξ ⟨r, c, rfl, hr, ok, h7, h⟩
  unfold Wp b_law_copy
  walk_at "vc"
  walk_at "vc"
  intro p dx hp
  refine ⟨p, dx, rfl, um_same, fun q hq => ⟨rfl, ?_⟩⟩
  obtain ⟨nqp, npq, hMq⟩ := um_none hq
  have nrp := ne_nn hr hp
  have nrq := ne_nn hr hMq
  have hr2 : um (um (um M p (.ins Z.Ring dx [])) q (.dct [])) p (.ins Z.Ring dx [("_places", .ref q)]) r = some (.dct (kdN c)) := (um_ne nrp).trans ((um_ne nrq).trans ((um_ne nrp).trans hr))
  refine ⟨r, ?_⟩
  rw [lkd_1 hr2, wlkK_1 um_same, kdN_kd]
  refine ⟨fun i ρ' M' => ∃ o2, ρ' = [some (.ref r), some (.ref p), o2] ∧ M' r = some (.dlk (kdN c)) ∧ Rg Z M' p q (c.take i) ∧ (∀ a, a ≠ r → a ≠ p → a ≠ q → M' a = M a), ⟨none, rfl, um_same, ⟨⟨dx, (um_ne nrp.symm).trans um_same⟩, (um_ne nrq.symm).trans ((um_ne nqp).trans um_same)⟩, fun a a1 a2 a3 => (um_ne a1).trans ((um_ne a2).trans ((um_ne a3).trans (um_ne a2)))⟩, fun _ _ _ _ => trivial, ?_, ?_⟩
  · rintro i d ρ' M' hd ⟨o2, rfl, hmr, hRi, hrest⟩
    rw [List.map_map] at hd
    obtain ⟨⟨h1, n1⟩, ee, rfl⟩ := map_get' hd
    obtain ⟨⟨dx2, hp2⟩, hq2⟩ := id hRi
    simp only [Function.comp]
    walk_at "vc"
    rw [mI_of hp2]
    refine ⟨rfl, lk1 (by decide +kernel), ?_⟩
    rw [dget_2 hmr]
    have hni : h1 ∉ (c.take i).map Prod.fst := by
      have q1 := nodup_take (x := h1) ok.nd (by rw [List.getElem?_map, ee]; rfl)
      rwa [← List.map_take] at q1
    refine ⟨.int n1, by rw [kdN_get, vK_of ok.nd (List.mem_of_getElem? ee)]; rfl, p, q, c.take i, h1, n1, rfl, hRi, by rw [List.length_take]; omega, fun _ => ?_, fun y => absurd y hni⟩
    refine ⟨_, rfl, (um_ne nrq).trans hmr, ⟨⟨dx2, (um_ne npq).trans hp2⟩, ?_⟩, fun a a1 a2 a3 => (um_ne a3).trans (hrest a a1 a2 a3)⟩
    rw [um_same, take_at ee]
  · rintro ρ' M' ⟨o2, rfl, hmr, ⟨⟨dx2, hp2⟩, hq2⟩, hrest⟩
    rw [List.length_map, List.length_map, List.take_length] at hq2
    refine ⟨hmr, ?_⟩
    walk_at "vc"
    refine h p q _ hp hMq (fun a m ha => ?_) ⟨⟨dx2, (um_ne nrp.symm).trans hp2⟩, (um_ne nrq.symm).trans hq2⟩
    by_cases z : a = r
    · subst z; rw [um_same]; rw [hr] at ha; exact ha
    · rw [um_ne z, hrest a z (ne_nn ha hp) (ne_nn ha hMq)]; exact ha
theorem cl_law_copy (F : Df K mg "_law_copy" s_law_copy) {Z : Cs} (hZ : ZOk K Z) (c_Ring___init__ : Mc P w K mg base T 1 "Ring" Z.Ring (sp_Ring___init__ Z)) (c_Ring_add : Me P w K mg base T 1 Z.Ring "add" (sp_Ring_add Z)) : Cl P w K mg base T 3 "_law_copy" (sp_law_copy Z) :=
  cl0 F sc_law_copy (b_law_copy Z) (len_law_copy Z) (fun _ _ _ _ _ _ us hl => match us, hl with | [_], _ => rfl) (fun f cdv A outer s H E hr =>
  (dsCons (dAs (dMake0 c_Ring___init__ hr (by decide)) (dN 1 sc_law_copy.nd))
  (dsCons (dLkS (dFor PassesOwn.never rfl (diDK (dVar 0)) (dN 2 sc_law_copy.nd)
    (dsOne (dEx (dMeth c_Ring_add hr (by decide) takes0 (dVar 1) (dCons (dVar 2) (dCons (dDGet (un1r hr) (dVar 0) (dVar 2)) dNil)))))))
  (dsOne (dRet (dVar 1)))))) (vc_law_copy Z hZ)
theorem mvD_nb {f g : Str → Option Int} {k : Str} (h : Kk k) : Nb 3 (mvD f g k) := nb_tup (by simp) fun x hx => by
  simp only [List.mem_cons, List.not_mem_nil, or_false] at hx
  rcases hx with rfl | rfl | rfl
  · exact nb_str h
  · exact oD_nb _
  · exact oD_nb _
def sp_law_due : Pm := fun ds M Φ _ => ∃ (b a : Addr) (f g : Str → Option Int) (ks : List Str), ds = [.ref b, .ref a, .lst (ks.map D.str)] ∧ M b = some (.dct (tbl f ks)) ∧ M a = some (.dct (tbl g ks)) ∧ ks.length < 64 ∧ (∀ k ∈ ks, Kk k) ∧ ∀ (zs : List Str) (l : Addr) M', zs.Perm ks → sortedS zs = true → M l = none → Kp M M' → M' l = some (.lst (mv f g (dds zs))) → Φ (.ref l) M'
/-! _law_due -/
abbrev s_law_due : Stmt := top 27
abbrev nm_law_due : List Str := ["before", "after", "keys", "found", "key", "old", "new"]
theorem sc_law_due : FnScope ["before", "after", "keys", "found", "key", "old", "new"] ["before", "after", "keys"] (defScope s_law_due) := ⟨rfl, rfl, rfl, by decide +kernel, rfl, by decide +kernel, by decide +kernel⟩
def b_law_due : XS K T :=
  (sSeq (sAs (xLstM aNil) (gN 3))
  (sSeq (sFor (iL (xB bSortS (aCons (xVar 2) aNil))) (gN 4)
    (sSeq (sAs (xDGet (xVar 0) (xVar 4)) (gN 5))
  (sSeq (sAs (xDGet (xVar 1) (xVar 4)) (gN 6))
  (sIf (qAnd (qT (xOp oNeD (xVar 5) (xVar 6))) (qT (xOp (oInN true) (xTup (aCons (xVar 4) (aCons (xVar 5) (aCons (xVar 6) aNil)))) (xVar 3)))) (sEx (xApp (xVar 3) (xTup (aCons (xVar 4) (aCons (xVar 5) (aCons (xVar 6) aNil)))))) sNx))))
  (sRet (xVar 3))))
theorem len_law_due : ∀ ds M Φ Ξ, sp_law_due ds M Φ Ξ → ds.length = 3 := by
  rintro _ _ _ _ ⟨b, a, f, g, ks, rfl, _⟩
  rfl
theorem vc_law_due : ∀ ds M Φ Ξ, sp_law_due ds M Φ Ξ → Wp (b_law_due : XS K T) 7 ds M Φ := by
  rintro _ M Φ Ξ ⟨b, a, f, g, ks, rfl, hb, ha, h64, hk, h⟩
  unfold Wp b_law_due
  walk_at "vc"
  intro l hl
  walk_at "vc"
  refine ⟨h64, fun zs pm so => ?_⟩
  have hzl := pm.length_eq
  refine ⟨fun i ρ' M' => ∃ o4 o5 o6, ρ' = [some (.ref b), some (.ref a), some (.lst (ks.map D.str)), some (.ref l), o4, o5, o6] ∧ Kp M M' ∧ M' l = some (.lst (mv f g (dds (zs.take i)))), ⟨none, none, none, rfl, Kp.new hl, um_same⟩, fun _ _ _ _ => trivial, ?_, ?_⟩
  · rintro i d ρ' M' hd ⟨o4, o5, o6, rfl, kp, hml⟩
    obtain ⟨k, ek, rfl⟩ := map_get' hd
    have hi := (List.getElem?_eq_some_iff.mp ek).1
    have hkm : k ∈ ks := pm.mem_iff.mp (List.mem_of_getElem? ek)
    have dl := dds_le (zs.take i)
    have ml := mv_le f g (dds (zs.take i))
    rw [List.length_take] at dl
    walk_at "vc"
    rw [dget_1 (kp _ _ hb)]
    refine ⟨_, tbl_mem hkm, ?_⟩
    walk_at "vc"
    rw [dget_1 (kp _ _ ha)]
    refine ⟨_, tbl_mem hkm, ?_⟩
    walk_at "vc"
    have et := dds_take ek
    have es := mv_snoc f g (dds (zs.take i)) k
    refine eqNb (R := fun b => if b = false then _ else _) (n := 3) (by decide) (oD_nb _) (oD_nb _) (fun e => ?_) (fun e => ?_)
    · rw [if_neg (by simp)]
      refine ⟨_, _, _, rfl, kp, ?_⟩
      rw [if_neg (by simp [oD_inj.mp e]), List.append_nil] at es
      rw [et]
      split
      · exact hml
      · rw [es]; exact hml
    · have hne : f k ≠ g k := fun z => e (oD_inj.mpr z)
      rw [if_pos hne] at es
      rw [if_pos rfl]
      walk_at "vc"
      refine inNb (R := fun t => if t = false then _ else _) (n := 3) (by decide) (mvD_nb (hk k hkm)) (.inr ⟨l, rfl, hml⟩) (by omega) (fun d hd => ?_) (fun hin => ?_) (fun hnin => ?_)
      · obtain ⟨k2, hk2, rfl⟩ := List.mem_map.mp (show d ∈ List.map (mvD f g) _ from hd)
        have hk3 := (List.mem_filter.mp hk2).1
        have hz := (dds_ok (zs.take i).reverse).2.2 k2
        rw [List.reverse_reverse, List.mem_reverse] at hz
        exact mvD_nb (hk k2 (pm.mem_iff.mp (List.mem_of_mem_take (hz.mp hk3))))
      · rw [if_neg (by simp)]
        have hin2 := (mv_mem.mp hin).1
        rw [if_pos hin2] at et
        exact ⟨_, _, _, rfl, kp, by rw [et]; exact hml⟩
      · rw [if_pos rfl]
        have hni : k ∉ dds (zs.take i) := fun z => hnin (mv_mem.mpr ⟨z, hne⟩)
        rw [if_neg hni] at et
        simp only [mL_of hml]
        refine ⟨by omega, _, _, _, rfl, fun a m ha => (um_ne (ne_nn ha hl)).trans (kp _ _ ha), ?_⟩
        rw [um_same, et, es]; rfl
  · rintro ρ' M' ⟨o4, o5, o6, rfl, kp, hml⟩
    rw [List.length_map, List.take_length] at hml
    walk_at "vc"
    exact h zs l M' pm so hl kp hml
theorem cl_law_due (F : Df K mg "_law_due" s_law_due) (z_sorted : mg "sorted" = none) : Cl P w K mg base T 1 "_law_due" sp_law_due :=
  cl0 F sc_law_due (b_law_due) (len_law_due) (fun _ _ _ _ _ _ us hl => match us, hl with | [_, _, _], _ => rfl) (fun f cdv A outer s H E hr =>
  (dsCons (dAs (dLstM dNil) (dN 3 sc_law_due.nd))
  (dsCons (dFor PassesOwn.never rfl (diL (dB (bb := bSortS) cr_sortedS z_sorted (dCons (dVar 2) dNil) (by decide +kernel))) (dN 4 sc_law_due.nd)
    (dsCons (dAs (dDGet (un1r hr) (dVar 0) (dVar 4)) (dN 5 sc_law_due.nd))
  (dsCons (dAs (dDGet (un1r hr) (dVar 1) (dVar 4)) (dN 6 sc_law_due.nd))
  (dsOne (dsIf ((dwAnd (dqT (o := oNeD) (op_neD (un64 hr)) (dVar 5) (dVar 6)) (dw1A (dqT (o := (oInN true)) (op_notInN (un65 hr)) (dTup (dCons (dVar 4) (dCons (dVar 5) (dCons (dVar 6) dNil)))) (dVar 3))))).pt (dsOne (dEx (dApp (dVar 3) (dTup (dCons (dVar 4) (dCons (dVar 5) (dCons (dVar 6) dNil))))))) dsNil)))))
  (dsOne (dRet (dVar 3)))))) (vc_law_due)
def sp_law_homes_of (Z : Cs) : Pm := fun ds M Φ _ => ∃ (p q : Addr) (c : Pl2) (ks : List Str), ds = [.ref p, .lst (ks.map D.str)] ∧ Rg Z M p q c ∧ OKP c ∧ ks.length < 64 ∧ ∀ (r : Addr) M', M r = none → Kp M M' → M' r = some (.dct (tbl (hdo c) ks)) → Φ (.ref r) M'
/-! _law_homes_of -/
abbrev s_law_homes_of : Stmt := top 28
abbrev nm_law_homes_of : List Str := ["ring", "keys", "table", "key", "homes"]
theorem sc_law_homes_of : FnScope ["ring", "keys", "table", "key", "homes"] ["ring", "keys"] (defScope s_law_homes_of) := ⟨rfl, rfl, rfl, by decide +kernel, rfl, by decide +kernel, by decide +kernel⟩
def b_law_homes_of (Z : Cs) : XS K T :=
  (sSeq (sAs xDN (gN 2))
  (sSeq (sFor (iL (xVar 1)) (gN 3)
    (sSeq (sAs (xMeth Z.Ring "homes" (sp_Ring_homes Z) (xVar 0) (aCons (xVar 3) aNil)) (gN 4))
  (sSeq (sDSt (xVar 2) (xVar 3) xNon)
  (sIf (qT (xOp oGt (xB bLen (aCons (xVar 4) aNil)) (xInt 0))) (sDSt (xVar 2) (xVar 3) (xOp oIxL (xVar 4) (xInt 0))) sNx))))
  (sRet (xVar 2))))
theorem len_law_homes_of (Z : Cs) : ∀ ds M Φ Ξ, sp_law_homes_of Z ds M Φ Ξ → ds.length = 2 := by
  rintro _ _ _ _ ⟨p, q, c, ks, rfl, _⟩
  rfl
theorem vc_law_homes_of (Z : Cs) (hZ : ZOk K Z) : ∀ ds M Φ Ξ, sp_law_homes_of Z ds M Φ Ξ → Wp (b_law_homes_of Z : XS K T) 5 ds M Φ := by
  rintro _ M Φ Ξ ⟨p, q, c, ks, rfl, hR, ok, h64, h⟩
  unfold Wp b_law_homes_of
  walk_at "vc"
  intro r hr
  walk_at "vc"
  obtain ⟨⟨dx, hp⟩, hq⟩ := id hR
  refine ⟨fun i ρ' M' => ∃ o3 o4, ρ' = [some (.ref p), some (.lst (ks.map D.str)), some (.ref r), o3, o4] ∧ Kp M M' ∧ M' r = some (.dct (tbl (hdo c) (ks.take i))), ⟨none, none, rfl, Kp.new hr, um_same⟩, fun _ _ _ _ => trivial, ?_, ?_⟩
  · rintro i d ρ' M' hd ⟨o3, o4, rfl, kp, hmr⟩
    obtain ⟨k, ek, rfl⟩ := map_get' hd
    have tl := tbl_le (hdo c) (ks.take i)
    rw [List.length_take] at tl
    walk_at "vc"
    rw [mI_of (kp _ _ hp)]
    refine ⟨rfl, lk1 (by decide +kernel), p, q, c, k, rfl, hR.kp kp, ok, fun l M2 hl kp2 hm => ?_⟩
    have hmr2 := kp2 _ _ hmr
    have nrl := ne_nn hmr hl
    walk_at "vc"
    rw [dput_1 hmr2]
    refine ⟨by omega, ?_⟩
    walk_at "vc"
    have kp3 : ∀ m, Kp M (um M2 r m) := fun m a ob ha => (um_ne (ne_nn ha hr)).trans (kp2 _ _ (kp _ _ ha))
    have et := tbl_take (f := hdo c) ek
    rw [mL_of ((um_ne nrl.symm).trans hm)]
    cases e : hms c k with
    | nil =>
      have eh : hdo c k = none := by unfold hdo; rw [e]; rfl
      rw [if_neg (by simp)]
      refine ⟨_, _, rfl, kp3 _, ?_⟩
      rw [um_same, et, eh]; rfl
    | cons x r2 =>
      have eh : hdo c k = some x := by unfold hdo; rw [e]; rfl
      rw [if_pos (by simp only [List.map_cons, List.length_cons]; omega), mL_of ((um_ne nrl.symm).trans (by rw [hm, e])), show (0 : Int) = ((0 : Nat) : Int) from rfl, at_nat (show (List.map D.int (x :: r2))[0]? = some (.int x) from rfl), dput_1 um_same]
      have pl := pK_len (tbl (hdo c) (ks.take i)) (Sum.inr k : Key) D.non
      refine ⟨by omega, _, _, rfl, ?_, ?_⟩
      · rw [um_um]; exact kp3 _
      · rw [um_same, et, eh]; exact congrArg (fun z => some (MO.dct z)) (pK_pK _ _ _ _)
  · rintro ρ' M' ⟨o3, o4, rfl, kp, hmr⟩
    rw [List.length_map, List.take_length] at hmr
    walk_at "vc"
    exact h r M' hr kp hmr
theorem cl_law_homes_of (F : Df K mg "_law_homes_of" s_law_homes_of) {Z : Cs} (hZ : ZOk K Z) (z_len : mg "len" = none) (c_Ring_homes : Me P w K mg base T 4 Z.Ring "homes" (sp_Ring_homes Z)) : Cl P w K mg base T 5 "_law_homes_of" (sp_law_homes_of Z) :=
  cl0 F sc_law_homes_of (b_law_homes_of Z) (len_law_homes_of Z) (fun _ _ _ _ _ _ us hl => match us, hl with | [_, _], _ => rfl) (fun f cdv A outer s H E hr =>
  (dsCons (dAs dDN (dN 2 sc_law_homes_of.nd))
  (dsCons (dFor PassesOwn.never rfl (diL (dVar 1)) (dN 3 sc_law_homes_of.nd)
    (dsCons (dAs (dMeth c_Ring_homes hr (by decide) takes0 (dVar 0) (dCons (dVar 3) dNil)) (dN 4 sc_law_homes_of.nd))
  (dsCons (dDSt (un1r hr) (dVar 2) (dVar 3) dNon)
  (dsOne (dsIf (dqT (o := oGt) op_gt (dB (bb := bLen) call_len_seq z_len (dCons (dVar 4) dNil) PySem.boot_len) dInt) (dsOne (dDSt (un1r hr) (dVar 2) (dVar 3) (dIx (o := oIxL) ix_list (dVar 4) dInt))) dsNil)))))
  (dsOne (dRet (dVar 2)))))) (vc_law_homes_of Z hZ)
theorem atXs (xs : List Str) {r : Int} (h0 : 0 ≤ r) (h1 : r < xs.length) : ∃ k, k ∈ xs ∧ ∀ f : D → Prop, at_ (xs.map D.str) r f = f (.str k) := by
  obtain ⟨c, e1, e2⟩ := atI_in (l := xs.map D.str) h0 (by rw [List.length_map]; exact h1)
  rw [List.getElem?_map] at e2
  cases e3 : xs[r.toNat]? with
  | none => rw [e3] at e2; cases e2
  | some k =>
    rw [e3] at e2
    cases e2
    exact ⟨k, List.mem_of_getElem? e3, fun f => at_of e1⟩
/-- what stands through the whole law -/
structure LS (Z : Cs) (M : Mh) (st p q r t1 : Addr) (c : Pl2) (ks : List Str) : Prop where
  g : GS M st
  R : Rg Z M p q c
  mr : M r = some (.dct (kdN c))
  mt : M t1 = some (.dct (tbl (hdo c) ks))
  np : p ≠ st
  nq : q ≠ st
  nr : r ≠ st
  nt : t1 ≠ st
theorem LS.kp {Z : Cs} {M M' : Mh} {st p q r t1 : Addr} {c : Pl2} {ks : List Str} (h : LS Z M st p q r t1 c ks) (k : Kp M M') : LS Z M' st p q r t1 c ks := ⟨h.g.kp k, h.R.kp k, k _ _ h.mr, k _ _ h.mt, h.np, h.nq, h.nr, h.nt⟩
theorem LS.sam {Z : Cs} {M M' : Mh} {st p q r t1 : Addr} {c : Pl2} {ks : List Str} (h : LS Z M st p q r t1 c ks) (g : GS M' st) (s : Sam st M M') : LS Z M' st p q r t1 c ks :=
  ⟨g, (let ⟨⟨dx, a⟩, b⟩ := h.R; ⟨⟨dx, s _ _ a h.np⟩, s _ _ b h.nq⟩), s _ _ h.mr h.nr, s _ _ h.mt h.nt, h.np, h.nq, h.nr, h.nt⟩
theorem LS.off {Z : Cs} {M : Mh} {st p q r t1 y : Addr} {m : MO} {c : Pl2} {ks : List Str} (h : LS Z M st p q r t1 c ks) (a0 : y ≠ st) (a1 : p ≠ y) (a2 : q ≠ y) (a3 : r ≠ y) (a4 : t1 ≠ y) : LS Z (um M y m) st p q r t1 c ks :=
  ⟨h.g.u a0, (let ⟨⟨dx, a⟩, b⟩ := h.R; ⟨⟨dx, (um_ne a1).trans a⟩, (um_ne a2).trans b⟩), (um_ne a3).trans h.mr, (um_ne a4).trans h.mt, h.np, h.nq, h.nr, h.nt⟩
theorem eqRef {n : Nat} {A : List D} {M : Mh} {a b : D} {R : Bool → Prop} (hn : n ≤ 50) (ha : a = .lst A ∨ ∃ p, a = .ref p ∧ M p = some (.lst A)) (hb : b = .lst A ∨ ∃ p, b = .ref p ∧ M p = some (.lst A)) (hA : Nb n (.lst A)) (h1 : R true) :
    asPy a M fun x => asPy b M fun y => SeqAt.shaped x = true ∧ SeqAt.shaped y = true ∧ R (PyData.eqv x y) := by
  have h := eqNb (M := M) (R := R) hn hA hA (fun _ => h1) (fun e => absurd rfl e)
  obtain ⟨x, ex, y, ey, h3⟩ := (show ∃ x, dP (.lst A) = some x ∧ ∃ y, dP (.lst A) = some y ∧ SeqAt.shaped x = true ∧ SeqAt.shaped y = true ∧ R (PyData.eqv x y) from h)
  have hy : asPy b M fun y => SeqAt.shaped x = true ∧ SeqAt.shaped y = true ∧ R (PyData.eqv x y) := by
    rcases hb with rfl | ⟨p, rfl, hp⟩
    · exact ⟨y, ey, h3⟩
    · exact asPy_ref hp ⟨y, ey, h3⟩
  rcases ha with rfl | ⟨p, rfl, hp⟩
  · exact ⟨x, ex, hy⟩
  · exact asPy_ref hp ⟨x, ex, hy⟩
theorem mv_nb {f g : Str → Option Int} {ys ks : List Str} (hm : ∀ k, k ∈ ys → k ∈ ks) (hl : ys.length < 64) (hk : ∀ k ∈ ks, Kk k) : Nb 4 (.lst (mv f g ys)) := nb_lst (by have := mv_le f g ys; omega) fun d hd => by
  obtain ⟨k2, hk2, rfl⟩ := List.mem_map.mp (show d ∈ List.map (mvD f g) _ from hd)
  exact mvD_nb (hk k2 (hm k2 (List.mem_filter.mp hk2).1))
structure KO (c : Pl2) (ks : List Str) : Prop where
  ok : OKP c
  h7 : c.length ≤ 7
  h10 : ks.length < 64
  kk : ∀ k ∈ ks, Kk k
theorem ok_app {c : Pl2} {ks : List Str} {x n : Int} (ko : KO c ks) (hx : In26 x) (hn : x ∉ c.map Prod.fst) (h0 : 1 ≤ n) (h1 : n ≤ 6) : OKP (c ++ [(x, n)]) := by
  have ok := ko.ok
  refine ⟨?_, fun e he => (List.mem_append.mp he).elim (ok.hs e) fun y => by rw [List.mem_singleton.mp y]; exact hx, fun e he => (List.mem_append.mp he).elim (ok.ns e) fun y => by rw [List.mem_singleton.mp y]; exact ⟨h0, h1⟩, by have := ko.h7; rw [List.length_append, List.length_cons, List.length_nil]; omega⟩
  rw [List.map_append, List.nodup_append]
  exact ⟨ok.nd, by simp, fun y hy z hz => by simp at hz; subst hz; exact fun e => hn (e ▸ hy)⟩
theorem atIs (xs : List Int) {r : Int} (h0 : 0 ≤ r) (h1 : r < xs.length) : ∃ k, k ∈ xs ∧ ∀ f : D → Prop, at_ (xs.map D.int) r f = f (.int k) := by
  obtain ⟨c, e1, e2⟩ := atI_in (l := xs.map D.int) h0 (by rw [List.length_map]; exact h1)
  rw [List.getElem?_map] at e2
  cases e3 : xs[r.toNat]? with
  | none => rw [e3] at e2; cases e2
  | some k =>
    rw [e3] at e2
    cases e2
    exact ⟨k, List.mem_of_getElem? e3, fun f => at_of e1⟩
abbrev sp_law : Pm := spLaw
/-! law -/
abbrev s_law : Stmt := top 29
abbrev nm_law : List Str := ["script", "state", "keys", "ring", "places", "first", "host", "added", "after", "key", "gone", "second", "homes", "left"]
theorem sc_law : FnScope ["script", "state", "keys", "ring", "places", "first", "host", "added", "after", "key", "gone", "second", "homes", "left"] ["script"] (defScope s_law) := ⟨rfl, rfl, rfl, by decide +kernel, rfl, by decide +kernel, by decide +kernel⟩
def b_law_t1 (Z : Cs) : XS K T :=
  (sSeq (sIf (qT (xOp oNeD (xCall (sp_moves Z) (aCons (xVar 3) (aCons (xVar 7) (aCons (xVar 2) aNil)))) (xCall sp_law_due (aCons (xVar 5) (aCons (xVar 8) (aCons (xVar 2) aNil)))))) (sRet (xBl false)) sNx)
  (sSeq (sEx (xMeth Z.Ring "remove" (sp_Ring_remove Z) (xVar 7) (aCons (xVar 6) aNil)))
  (sIf (qOr (qT (xOp oNeD (xMeth Z.Ring "points" (sp_Ring_points Z) (xVar 7) aNil) (xMeth Z.Ring "points" (sp_Ring_points Z) (xVar 3) aNil))) (qT (xOp oNeD (xCall (sp_moves Z) (aCons (xVar 3) (aCons (xVar 7) (aCons (xVar 2) aNil)))) (xLst aNil)))) (sRet (xBl false)) sNx)))
def b_law_t2 (Z : Cs) : XS K T :=
  (sCut (sFor (iL (xVar 2)) (gN 9)
    (sIf (qAnd (qT (xOp oNeD (xDGet (xVar 8) (xVar 9)) (xDGet (xVar 5) (xVar 9)))) (qT (xOp oNe (xDGet (xVar 8) (xVar 9)) (xVar 6)))) (sRet (xBl false)) sNx))
  (b_law_t1 Z))
def b_law_t3 (Z : Cs) : XS K T :=
  (sSeq (sIf (qT (xOp (oEqDc true) (xCall (sp_law_homes_of Z) (aCons (xVar 13) (aCons (xVar 2) aNil))) (xVar 11))) (sRet (xBl false)) sNx)
  (sRet (xOp oEqD (xCall (sp_moves Z) (aCons (xVar 3) (aCons (xVar 13) (aCons (xVar 2) aNil)))) (xCall sp_law_due (aCons (xVar 5) (aCons (xVar 11) (aCons (xVar 2) aNil)))))))
def b_law_t4 (Z : Cs) : XS K T :=
  (sSeq (sAs (xCall (sp_law_copy Z) (aCons (xVar 4) aNil)) (gN 13))
  (sCut (sEx (xMeth Z.Ring "remove" (sp_Ring_remove Z) (xVar 13) (aCons (xVar 10) aNil)))
  (b_law_t3 Z)))
def b_law_t5 (Z : Cs) : XS K T :=
  (sCut (sFor (iL (xVar 2)) (gN 9)
    (sSeq (sAs (xOp oCatL (xMeth Z.Ring "homes" (sp_Ring_homes Z) (xVar 3) (aCons (xVar 9) aNil)) (xLst (aCons xNon (aCons xNon aNil)))) (gN 12))
  (sSeq (sDSt (xVar 11) (xVar 9) (xOp oIxL (xVar 12) (xInt 0)))
  (sIf (qT (xOp oEq (xOp oIxL (xVar 12) (xInt 0)) (xVar 10))) (sDSt (xVar 11) (xVar 9) (xOp oIxL (xVar 12) (xInt 1))) sNx))))
  (b_law_t4 Z))
def b_law_t6 (Z : Cs) : XS K T :=
  (sSeq (sIf (qT (xOp oGt (xB bLenD (aCons (xVar 4) aNil)) (xInt 0))) (sSeq (sAs (xOp oIxL (xB bSortI (aCons (xB bListD (aCons (xVar 4) aNil)) aNil)) (xCall sp_law_draw (aCons (xVar 1) (aCons (xB bLenD (aCons (xVar 4) aNil)) aNil)))) (gN 10))
  (sCut (sAs xDN (gN 11))
  (b_law_t5 Z))) sNx)
  (sRet (xOp oEqD (xCall (sp_moves Z) (aCons (xVar 3) (aCons (xMake Z.Ring (sp_Ring___init__ Z) aNil) (aCons (xVar 2) aNil)))) (xLst aNil))))
def b_law_t7 (Z : Cs) : XS K T :=
  (sCut (sIf (qT (xOp (oInK true) (xVar 6) (xVar 4))) (sSeq (sAs (xCall (sp_law_copy Z) (aCons (xVar 4) aNil)) (gN 7))
  (sSeq (sEx (xMeth Z.Ring "add" (sp_Ring_add Z) (xVar 7) (aCons (xVar 6) (aCons (xOp oAdd (xInt 1) (xCall sp_law_draw (aCons (xVar 1) (aCons (xInt 6) aNil)))) aNil))))
  (sCut (sAs (xCall (sp_law_homes_of Z) (aCons (xVar 7) (aCons (xVar 2) aNil))) (gN 8))
  (b_law_t2 Z)))) sNx)
  (b_law_t6 Z))
def b_law_t8 (Z : Cs) : XS K T :=
  (sSeq (sAs (xCall (sp_law_homes_of Z) (aCons (xVar 3) (aCons (xVar 2) aNil))) (gN 5))
  (sCut (sAs (xCall sp_law_draw (aCons (xVar 1) (aCons (xInt 26) aNil))) (gN 6))
  (b_law_t7 Z)))
def b_law (Z : Cs) : XS K T :=
  (sSeq (sAs (xCall sp_law_state (aCons (xVar 0) aNil)) (gN 1))
  (sSeq (sAs (xCall sp_law_keys (aCons (xVar 1) (aCons (xInt 8) aNil))) (gN 2))
  (sSeq (sAs (xOp oCatL (xVar 2) (xLst (aCons (xOp oIxL (xVar 2) (xCall sp_law_draw (aCons (xVar 1) (aCons (xInt 8) aNil)))) (aCons (xCall sp_law_word (aCons (xVar 1) (aCons (xOp oAdd (xInt 1) (xCall sp_law_draw (aCons (xVar 1) (aCons (xInt 8) aNil)))) aNil))) aNil)))) (gN 2))
  (sSeq (sAs (xMake Z.Ring (sp_Ring___init__ Z) aNil) (gN 3))
  (sCut (sAs (xCall (sp_law_ring Z) (aCons (xVar 1) (aCons (xVar 3) aNil))) (gN 4))
  (b_law_t8 Z))))))
theorem len_law : ∀ ds M Φ Ξ, sp_law ds M Φ Ξ → ds.length = 1 := by
  rintro _ _ _ _ ⟨ns, rfl, _⟩
  rfl
theorem vc_law (Z : Cs) (hZ : ZOk K Z) : ∀ ds M Φ Ξ, sp_law ds M Φ Ξ → Wp (b_law Z : XS K T) 14 ds M Φ := by
  rintro _ M Φ Ξ ⟨ns, rfl, _, h⟩
  unfold Wp b_law
  walk_at "vc"
  refine ⟨ns, rfl, fun st M1 g1 _ _ => ?_⟩
  walk_at "vc"
  refine ⟨st, 8, rfl, g1, by decide, by decide, fun xs M2 hxl hxk g2 s2 => ?_⟩
  walk_at "vc"
  refine ⟨st, 8, rfl, g2, by decide, by decide, fun r3 M3 a0 a1 g3 s3 => ?_⟩
  walk_at "vc"
  obtain ⟨k0, ek0, e0⟩ := atXs xs a0 (by omega : r3 < xs.length)
  rw [e0]
  refine ⟨st, 8, rfl, g3, by decide, by decide, fun r4 M4 b0 b1 g4 s4 => ?_⟩
  walk_at "vc"
  refine ⟨st, 1 + r4, rfl, g4, by omega, by omega, fun w M5 hw kw g5 s5 => ?_⟩
  walk_at "vc"
  have e0 : List.map D.str xs ++ [D.str k0, D.str w] = (xs ++ [k0, w]).map D.str := by rw [List.map_append]; rfl
  have h10 : (xs ++ [k0, w]).length < 64 := by rw [List.length_append, List.length_cons, List.length_cons, List.length_nil]; omega
  have hkk : ∀ k ∈ xs ++ [k0, w], Kk k := fun k hk => by
    rcases List.mem_append.mp hk with z | z
    · exact (hxk k z).2.2
    · simp only [List.mem_cons, List.not_mem_nil, or_false] at z
      rcases z with rfl | rfl
      · exact (hxk _ ek0).2.2
      · exact kw
  rw [e0]
  generalize xs ++ [k0, w] = ks at h10 hkk
  refine ⟨by rw [List.length_map]; omega, fun p dx hp => ?_⟩
  have n1 := g5.ne hp
  refine ⟨p, dx, rfl, um_same, fun q hq => ⟨rfl, ?_⟩⟩
  obtain ⟨nqp, npq, hMq⟩ := um_none hq
  have n2 := g5.ne hMq
  have okN : OKP [] := ⟨List.nodup_nil, by simp, by simp, by simp⟩
  have hR0 : Rg Z (um (um (um M5 p (.ins Z.Ring dx [])) q (.dct [])) p (.ins Z.Ring dx [("_places", .ref q)])) p q [] := ⟨⟨dx, um_same⟩, (um_ne nqp).trans um_same⟩
  have g6 : GS (um (um (um M5 p (.ins Z.Ring dx [])) q (.dct [])) p (.ins Z.Ring dx [("_places", .ref q)])) st := ((g5.u n1).u n2).u n1
  generalize um (um (um M5 p (.ins Z.Ring dx [])) q (.dct [])) p (.ins Z.Ring dx [("_places", .ref q)]) = M6 at g6 hR0
  walk_at "vc"
  refine ⟨fun ρ' M' => ∃ r c, ρ' = [some (.lsw (ns.map D.int)), some (.ref st), some (.lst (ks.map D.str)), some (.ref p), some (.ref r), none, none, none, none, none, none, none, none, none] ∧ KO c ks ∧ GS M' st ∧ Rg Z M' p q c ∧ M' r = some (.dct (kdN c)) ∧ r ≠ st, ?_, ?_⟩
  · exact ⟨st, p, q, rfl, g6, hR0, n1.symm, n2.symm, fun r c M7 ok h7 g7 hR7 hr7 n4 n5 _ => ⟨r, c, rfl, ⟨ok, h7, h10, hkk⟩, g7, hR7, hr7, n5⟩⟩
  rintro ρ' M7 ⟨r, c, rfl, ko, g7, hR7, hr7, n5⟩
  unfold b_law_t8
  walk_at "vc"
  refine ⟨p, q, c, ks, rfl, hR7, ko.ok, ko.h10, fun t1 M8 ht1 kp8 hm8 => ?_⟩
  have ls8 : LS Z M8 st p q r t1 c ks := ⟨g7.kp kp8, hR7.kp kp8, kp8 _ _ hr7, hm8, n1, n2, n5, g7.ne ht1⟩
  walk_at "vc"
  refine ⟨fun ρ' M' => ∃ x : Int, ρ' = [some (.lsw (ns.map D.int)), some (.ref st), some (.lst (ks.map D.str)), some (.ref p), some (.ref r), some (.ref t1), some (.int x), none, none, none, none, none, none, none] ∧ In26 x ∧ LS Z M' st p q r t1 c ks, ?_, ?_⟩
  · exact ⟨st, 26, rfl, ls8.g, by decide, by decide, fun x M9 c0 c1 g9 s9 => ⟨x, rfl, ⟨c0, c1⟩, ls8.sam g9 s9⟩⟩
  rintro ρ' M9 ⟨x, rfl, hx, ls9⟩
  unfold b_law_t7
  walk_at "vc"
  refine ⟨fun ρ' M' => ∃ o7 o8 o9, ρ' = [some (.lsw (ns.map D.int)), some (.ref st), some (.lst (ks.map D.str)), some (.ref p), some (.ref r), some (.ref t1), some (.int x), o7, o8, o9, none, none, none, none] ∧ LS Z M' st p q r t1 c ks, ?_, ?_⟩
  · rw [dget_1 ls9.mr]
    show if (vK (kdN c) (Sum.inl x)).isSome = false then _ else _
    rw [kdN_some]
    refine ite2 (fun z => ?_) (fun z => ⟨_, _, _, rfl, ls9⟩)
    have hn : x ∉ c.map Prod.fst := of_decide_eq_false z
    refine ⟨r, c, rfl, ls9.mr, ko.ok, ko.h7, fun p2 q2 M10 hp2 hq2 kp10 hR10 => ?_⟩
    have ls10 := ls9.kp kp10
    have m1 := ls9.g.ne hp2
    have m2 := ls9.g.ne hq2
    have m3 : r ≠ q2 := ne_nn ls9.mr hq2
    have m4 : t1 ≠ q2 := ne_nn ls9.mt hq2
    have m5 : q ≠ q2 := ne_nn ls9.R.2 hq2
    have m6 : p ≠ q2 := (let ⟨⟨dx, a⟩, b⟩ := ls9.R; ne_nn a hq2)
    walk_at "vc"
    obtain ⟨⟨dx2, hp10⟩, hq10⟩ := id hR10
    rw [mI_of hp10]
    refine ⟨rfl, lk1 (by decide +kernel), st, 6, rfl, ls10.g, by decide, by decide, fun n M11 d0 d1 g11 s11 => ?_⟩
    walk_at "vc"
    have ls11 := ls10.sam g11 s11
    have hp11 := s11 _ _ hp10 m1
    have hq11 := s11 _ _ hq10 m2
    have npq2 : p2 ≠ q2 := fun z => by rw [z, hq10] at hp10; cases hp10
    have ok12 : OKP (c ++ [(x, 1 + n)]) := ok_app ko hx hn (by omega) (by omega)
    refine ⟨p2, q2, c, x, 1 + n, rfl, ⟨⟨dx2, hp11⟩, hq11⟩, ko.h7, fun _ => ?_, fun y => absurd y hn⟩
    have dK2 : dK (c ++ [(x, 1 + n)]) x = c := dK_app hn
    have hx2 : x ∈ (c ++ [(x, 1 + n)]).map Prod.fst := by rw [List.map_append]; simp
    generalize c ++ [(x, 1 + n)] = c2 at ok12 dK2 hx2
    have ls12 : LS Z (um M11 q2 (.dct (kdN c2))) st p q r t1 c ks := ls11.off m2 m6 m5 m3 m4
    have hR12 : Rg Z (um M11 q2 (.dct (kdN c2))) p2 q2 c2 := ⟨⟨dx2, (um_ne npq2).trans hp11⟩, um_same⟩
    generalize um M11 q2 (.dct (kdN c2)) = M12 at ls12 hR12
    walk_at "vc"
    refine ⟨fun ρ' M' => ∃ t2, ρ' = [some (.lsw (ns.map D.int)), some (.ref st), some (.lst (ks.map D.str)), some (.ref p), some (.ref r), some (.ref t1), some (.int x), some (.ref p2), some (.ref t2), none, none, none, none, none] ∧ LS Z M' st p q r t1 c ks ∧ Rg Z M' p2 q2 c2 ∧ M' t2 = some (.dct (tbl (hdo c2) ks)), ?_, ?_⟩
    · exact ⟨p2, q2, c2, ks, rfl, hR12, ok12, ko.h10, fun t2 M13 ht2 kp13 hm13 => ⟨t2, rfl, ls12.kp kp13, hR12.kp kp13, hm13⟩⟩
    rintro ρ' M13 ⟨t2, rfl, ls13, hR13, hm13⟩
    unfold b_law_t2
    walk_at "vc"
    refine ⟨fun ρ' M' => ∃ o9, ρ' = [some (.lsw (ns.map D.int)), some (.ref st), some (.lst (ks.map D.str)), some (.ref p), some (.ref r), some (.ref t1), some (.int x), some (.ref p2), some (.ref t2), o9, none, none, none, none] ∧ M' = M13, ?_, ?_⟩
    · refine ⟨fun i ρ' M' => ∃ o9, ρ' = [some (.lsw (ns.map D.int)), some (.ref st), some (.lst (ks.map D.str)), some (.ref p), some (.ref r), some (.ref t1), some (.int x), some (.ref p2), some (.ref t2), o9, none, none, none, none] ∧ M' = M13, ⟨none, rfl, rfl⟩, fun _ _ _ _ => trivial, ?_, ?_⟩
      · rintro i d ρ' M' hd ⟨o9, rfl, rfl⟩
        obtain ⟨k, ek, rfl⟩ := map_get' hd
        have hk := List.mem_of_getElem? ek
        walk_at "vc"
        rw [dget_1 hm13]
        refine ⟨_, tbl_mem hk, ?_⟩
        walk_at "vc"
        rw [dget_1 ls13.mt]
        refine ⟨_, tbl_mem hk, ?_⟩
        walk_at "vc"
        refine eqNb (R := fun b => if b = false then _ else _) (n := 3) (by decide) (oD_nb _) (oD_nb _) (fun e => ?_) (fun e => ?_)
        · rw [if_neg (by simp)]
          exact ⟨_, rfl⟩
        · rw [if_pos rfl]
          walk_at "vc"
          rw [dget_1 hm13]
          refine ⟨_, tbl_mem hk, ?_⟩
          have e2 : hdo c2 k = some x := by
            rcases hdo_less (c := c2) (x := x) (k := k) with z | z
            · exact z
            · rw [dK2] at z; exact absurd (oD_inj.mpr z) e
          rw [e2]
          unfold oD
          walk_at "vc"
          exact ⟨_, rfl⟩
      · rintro ρ' M' ⟨o9, rfl, rfl⟩
        exact ⟨_, rfl, rfl⟩
    rintro ρ' M14 ⟨o9, rfl, rfl⟩
    unfold b_law_t1
    walk_at "vc"
    refine ⟨p, q, p2, q2, c, c2, ks, rfl, ls13.R, hR13, ko.ok, ok12, ko.h10, fun ys l1 M15 nd so hm hl1 kp15 hml1 => ?_⟩
    walk_at "vc"
    refine ⟨t1, t2, hdo c, hdo c2, ks, rfl, kp15 _ _ ls13.mt, kp15 _ _ hm13, ko.h10, ko.kk, fun zs l2 M16 pm so2 hl2 kp16 hml2 => ?_⟩
    walk_at "vc"
    have hyl : ys.length < 64 := Nat.lt_of_le_of_lt (nodup_len ys ks nd fun x hx => (hm x).mp hx) ko.h10
    rw [srt_one nd so hm pm so2] at hml2
    refine eqRef (R := fun b => if b = false then _ else _) (n := 4) (by decide) (.inr ⟨l1, rfl, kp16 _ _ hml1⟩) (.inr ⟨l2, rfl, hml2⟩) (mv_nb (fun k hk => (hm k).mp hk) hyl ko.kk) ?_
    rw [if_neg (by simp)]
    have ls16 := (ls13.kp kp15).kp kp16
    have hR16 := (hR13.kp kp15).kp kp16
    obtain ⟨⟨dx3, hp16⟩, hq16⟩ := id hR16
    walk_at "vc"
    rw [mI_of hp16]
    have hxm : x ∈ c2.map Prod.fst := hx2
    refine ⟨rfl, lk1 (by decide +kernel), p2, q2, c2, x, rfl, hR16, ok12.nd, fun _ => ?_, fun y => absurd hxm y⟩
    rw [dK2]
    have ls17 : LS Z (um M16 q2 (.dct (kdN c))) st p q r t1 c ks := ls16.off m2 m6 m5 m3 m4
    have hR17 : Rg Z (um M16 q2 (.dct (kdN c))) p2 q2 c := ⟨⟨dx3, (um_ne npq2).trans hp16⟩, um_same⟩
    generalize um M16 q2 (.dct (kdN c)) = M17 at ls17 hR17
    obtain ⟨⟨dx4, hp17⟩, hq17⟩ := id hR17
    obtain ⟨⟨dx5, hp18⟩, hq18⟩ := id ls17.R
    walk_at "vc"
    rw [mI_of hp17]
    refine ⟨rfl, lk1 (by decide +kernel), p2, q2, c, rfl, hR17, ko.ok, ?_⟩
    walk_at "vc"
    rw [mI_of hp18]
    refine ⟨rfl, lk1 (by decide +kernel), p, q, c, rfl, ls17.R, ko.ok, ?_⟩
    walk_at "vc"
    have sl := srtP_len ko.ok
    refine eqRef (R := fun b => if b = false then _ else _) (n := 4) (by decide) (.inl rfl) (.inl rfl) (nbTs (l := srtP c) (by omega)).up ?_
    rw [if_neg (by simp)]
    walk_at "vc"
    refine ⟨p, q, p2, q2, c, c, ks, rfl, ls17.R, hR17, ko.ok, ko.ok, ko.h10, fun ys l1 M18 nd so hm hl1 kp18 hml1 => ?_⟩
    walk_at "vc"
    rw [mv_same] at hml1
    refine eqRef (R := fun b => if b = false then _ else _) (n := 4) (by decide) (.inr ⟨l1, rfl, hml1⟩) (.inl rfl) (nb_lst (by simp) (by simp)) ?_
    rw [if_neg (by simp)]
    exact ⟨_, _, _, rfl, ls17.kp kp18⟩
  rintro ρ' M10 ⟨o7, o8, o9, rfl, ls10⟩
  unfold b_law_t6
  walk_at "vc"
  rw [mD_of ls10.mr]
  have hcl : (kdN c).length = c.length := List.length_map _
  have ch7 := ko.h7
  refine ite2 (fun z => ?_) (fun z => ?_)
  · rw [mDr_1 ls10.mr, kdN_kd, asIs_]
    intro ys pm so
    rw [mD_of ls10.mr]
    refine ⟨st, ((kdN c).length : Int), rfl, ls10.g, by omega, by omega, fun i M11 e0 e1 g11 s11 => ?_⟩
    have ls11 := ls10.sam g11 s11
    walk_at "vc"
    have hyl := pm.length_eq
    rw [List.length_map] at hyl
    obtain ⟨gone, hg, eg⟩ := atIs ys e0 (by omega)
    rw [eg]
    have hgm : gone ∈ c.map Prod.fst := pm.mem_iff.mp hg
    refine ⟨fun ρ' M' => ∃ t3, ρ' = [some (.lsw (ns.map D.int)), some (.ref st), some (.lst (ks.map D.str)), some (.ref p), some (.ref r), some (.ref t1), some (.int x), o7, o8, o9, some (.int gone), some (.ref t3), none, none] ∧ LS Z M' st p q r t1 c ks ∧ M' t3 = some (.dct []) ∧ (t3 ≠ st ∧ p ≠ t3 ∧ q ≠ t3 ∧ r ≠ t3 ∧ t1 ≠ t3), fun t3 ht3 => ⟨t3, rfl, ls11.kp (Kp.new ht3), um_same, ls11.g.ne ht3, (let ⟨⟨dx, a⟩, b⟩ := ls11.R; ne_nn a ht3), ne_nn ls11.R.2 ht3, ne_nn ls11.mr ht3, ne_nn ls11.mt ht3⟩, ?_⟩
    rintro ρ' M12 ⟨t3, rfl, ls12, hm12, u1, u2, u3, u4, u5⟩
    unfold b_law_t5
    walk_at "vc"
    refine ⟨fun ρ' M' => ∃ o9 o12, ρ' = [some (.lsw (ns.map D.int)), some (.ref st), some (.lst (ks.map D.str)), some (.ref p), some (.ref r), some (.ref t1), some (.int x), o7, o8, o9, some (.int gone), some (.ref t3), o12, none] ∧ LS Z M' st p q r t1 c ks ∧ M' t3 = some (.dct (tbl (hdo (dK c gone)) ks)), ?_, ?_⟩
    · refine ⟨fun i ρ' M' => ∃ o9 o12, ρ' = [some (.lsw (ns.map D.int)), some (.ref st), some (.lst (ks.map D.str)), some (.ref p), some (.ref r), some (.ref t1), some (.int x), o7, o8, o9, some (.int gone), some (.ref t3), o12, none] ∧ LS Z M' st p q r t1 c ks ∧ M' t3 = some (.dct (tbl (hdo (dK c gone)) (ks.take i))), ⟨_, _, rfl, ls12, hm12⟩, fun _ _ _ _ => trivial, ?_, ?_⟩
      · rintro i d ρ' M13 hd ⟨o9, o12, rfl, ls13, hm13⟩
        obtain ⟨k, ek, rfl⟩ := map_get' hd
        obtain ⟨⟨dx6, hp13⟩, hq13⟩ := id ls13.R
        walk_at "vc"
        rw [mI_of hp13]
        refine ⟨rfl, lk1 (by decide +kernel), p, q, c, k, rfl, ls13.R, ko.ok, fun l M14 hl kp14 hml => ?_⟩
        have ls14 := ls13.kp kp14
        have hm14 := kp14 _ _ hm13
        have et := tbl_take (f := hdo (dK c gone)) ek
        have es := hdo_second (c := c) (x := gone) (k := k)
        have tl := tbl_le (hdo (dK c gone)) (ks.take i)
        rw [List.length_take] at tl
        have hml2 := hms_len ko.ok k
        have hh := ko.h10
        walk_at "vc"
        rw [mL_of hml]
        have pl := fun d => pK_len (tbl (hdo (dK c gone)) (ks.take i)) (Sum.inr k : Key) d
        have fin : ∀ d m, d = oD (hdo (dK c gone) k) → m = (MO.dct (pK (tbl (hdo (dK c gone)) (ks.take i)) (Sum.inr k) d)) → LS Z (um M14 t3 m) st p q r t1 c ks ∧ um M14 t3 m t3 = some (.dct (tbl (hdo (dK c gone)) (ks.take (i + 1)))) := fun d m e1 e2 => by
          subst e1 e2
          exact ⟨ls14.off u1 u2 u3 u4 u5, by rw [um_same, et]⟩
        rw [es] at fin
        refine ⟨by rw [List.length_map]; omega, ?_⟩
        cases e : hms c k with
        | nil =>
          rw [e] at fin
          rw [List.map_nil, List.nil_append]
          walk_at "vc"
          rw [dput_1 hm14]
          refine ⟨by omega, ?_⟩
          walk_at "vc"
          exact ⟨_, _, rfl, fin _ _ rfl rfl⟩
        | cons y L =>
          rw [e] at fin
          rw [List.map_cons, List.cons_append]
          walk_at "vc"
          rw [dput_1 hm14]
          refine ⟨by omega, ?_⟩
          walk_at "vc"
          by_cases hy : y = gone
          · subst hy
            rw [if_pos rfl]
            rw [List.head?_cons, if_pos rfl] at fin
            cases L with
            | nil =>
              rw [List.map_nil, List.nil_append]
              walk_at "vc"
              rw [dput_1 um_same]
              have := pl (D.int y)
              refine ⟨by omega, _, _, rfl, ?_⟩
              rw [um_um, pK_pK]
              exact fin _ _ rfl rfl
            | cons y2 L =>
              rw [List.map_cons, List.cons_append]
              walk_at "vc"
              rw [dput_1 um_same]
              have := pl (D.int y)
              refine ⟨by omega, _, _, rfl, ?_⟩
              rw [um_um, pK_pK]
              exact fin _ _ rfl rfl
          · rw [if_neg hy]
            rw [List.head?_cons, if_neg (fun z => hy (Option.some.inj z))] at fin
            exact ⟨_, _, rfl, fin _ _ rfl rfl⟩
      · rintro ρ' M13 ⟨o9, o12, rfl, ls13, hm13⟩
        rw [List.length_map, List.take_length] at hm13
        exact ⟨_, _, rfl, ls13, hm13⟩
    rintro ρ' M13 ⟨o9, o12, rfl, ls13, hm13⟩
    unfold b_law_t4
    walk_at "vc"
    refine ⟨r, c, rfl, ls13.mr, ko.ok, ko.h7, fun p2 q2 M14 hp2 hq2 kp14 hR14 => ?_⟩
    have ls14 := ls13.kp kp14
    have hm14 := kp14 _ _ hm13
    have m2 := ls13.g.ne hq2
    have m3 : r ≠ q2 := ne_nn ls13.mr hq2
    have m4 : t1 ≠ q2 := ne_nn ls13.mt hq2
    have m5 : q ≠ q2 := ne_nn ls13.R.2 hq2
    have m6 : p ≠ q2 := (let ⟨⟨dx, a⟩, b⟩ := ls13.R; ne_nn a hq2)
    have m7 : t3 ≠ q2 := ne_nn hm13 hq2
    obtain ⟨⟨dx2, hp14⟩, hq14⟩ := id hR14
    have npq2 : p2 ≠ q2 := fun z => by rw [z, hq14] at hp14; cases hp14
    walk_at "vc"
    refine ⟨fun ρ' M' => ρ' = [some (.lsw (ns.map D.int)), some (.ref st), some (.lst (ks.map D.str)), some (.ref p), some (.ref r), some (.ref t1), some (.int x), o7, o8, o9, some (.int gone), some (.ref t3), o12, some (.ref p2)] ∧ LS Z M' st p q r t1 c ks ∧ M' t3 = some (.dct (tbl (hdo (dK c gone)) ks)) ∧ Rg Z M' p2 q2 (dK c gone), ?_, ?_⟩
    · rw [mI_of hp14]
      exact ⟨rfl, lk1 (by decide +kernel), p2, q2, c, gone, rfl, hR14, ko.ok.nd, fun _ => ⟨rfl, ls14.off m2 m6 m5 m3 m4, (um_ne m7).trans hm14, ⟨dx2, (um_ne npq2).trans hp14⟩, um_same⟩, fun y => absurd hgm y⟩
    rintro ρ' M15 ⟨rfl, ls15, hm15, hR15⟩
    unfold b_law_t3
    have okd := ko.ok.drop gone
    walk_at "vc"
    refine ⟨p2, q2, dK c gone, ks, rfl, hR15, okd, ko.h10, fun t4 M16 ht4 kp16 hm16 => ?_⟩
    walk_at "vc"
    have hm16b := kp16 _ _ hm15
    rw [mD_of hm16, mD_of hm16b]
    refine ⟨tbl_eqDs _ _, ?_⟩
    have ls16 := ls15.kp kp16
    have hR16 := hR15.kp kp16
    walk_at "vc"
    refine ⟨p, q, p2, q2, c, dK c gone, ks, rfl, ls16.R, hR16, ko.ok, okd, ko.h10, fun ys l1 M17 nd so hm hl1 kp17 hml1 => ?_⟩
    walk_at "vc"
    refine ⟨t1, t3, hdo c, hdo (dK c gone), ks, rfl, kp17 _ _ ls16.mt, kp17 _ _ hm16b, ko.h10, ko.kk, fun zs l2 M18 pm so2 hl2 kp18 hml2 => ?_⟩
    walk_at "vc"
    have hyl : ys.length < 64 := Nat.lt_of_le_of_lt (nodup_len ys ks nd fun x hx => (hm x).mp hx) ko.h10
    rw [srt_one nd so hm pm so2] at hml2
    exact eqRef (R := fun b => Φ (.bl b) M18) (n := 4) (by decide) (.inr ⟨l1, rfl, kp18 _ _ hml1⟩) (.inr ⟨l2, rfl, hml2⟩) (mv_nb (fun k hk => (hm k).mp hk) hyl ko.kk) (h M18)
  · have hc0 : c = [] := List.length_eq_zero_iff.mp (by omega)
    subst hc0
    intro p2 dx2 hp2
    refine ⟨p2, dx2, rfl, um_same, fun q2 hq2 => ⟨rfl, ?_⟩⟩
    obtain ⟨nqp2, npq2, hMq2⟩ := um_none hq2
    have kpN : Kp M10 (um (um (um M10 p2 (.ins Z.Ring dx2 [])) q2 (.dct [])) p2 (.ins Z.Ring dx2 [("_places", .ref q2)])) := fun a m ha => (um_ne (ne_nn ha hp2)).trans ((um_ne (ne_nn ha hMq2)).trans ((um_ne (ne_nn ha hp2)).trans ha))
    refine ⟨p, q, p2, q2, [], [], ks, rfl, ls10.R.kp kpN, ⟨⟨dx2, um_same⟩, (um_ne nqp2).trans um_same⟩, ko.ok, ko.ok, ko.h10, fun ys l1 M18 nd so hm hl1 kp18 hml1 => ?_⟩
    rw [mv_same] at hml1
    exact eqRef (R := fun b => Φ (.bl b) M18) (n := 4) (by decide) (.inr ⟨l1, rfl, hml1⟩) (.inl rfl) (nb_lst (by simp) (by simp)) (h M18)
theorem fn_law {f : Addr} {fd : FuncData} (F : Fun K "law" "law" s_law f fd) {Z : Cs} (hZ : ZOk K Z) (z_len : mg "len" = none) (z_list : mg "list" = none) (z_sorted : mg "sorted" = none) (c_Ring___init__ : Mc P w K mg base T 1 "Ring" Z.Ring (sp_Ring___init__ Z)) (c_Ring_add : Me P w K mg base T 1 Z.Ring "add" (sp_Ring_add Z)) (c_Ring_homes : Me P w K mg base T 4 Z.Ring "homes" (sp_Ring_homes Z)) (c_Ring_points : Me P w K mg base T 3 Z.Ring "points" (sp_Ring_points Z)) (c_Ring_remove : Me P w K mg base T 1 Z.Ring "remove" (sp_Ring_remove Z)) (c_law_copy : Cl P w K mg base T 3 "_law_copy" (sp_law_copy Z)) (c_law_draw : Cl P w K mg base T 3 "_law_draw" sp_law_draw) (c_law_due : Cl P w K mg base T 1 "_law_due" sp_law_due) (c_law_homes_of : Cl P w K mg base T 5 "_law_homes_of" (sp_law_homes_of Z)) (c_law_keys : Cl P w K mg base T 5 "_law_keys" sp_law_keys) (c_law_ring : Cl P w K mg base T 4 "_law_ring" (sp_law_ring Z)) (c_law_state : Cl P w K mg base T 1 "_law_state" sp_law_state) (c_law_word : Cl P w K mg base T 4 "_law_word" sp_law_word) (c_moves : Cl P w K mg base T 7 "moves" (sp_moves Z)) : FnOk P w K mg base (L2.CX P w) 8 f fd ["script"] (spOf K T spLaw) :=
  fn0 F sc_law (b_law Z) (len_law) (fun f cdv A outer s H E hr =>
  (dsCons (dAs (dCall c_law_state hr (by decide) takes0 (dCons (dVar 0) dNil)) (dN 1 sc_law.nd))
  (dsCons (dAs (dCall c_law_keys hr (by decide) takes0 (dCons (dVar 1) (dCons dInt dNil))) (dN 2 sc_law.nd))
  (dsCons (dAs (dOp (o := oCatL) op_cat (dVar 2) (dLst (dCons (dIx (o := oIxL) ix_list (dVar 2) (dCall c_law_draw hr (by decide) takes0 (dCons (dVar 1) (dCons dInt dNil)))) (dCons (dCall c_law_word hr (by decide) takes0 (dCons (dVar 1) (dCons (dOp (o := oAdd) op_add dInt (dCall c_law_draw hr (by decide) takes0 (dCons (dVar 1) (dCons dInt dNil)))) dNil))) dNil)))) (dN 2 sc_law.nd))
  (dsCons (dAs (dMake0 c_Ring___init__ hr (by decide)) (dN 3 sc_law.nd))
  (dsCut (dAs (dCall c_law_ring hr (by decide) takes0 (dCons (dVar 1) (dCons (dVar 3) dNil))) (dN 4 sc_law.nd))
  (dsCons (dAs (dCall c_law_homes_of hr (by decide) takes0 (dCons (dVar 3) (dCons (dVar 2) dNil))) (dN 5 sc_law.nd))
  (dsCut (dAs (dCall c_law_draw hr (by decide) takes0 (dCons (dVar 1) (dCons dInt dNil))) (dN 6 sc_law.nd))
  (dsCut (dsIf (dqT (o := (oInK true)) (op_notInK (un1r hr)) (dVar 6) (dVar 4)) (dsCons (dAs (dCall c_law_copy hr (by decide) takes0 (dCons (dVar 4) dNil)) (dN 7 sc_law.nd))
  (dsCons (dEx (dMeth c_Ring_add hr (by decide) takes0 (dVar 7) (dCons (dVar 6) (dCons (dOp (o := oAdd) op_add dInt (dCall c_law_draw hr (by decide) takes0 (dCons (dVar 1) (dCons dInt dNil)))) dNil))))
  (dsCut (dAs (dCall c_law_homes_of hr (by decide) takes0 (dCons (dVar 7) (dCons (dVar 2) dNil))) (dN 8 sc_law.nd))
  (dsCut (dFor PassesOwn.never rfl (diL (dVar 2)) (dN 9 sc_law.nd)
    (dsOne (dsIf ((dwAnd (dqT (o := oNeD) (op_neD (un64 hr)) (dDGet (un1r hr) (dVar 8) (dVar 9)) (dDGet (un1r hr) (dVar 5) (dVar 9))) (dw1A (dqT (o := oNe) op_ne (dDGet (un1r hr) (dVar 8) (dVar 9)) (dVar 6))))).pt (dsOne (dRet dBl)) dsNil)))
  (dsCons (dsIf (dqT (o := oNeD) (op_neD (un64 hr)) (dCall c_moves hr (by decide) takes0 (dCons (dVar 3) (dCons (dVar 7) (dCons (dVar 2) dNil)))) (dCall c_law_due hr (by decide) takes0 (dCons (dVar 5) (dCons (dVar 8) (dCons (dVar 2) dNil))))) (dsOne (dRet dBl)) dsNil)
  (dsCons (dEx (dMeth c_Ring_remove hr (by decide) takes0 (dVar 7) (dCons (dVar 6) dNil)))
  (dsOne (dsIf ((dwOr (dqT (o := oNeD) (op_neD (un64 hr)) (dMeth0 c_Ring_points hr (by decide) takes0 (dVar 7)) (dMeth0 c_Ring_points hr (by decide) takes0 (dVar 3))) (dw1O (dqT (o := oNeD) (op_neD (un64 hr)) (dCall c_moves hr (by decide) takes0 (dCons (dVar 3) (dCons (dVar 7) (dCons (dVar 2) dNil)))) (dLst dNil))))).pt (dsOne (dRet dBl)) dsNil)))))))) dsNil)
  (dsCons (dsIf (dqT (o := oGt) op_gt (dB (bb := bLenD) call_lenD z_len (dCons (dVar 4) dNil) PySem.boot_len) dInt) (dsCons (dAs (dIx (o := oIxL) ix_list (dB (bb := bSortI) cr_sortedI z_sorted (dCons (dTy (bb := bListD) (call_listD rfl) z_list (dCons (dVar 4) dNil) (by decide +kernel)) dNil) (by decide +kernel)) (dCall c_law_draw hr (by decide) takes0 (dCons (dVar 1) (dCons (dB (bb := bLenD) call_lenD z_len (dCons (dVar 4) dNil) PySem.boot_len) dNil)))) (dN 10 sc_law.nd))
  (dsCut (dAs dDN (dN 11 sc_law.nd))
  (dsCut (dFor PassesOwn.never rfl (diL (dVar 2)) (dN 9 sc_law.nd)
    (dsCons (dAs (dOp (o := oCatL) op_cat (dMeth c_Ring_homes hr (by decide) takes0 (dVar 3) (dCons (dVar 9) dNil)) (dLst (dCons dNon (dCons dNon dNil)))) (dN 12 sc_law.nd))
  (dsCons (dDSt (un1r hr) (dVar 11) (dVar 9) (dIx (o := oIxL) ix_list (dVar 12) dInt))
  (dsOne (dsIf (dqT (o := oEq) op_eq (dIx (o := oIxL) ix_list (dVar 12) dInt) (dVar 10)) (dsOne (dDSt (un1r hr) (dVar 11) (dVar 9) (dIx (o := oIxL) ix_list (dVar 12) dInt))) dsNil)))))
  (dsCons (dAs (dCall c_law_copy hr (by decide) takes0 (dCons (dVar 4) dNil)) (dN 13 sc_law.nd))
  (dsCut (dEx (dMeth c_Ring_remove hr (by decide) takes0 (dVar 13) (dCons (dVar 10) dNil)))
  (dsCons (dsIf (dqT (o := (oEqDc true)) (op_neDc (un1 (un1r hr))) (dCall c_law_homes_of hr (by decide) takes0 (dCons (dVar 13) (dCons (dVar 2) dNil))) (dVar 11)) (dsOne (dRet dBl)) dsNil)
  (dsOne (dRet (dCmp (o := oEqD) (op_eqD (un64 hr)) (dCall c_moves hr (by decide) takes0 (dCons (dVar 3) (dCons (dVar 13) (dCons (dVar 2) dNil)))) (dCall c_law_due hr (by decide) takes0 (dCons (dVar 5) (dCons (dVar 11) (dCons (dVar 2) dNil))))))))))))) dsNil)
  (dsOne (dRet (dCmp (o := oEqD) (op_eqD (un64 hr)) (dCall c_moves hr (by decide) takes0 (dCons (dVar 3) (dCons (dMake0 c_Ring___init__ hr (by decide)) (dCons (dVar 2) dNil)))) (dLst dNil)))))))))))))) (vc_law Z hZ)
theorem all_mk {l : PySem.W.OpenLaw} {w : World} {K : PySem.W.Frag} {h : Heap} {T : Tt} {mg : Str → Option Value} {fa : Addr} (X : K.In h) (G : h.Ns mainGlobals mg) (hfa : mg "law" = some (.ref fa))
    {C_Ring C_NotFound C_Full C_CacheError : Addr}
    {f0 : Addr} {od0 an0 : Option Addr} {sl0 : Array (Option Value)} {oc0 kV0 dc0 pm0 cd0 ct0 : Value}
    {f1 : Addr} {od1 an1 : Option Addr} {sl1 : Array (Option Value)} {oc1 kV1 dc1 pm1 cd1 ct1 : Value}
    {f2 : Addr} {od2 an2 : Option Addr} {sl2 : Array (Option Value)} {oc2 kV2 dc2 pm2 cd2 ct2 : Value}
    {f3 : Addr} {od3 an3 : Option Addr} {sl3 : Array (Option Value)} {oc3 kV3 dc3 pm3 cd3 ct3 : Value}
    {f4 : Addr} {od4 an4 : Option Addr} {sl4 : Array (Option Value)} {oc4 kV4 dc4 pm4 cd4 ct4 : Value}
    {f5 : Addr} {od5 an5 : Option Addr} {sl5 : Array (Option Value)} {oc5 kV5 dc5 pm5 cd5 ct5 : Value}
    {f6 : Addr} {od6 an6 : Option Addr} {sl6 : Array (Option Value)} {oc6 kV6 dc6 pm6 cd6 ct6 : Value}
    {f7 : Addr} {od7 an7 : Option Addr} {sl7 : Array (Option Value)} {oc7 kV7 dc7 pm7 cd7 ct7 : Value}
    {f8 : Addr} {od8 an8 : Option Addr} {sl8 : Array (Option Value)} {oc8 kV8 dc8 pm8 cd8 ct8 : Value}
    {f9 : Addr} {od9 an9 : Option Addr} {sl9 : Array (Option Value)} {oc9 kV9 dc9 pm9 cd9 ct9 : Value}
    {f10 : Addr} {od10 an10 : Option Addr} {sl10 : Array (Option Value)} {oc10 kV10 dc10 pm10 cd10 ct10 : Value}
    {f11 : Addr} {od11 an11 : Option Addr} {sl11 : Array (Option Value)} {oc11 kV11 dc11 pm11 cd11 ct11 : Value}
    {f12 : Addr} {od12 an12 : Option Addr} {sl12 : Array (Option Value)} {oc12 kV12 dc12 pm12 cd12 ct12 : Value}
    {f13 : Addr} {od13 an13 : Option Addr} {sl13 : Array (Option Value)} {oc13 kV13 dc13 pm13 cd13 ct13 : Value}
    {f14 : Addr} {od14 an14 : Option Addr} {sl14 : Array (Option Value)} {oc14 kV14 dc14 pm14 cd14 ct14 : Value}
    {f15 : Addr} {od15 an15 : Option Addr} {sl15 : Array (Option Value)} {oc15 kV15 dc15 pm15 cd15 ct15 : Value}
    {f16 : Addr} {od16 an16 : Option Addr} {sl16 : Array (Option Value)} {oc16 kV16 dc16 pm16 cd16 ct16 : Value}
    {f17 : Addr} {od17 an17 : Option Addr} {sl17 : Array (Option Value)} {oc17 kV17 dc17 pm17 cd17 ct17 : Value}
    {f18 : Addr} {od18 an18 : Option Addr} {sl18 : Array (Option Value)} {oc18 kV18 dc18 pm18 cd18 ct18 : Value}
    {f19 : Addr} {od19 an19 : Option Addr} {sl19 : Array (Option Value)} {oc19 kV19 dc19 pm19 cd19 ct19 : Value}
    {f20 : Addr} {od20 an20 : Option Addr} {sl20 : Array (Option Value)} {oc20 kV20 dc20 pm20 cd20 ct20 : Value}
    {f21 : Addr} {od21 an21 : Option Addr} {sl21 : Array (Option Value)} {oc21 kV21 dc21 pm21 cd21 ct21 : Value}
    (g_Ring : PySem.W.nsIn K mainGlobals "Ring" = some (some (.ref C_Ring)))
    (g_NotFound : PySem.W.nsIn K mainGlobals "NotFound" = some (some (.ref C_NotFound)))
    (g_Full : PySem.W.nsIn K mainGlobals "Full" = some (some (.ref C_Full)))
    (g_CacheError : PySem.W.nsIn K mainGlobals "CacheError" = some (some (.ref C_CacheError)))
    (mk_Ring : PySem.W.makesIn K C_Ring = true) (kC_Ring : PySem.W.keepIn K (.ref C_Ring) = true)
    (q_Full : PySem.W.excIn K C_Full [.type "ValueError", .type "Exception", .type "BaseException", .type "object"] "ValueError.__new__" = true) (kx_Full : PySem.W.keepIn K (.ref C_Full) = true) (r1_Full : PySem.W.subIn K (.ref C_Full) (.type "BaseException") = some true) (r2_Full : PySem.W.typeIn K (.ref C_Full) = some (.type "type"))
    (q_NotFound : PySem.W.excIn K C_NotFound [.type "ValueError", .type "Exception", .type "BaseException", .type "object"] "ValueError.__new__" = true) (kx_NotFound : PySem.W.keepIn K (.ref C_NotFound) = true) (r1_NotFound : PySem.W.subIn K (.ref C_NotFound) (.type "BaseException") = some true) (r2_NotFound : PySem.W.typeIn K (.ref C_NotFound) = some (.type "type"))
    (a0 : PySem.W.nsIn K mainGlobals "_law_mix" = some (some (.ref f0))) (l0 : K.lookup f0 = some ⟨oc0, od0, .func (PySem.W.fnOf "_law_mix" "_law_mix" (defArgs s_law_mix) (defBody s_law_mix) (defScope s_law_mix) .none kV0 dc0 pm0 an0 cd0 ct0), sl0⟩) (c0 : PySem.W.codeIn K cd0 "_law_mix" = true) (k0 : PySem.W.keepIn K (.ref f0) = true)
    (a1 : PySem.W.nsIn K mainGlobals "_law_number" = some (some (.ref f1))) (l1 : K.lookup f1 = some ⟨oc1, od1, .func (PySem.W.fnOf "_law_number" "_law_number" (defArgs s_law_number) (defBody s_law_number) (defScope s_law_number) .none kV1 dc1 pm1 an1 cd1 ct1), sl1⟩) (c1 : PySem.W.codeIn K cd1 "_law_number" = true) (k1 : PySem.W.keepIn K (.ref f1) = true)
    (a2 : PySem.W.nsIn K mainGlobals "_law_state" = some (some (.ref f2))) (l2 : K.lookup f2 = some ⟨oc2, od2, .func (PySem.W.fnOf "_law_state" "_law_state" (defArgs s_law_state) (defBody s_law_state) (defScope s_law_state) .none kV2 dc2 pm2 an2 cd2 ct2), sl2⟩) (c2 : PySem.W.codeIn K cd2 "_law_state" = true) (k2 : PySem.W.keepIn K (.ref f2) = true)
    (a3 : PySem.W.nsIn K mainGlobals "_law_draw" = some (some (.ref f3))) (l3 : K.lookup f3 = some ⟨oc3, od3, .func (PySem.W.fnOf "_law_draw" "_law_draw" (defArgs s_law_draw) (defBody s_law_draw) (defScope s_law_draw) .none kV3 dc3 pm3 an3 cd3 ct3), sl3⟩) (c3 : PySem.W.codeIn K cd3 "_law_draw" = true) (k3 : PySem.W.keepIn K (.ref f3) = true)
    (a4 : PySem.W.nsIn K mainGlobals "spot" = some (some (.ref f4))) (l4 : K.lookup f4 = some ⟨oc4, od4, .func (PySem.W.fnOf "spot" "spot" (defArgs s_spot) (defBody s_spot) (defScope s_spot) .none kV4 dc4 pm4 an4 cd4 ct4), sl4⟩) (c4 : PySem.W.codeIn K cd4 "spot" = true) (k4 : PySem.W.keepIn K (.ref f4) = true)
    (a5 : PySem.W.nsIn K mainGlobals "place_spot" = some (some (.ref f5))) (l5 : K.lookup f5 = some ⟨oc5, od5, .func (PySem.W.fnOf "place_spot" "place_spot" (defArgs s_place_spot) (defBody s_place_spot) (defScope s_place_spot) .none kV5 dc5 pm5 an5 cd5 ct5), sl5⟩) (c5 : PySem.W.codeIn K cd5 "place_spot" = true) (k5 : PySem.W.keepIn K (.ref f5) = true)
    (a6 : PySem.W.findIn K (.ref C_Ring) "__init__" = some (some (.ref f6))) (l6 : K.lookup f6 = some ⟨oc6, od6, .func (PySem.W.fnOf "__init__" "Ring.__init__" (defArgs s_Ring___init__) (defBody s_Ring___init__) (defScope s_Ring___init__) .none kV6 dc6 pm6 an6 cd6 ct6), sl6⟩) (c6 : PySem.W.codeIn K cd6 "Ring.__init__" = true) (k6 : PySem.W.keepIn K (.ref f6) = true) (i6 : PySem.W.isFn K (.ref f6) = true)
    (a7 : PySem.W.findIn K (.ref C_Ring) "add" = some (some (.ref f7))) (l7 : K.lookup f7 = some ⟨oc7, od7, .func (PySem.W.fnOf "add" "Ring.add" (defArgs s_Ring_add) (defBody s_Ring_add) (defScope s_Ring_add) .none kV7 dc7 pm7 an7 cd7 ct7), sl7⟩) (c7 : PySem.W.codeIn K cd7 "Ring.add" = true) (k7 : PySem.W.keepIn K (.ref f7) = true) (i7 : PySem.W.isFn K (.ref f7) = true)
    (a8 : PySem.W.findIn K (.ref C_Ring) "remove" = some (some (.ref f8))) (l8 : K.lookup f8 = some ⟨oc8, od8, .func (PySem.W.fnOf "remove" "Ring.remove" (defArgs s_Ring_remove) (defBody s_Ring_remove) (defScope s_Ring_remove) .none kV8 dc8 pm8 an8 cd8 ct8), sl8⟩) (c8 : PySem.W.codeIn K cd8 "Ring.remove" = true) (k8 : PySem.W.keepIn K (.ref f8) = true) (i8 : PySem.W.isFn K (.ref f8) = true)
    (a9 : PySem.W.findIn K (.ref C_Ring) "hosts" = some (some (.ref f9))) (l9 : K.lookup f9 = some ⟨oc9, od9, .func (PySem.W.fnOf "hosts" "Ring.hosts" (defArgs s_Ring_hosts) (defBody s_Ring_hosts) (defScope s_Ring_hosts) .none kV9 dc9 pm9 an9 cd9 ct9), sl9⟩) (c9 : PySem.W.codeIn K cd9 "Ring.hosts" = true) (k9 : PySem.W.keepIn K (.ref f9) = true) (i9 : PySem.W.isFn K (.ref f9) = true)
    (a10 : PySem.W.findIn K (.ref C_Ring) "points" = some (some (.ref f10))) (l10 : K.lookup f10 = some ⟨oc10, od10, .func (PySem.W.fnOf "points" "Ring.points" (defArgs s_Ring_points) (defBody s_Ring_points) (defScope s_Ring_points) .none kV10 dc10 pm10 an10 cd10 ct10), sl10⟩) (c10 : PySem.W.codeIn K cd10 "Ring.points" = true) (k10 : PySem.W.keepIn K (.ref f10) = true) (i10 : PySem.W.isFn K (.ref f10) = true)
    (a11 : PySem.W.findIn K (.ref C_Ring) "homes" = some (some (.ref f11))) (l11 : K.lookup f11 = some ⟨oc11, od11, .func (PySem.W.fnOf "homes" "Ring.homes" (defArgs s_Ring_homes) (defBody s_Ring_homes) (defScope s_Ring_homes) .none kV11 dc11 pm11 an11 cd11 ct11), sl11⟩) (c11 : PySem.W.codeIn K cd11 "Ring.homes" = true) (k11 : PySem.W.keepIn K (.ref f11) = true) (i11 : PySem.W.isFn K (.ref f11) = true)
    (a12 : PySem.W.findIn K (.ref C_Ring) "home" = some (some (.ref f12))) (l12 : K.lookup f12 = some ⟨oc12, od12, .func (PySem.W.fnOf "home" "Ring.home" (defArgs s_Ring_home) (defBody s_Ring_home) (defScope s_Ring_home) .none kV12 dc12 pm12 an12 cd12 ct12), sl12⟩) (c12 : PySem.W.codeIn K cd12 "Ring.home" = true) (k12 : PySem.W.keepIn K (.ref f12) = true) (i12 : PySem.W.isFn K (.ref f12) = true)
    (a13 : PySem.W.nsIn K mainGlobals "_home" = some (some (.ref f13))) (l13 : K.lookup f13 = some ⟨oc13, od13, .func (PySem.W.fnOf "_home" "_home" (defArgs s_home) (defBody s_home) (defScope s_home) .none kV13 dc13 pm13 an13 cd13 ct13), sl13⟩) (c13 : PySem.W.codeIn K cd13 "_home" = true) (k13 : PySem.W.keepIn K (.ref f13) = true)
    (a14 : PySem.W.nsIn K mainGlobals "moves" = some (some (.ref f14))) (l14 : K.lookup f14 = some ⟨oc14, od14, .func (PySem.W.fnOf "moves" "moves" (defArgs s_moves) (defBody s_moves) (defScope s_moves) .none kV14 dc14 pm14 an14 cd14 ct14), sl14⟩) (c14 : PySem.W.codeIn K cd14 "moves" = true) (k14 : PySem.W.keepIn K (.ref f14) = true)
    (a15 : PySem.W.nsIn K mainGlobals "_law_word" = some (some (.ref f15))) (l15 : K.lookup f15 = some ⟨oc15, od15, .func (PySem.W.fnOf "_law_word" "_law_word" (defArgs s_law_word) (defBody s_law_word) (defScope s_law_word) .none kV15 dc15 pm15 an15 cd15 ct15), sl15⟩) (c15 : PySem.W.codeIn K cd15 "_law_word" = true) (k15 : PySem.W.keepIn K (.ref f15) = true)
    (a16 : PySem.W.nsIn K mainGlobals "_law_keys" = some (some (.ref f16))) (l16 : K.lookup f16 = some ⟨oc16, od16, .func (PySem.W.fnOf "_law_keys" "_law_keys" (defArgs s_law_keys) (defBody s_law_keys) (defScope s_law_keys) .none kV16 dc16 pm16 an16 cd16 ct16), sl16⟩) (c16 : PySem.W.codeIn K cd16 "_law_keys" = true) (k16 : PySem.W.keepIn K (.ref f16) = true)
    (a17 : PySem.W.nsIn K mainGlobals "_law_ring" = some (some (.ref f17))) (l17 : K.lookup f17 = some ⟨oc17, od17, .func (PySem.W.fnOf "_law_ring" "_law_ring" (defArgs s_law_ring) (defBody s_law_ring) (defScope s_law_ring) .none kV17 dc17 pm17 an17 cd17 ct17), sl17⟩) (c17 : PySem.W.codeIn K cd17 "_law_ring" = true) (k17 : PySem.W.keepIn K (.ref f17) = true)
    (a18 : PySem.W.nsIn K mainGlobals "_law_copy" = some (some (.ref f18))) (l18 : K.lookup f18 = some ⟨oc18, od18, .func (PySem.W.fnOf "_law_copy" "_law_copy" (defArgs s_law_copy) (defBody s_law_copy) (defScope s_law_copy) .none kV18 dc18 pm18 an18 cd18 ct18), sl18⟩) (c18 : PySem.W.codeIn K cd18 "_law_copy" = true) (k18 : PySem.W.keepIn K (.ref f18) = true)
    (a19 : PySem.W.nsIn K mainGlobals "_law_due" = some (some (.ref f19))) (l19 : K.lookup f19 = some ⟨oc19, od19, .func (PySem.W.fnOf "_law_due" "_law_due" (defArgs s_law_due) (defBody s_law_due) (defScope s_law_due) .none kV19 dc19 pm19 an19 cd19 ct19), sl19⟩) (c19 : PySem.W.codeIn K cd19 "_law_due" = true) (k19 : PySem.W.keepIn K (.ref f19) = true)
    (a20 : PySem.W.nsIn K mainGlobals "_law_homes_of" = some (some (.ref f20))) (l20 : K.lookup f20 = some ⟨oc20, od20, .func (PySem.W.fnOf "_law_homes_of" "_law_homes_of" (defArgs s_law_homes_of) (defBody s_law_homes_of) (defScope s_law_homes_of) .none kV20 dc20 pm20 an20 cd20 ct20), sl20⟩) (c20 : PySem.W.codeIn K cd20 "_law_homes_of" = true) (k20 : PySem.W.keepIn K (.ref f20) = true)
    (a21 : PySem.W.nsIn K mainGlobals "law" = some (some (.ref f21))) (l21 : K.lookup f21 = some ⟨oc21, od21, .func (PySem.W.fnOf "law" "law" (defArgs s_law) (defBody s_law) (defScope s_law) .none kV21 dc21 pm21 an21 cd21 ct21), sl21⟩) (c21 : PySem.W.codeIn K cd21 "law" = true) (k21 : PySem.W.keepIn K (.ref f21) = true)
    (hZ : ZOk K ⟨C_Ring, C_NotFound, C_Full, C_CacheError⟩)
    (y_int : PySem.W.nsIn K mainGlobals "int" = some none) (y_len : PySem.W.nsIn K mainGlobals "len" = some none) (y_list : PySem.W.nsIn K mainGlobals "list" = some none) (y_ord : PySem.W.nsIn K mainGlobals "ord" = some none) (y_range : PySem.W.nsIn K mainGlobals "range" = some none) (y_set : PySem.W.nsIn K mainGlobals "set" = some none) (y_sorted : PySem.W.nsIn K mainGlobals "sorted" = some none) {gt_FACTOR : Tok} (y_FACTOR : PySem.W.nsIn K mainGlobals "FACTOR" = some (some (.int 37 gt_FACTOR))) {gt_FIRST_NUMBER : Tok} (y_FIRST_NUMBER : PySem.W.nsIn K mainGlobals "FIRST_NUMBER" = some (some (.int 7 gt_FIRST_NUMBER))) {gt_LETTERS : Tok} (y_LETTERS : PySem.W.nsIn K mainGlobals "LETTERS" = some (some (.str "abcdefghijklmnopqrstuvwxyz" gt_LETTERS))) {gt_SPOTS : Tok} (y_SPOTS : PySem.W.nsIn K mainGlobals "SPOTS" = some (some (.int 4096 gt_SPOTS))) :
    ∃ fd : FuncData, (∀ (s : Shared) (v : Value), BindsTo s fd ⟨[v], []⟩ [("script", v)]) ∧ ∀ base : Heap, K.In base → base.Ns mainGlobals mg → FnOk l.prog w K mg base (L2.CX l.prog w) 8 fa fd ["script"] (spOf K T0 spLaw) := by
  have e := hfa.symm.trans (PySem.W.mg_of X G a21)
  cases e
  have z_int : mg "int" = none := PySem.W.mg_none_of X G y_int
  have z_len : mg "len" = none := PySem.W.mg_none_of X G y_len
  have z_list : mg "list" = none := PySem.W.mg_none_of X G y_list
  have z_ord : mg "ord" = none := PySem.W.mg_none_of X G y_ord
  have z_range : mg "range" = none := PySem.W.mg_none_of X G y_range
  have z_set : mg "set" = none := PySem.W.mg_none_of X G y_set
  have z_sorted : mg "sorted" = none := PySem.W.mg_none_of X G y_sorted
  have g_FACTOR : ∃ u, mg "FACTOR" = some u ∧ RelV (.int 37) u := ⟨_, PySem.W.mg_of X G y_FACTOR, _, rfl⟩
  have g_FIRST_NUMBER : ∃ u, mg "FIRST_NUMBER" = some u ∧ RelV (.int 7) u := ⟨_, PySem.W.mg_of X G y_FIRST_NUMBER, _, rfl⟩
  have g_LETTERS : ∃ u, mg "LETTERS" = some u ∧ RelV (.str "abcdefghijklmnopqrstuvwxyz") u := ⟨_, PySem.W.mg_of X G y_LETTERS, _, rfl⟩
  have g_SPOTS : ∃ u, mg "SPOTS" = some u ∧ RelV (.int 4096) u := ⟨_, PySem.W.mg_of X G y_SPOTS, _, rfl⟩
  have e_Full : Ec K mg "Full" C_Full := ⟨q_Full, PySem.W.mg_of X G g_Full, kx_Full, r1_Full, r2_Full⟩
  have e_NotFound : Ec K mg "NotFound" C_NotFound := ⟨q_NotFound, PySem.W.mg_of X G g_NotFound, kx_NotFound, r1_NotFound, r2_NotFound⟩
  refine ⟨PySem.W.fnOf "law" "law" (defArgs s_law) (defBody s_law) (defScope s_law) .none kV21 dc21 pm21 an21 cd21 ct21, fun s v => .of_eq rfl, fun base _ _ => ?_⟩
  have c_law_mix := cl_law_mix (P := l.prog) (w := w) (base := base) (T := T0) (df_mk X G a0 l0 c0 k0) z_int
  have c_law_number := cl_law_number (P := l.prog) (w := w) (base := base) (T := T0) (df_mk X G a1 l1 c1 k1) c_law_mix
  have c_law_state := cl_law_state (P := l.prog) (w := w) (base := base) (T := T0) (df_mk X G a2 l2 c2 k2) z_len z_list
  have c_law_draw := cl_law_draw (P := l.prog) (w := w) (base := base) (T := T0) (df_mk X G a3 l3 c3 k3) z_int z_len c_law_number
  have c_spot := cl_spot (P := l.prog) (w := w) (base := base) (T := T0) (df_mk X G a4 l4 c4 k4) z_ord g_FACTOR g_FIRST_NUMBER g_SPOTS
  have c_place_spot := cl_place_spot (P := l.prog) (w := w) (base := base) (T := T0) (df_mk X G a5 l5 c5 k5) g_LETTERS c_spot
  have c_Ring___init__ := cl_Ring___init__ (P := l.prog) (w := w) (base := base) (T := T0) (mg := mg) (Z := ⟨C_Ring, C_NotFound, C_Full, C_CacheError⟩) hZ (di_mk (PySem.W.mg_of X G g_Ring) mk_Ring kC_Ring a6 l6 c6 k6 i6)
  have c_Ring_add := cl_Ring_add (P := l.prog) (w := w) (base := base) (T := T0) (mg := mg) (Z := ⟨C_Ring, C_NotFound, C_Full, C_CacheError⟩) hZ e_Full (dm_mk hZ.cl a7 l7 c7 k7 i7)
  have c_Ring_remove := cl_Ring_remove (P := l.prog) (w := w) (base := base) (T := T0) (mg := mg) (Z := ⟨C_Ring, C_NotFound, C_Full, C_CacheError⟩) hZ e_NotFound (dm_mk hZ.cl a8 l8 c8 k8 i8)
  have c_Ring_hosts := cl_Ring_hosts (P := l.prog) (w := w) (base := base) (T := T0) (mg := mg) (Z := ⟨C_Ring, C_NotFound, C_Full, C_CacheError⟩) hZ z_sorted (dm_mk hZ.cl a9 l9 c9 k9 i9)
  have c_Ring_points := cl_Ring_points (P := l.prog) (w := w) (base := base) (T := T0) (mg := mg) (Z := ⟨C_Ring, C_NotFound, C_Full, C_CacheError⟩) hZ z_range z_sorted c_place_spot (dm_mk hZ.cl a10 l10 c10 k10 i10)
  have c_Ring_homes := cl_Ring_homes (P := l.prog) (w := w) (base := base) (T := T0) (mg := mg) (Z := ⟨C_Ring, C_NotFound, C_Full, C_CacheError⟩) hZ z_list c_Ring_points c_spot (dm_mk hZ.cl a11 l11 c11 k11 i11)
  have c_Ring_home := cl_Ring_home (P := l.prog) (w := w) (base := base) (T := T0) (mg := mg) (Z := ⟨C_Ring, C_NotFound, C_Full, C_CacheError⟩) hZ e_NotFound c_Ring_homes (dm_mk hZ.cl a12 l12 c12 k12 i12)
  have c_home := cl_home (P := l.prog) (w := w) (base := base) (T := T0) (df_mk X G a13 l13 c13 k13) hZ c_Ring_home c_Ring_hosts
  have c_moves := cl_moves (P := l.prog) (w := w) (base := base) (T := T0) (df_mk X G a14 l14 c14 k14) hZ z_set z_sorted c_home
  have c_law_word := cl_law_word (P := l.prog) (w := w) (base := base) (T := T0) (df_mk X G a15 l15 c15 k15) z_range c_law_draw
  have c_law_keys := cl_law_keys (P := l.prog) (w := w) (base := base) (T := T0) (df_mk X G a16 l16 c16 k16) z_int z_range z_sorted c_law_draw c_law_word
  have c_law_ring := cl_law_ring (P := l.prog) (w := w) (base := base) (T := T0) (df_mk X G a17 l17 c17 k17) hZ z_range c_Ring_add c_law_draw
  have c_law_copy := cl_law_copy (P := l.prog) (w := w) (base := base) (T := T0) (df_mk X G a18 l18 c18 k18) hZ c_Ring___init__ c_Ring_add
  have c_law_due := cl_law_due (P := l.prog) (w := w) (base := base) (T := T0) (df_mk X G a19 l19 c19 k19) z_sorted
  have c_law_homes_of := cl_law_homes_of (P := l.prog) (w := w) (base := base) (T := T0) (df_mk X G a20 l20 c20 k20) hZ z_len c_Ring_homes
  exact fn_law (fun_mk l21 c21 k21) hZ z_len z_list z_sorted c_Ring___init__ c_Ring_add c_Ring_homes c_Ring_points c_Ring_remove c_law_copy c_law_draw c_law_due c_law_homes_of c_law_keys c_law_ring c_law_state c_law_word c_moves
end
end Lw
open PySem PySem.W PyProof.Rows
set_option maxRecDepth 100000 in
set_option maxHeartbeats 0 in
theorem PySem.Challenge.cw_leasehall_k61_whole_few_keys_move_holds : PySem.Challenge.rw_leasehall_k61_whole_few_keys_move.Holds := by
  w_on; o_law; k_head; (case hw => w_witness2)
  k_fill
  refine Ab.law_walk (l := PySem.Challenge.rw_leasehall_k61_whole_few_keys_move) (k := 8) ⟨rfl, by decide, by decide⟩ rfl rfl (fun w h Y => PySem.W.kIn_of Y) ?F
  case F =>
    intro w mg fa h KX G hmg
    refine' Lw.all_mk (T := Ab.T0) KX G hmg ?g_Ring ?g_NotFound ?g_Full ?g_CacheError ?mk_Ring ?kC_Ring ?q_Full ?kx_Full ?r1_Full ?r2_Full ?q_NotFound ?kx_NotFound ?r1_NotFound ?r2_NotFound ?a0 ?l0 ?c0 ?k0 ?a1 ?l1 ?c1 ?k1 ?a2 ?l2 ?c2 ?k2 ?a3 ?l3 ?c3 ?k3 ?a4 ?l4 ?c4 ?k4 ?a5 ?l5 ?c5 ?k5 ?a6 ?l6 ?c6 ?k6 ?i6 ?a7 ?l7 ?c7 ?k7 ?i7 ?a8 ?l8 ?c8 ?k8 ?i8 ?a9 ?l9 ?c9 ?k9 ?i9 ?a10 ?l10 ?c10 ?k10 ?i10 ?a11 ?l11 ?c11 ?k11 ?i11 ?a12 ?l12 ?c12 ?k12 ?i12 ?a13 ?l13 ?c13 ?k13 ?a14 ?l14 ?c14 ?k14 ?a15 ?l15 ?c15 ?k15 ?a16 ?l16 ?c16 ?k16 ?a17 ?l17 ?c17 ?k17 ?a18 ?l18 ?c18 ?k18 ?a19 ?l19 ?c19 ?k19 ?a20 ?l20 ?c20 ?k20 ?a21 ?l21 ?c21 ?k21 ?hZ ?y_int ?y_len ?y_list ?y_ord ?y_range ?y_set ?y_sorted ?y_FACTOR ?y_FIRST_NUMBER ?y_LETTERS ?y_SPOTS
    (case g_Ring => k_is)
    (case g_NotFound => k_is)
    (case g_Full => k_is)
    (case g_CacheError => k_is)
    (case mk_Ring => k_is)
    (case kC_Ring => k_is)
    (case q_Full => kernel_rfl)
    (case kx_Full => k_is)
    (case r1_Full => k_is)
    (case r2_Full => k_is)
    (case q_NotFound => kernel_rfl)
    (case kx_NotFound => k_is)
    (case r1_NotFound => k_is)
    (case r2_NotFound => k_is)
    (case a0 => k_is)
    (case l0 => k_is)
    (case c0 => k_is)
    (case k0 => k_is)
    (case a1 => k_is)
    (case l1 => k_is)
    (case c1 => k_is)
    (case k1 => k_is)
    (case a2 => k_is)
    (case l2 => k_is)
    (case c2 => k_is)
    (case k2 => k_is)
    (case a3 => k_is)
    (case l3 => k_is)
    (case c3 => k_is)
    (case k3 => k_is)
    (case a4 => k_is)
    (case l4 => k_is)
    (case c4 => k_is)
    (case k4 => k_is)
    (case a5 => k_is)
    (case l5 => k_is)
    (case c5 => k_is)
    (case k5 => k_is)
    (case a6 => k_is)
    (case l6 => k_is)
    (case c6 => k_is)
    (case k6 => k_is)
    (case i6 => k_is)
    (case a7 => k_is)
    (case l7 => k_is)
    (case c7 => k_is)
    (case k7 => k_is)
    (case i7 => k_is)
    (case a8 => k_is)
    (case l8 => k_is)
    (case c8 => k_is)
    (case k8 => k_is)
    (case i8 => k_is)
    (case a9 => k_is)
    (case l9 => k_is)
    (case c9 => k_is)
    (case k9 => k_is)
    (case i9 => k_is)
    (case a10 => k_is)
    (case l10 => k_is)
    (case c10 => k_is)
    (case k10 => k_is)
    (case i10 => k_is)
    (case a11 => k_is)
    (case l11 => k_is)
    (case c11 => k_is)
    (case k11 => k_is)
    (case i11 => k_is)
    (case a12 => k_is)
    (case l12 => k_is)
    (case c12 => k_is)
    (case k12 => k_is)
    (case i12 => k_is)
    (case a13 => k_is)
    (case l13 => k_is)
    (case c13 => k_is)
    (case k13 => k_is)
    (case a14 => k_is)
    (case l14 => k_is)
    (case c14 => k_is)
    (case k14 => k_is)
    (case a15 => k_is)
    (case l15 => k_is)
    (case c15 => k_is)
    (case k15 => k_is)
    (case a16 => k_is)
    (case l16 => k_is)
    (case c16 => k_is)
    (case k16 => k_is)
    (case a17 => k_is)
    (case l17 => k_is)
    (case c17 => k_is)
    (case k17 => k_is)
    (case a18 => k_is)
    (case l18 => k_is)
    (case c18 => k_is)
    (case k18 => k_is)
    (case a19 => k_is)
    (case l19 => k_is)
    (case c19 => k_is)
    (case k19 => k_is)
    (case a20 => k_is)
    (case l20 => k_is)
    (case c20 => k_is)
    (case k20 => k_is)
    (case a21 => k_is)
    (case l21 => k_is)
    (case c21 => k_is)
    (case k21 => k_is)
    (case hZ => exact ⟨⟨by k_is, by k_is, by k_is, by k_is⟩, by (unfold L2.NoAttr; k_is), by kernel_rfl, by kernel_rfl, by kernel_rfl, ⟨by k_is, by k_is, by k_is, by k_is, by k_is, by k_is, by k_is, by k_is⟩, ⟨by k_is, by k_is, by k_is, by k_is, by k_is, by k_is, by k_is, by k_is⟩, by kernel_rfl, by kernel_rfl, by kernel_rfl, by kernel_rfl⟩)
    (case y_int => k_is)
    (case y_len => k_is)
    (case y_list => k_is)
    (case y_ord => k_is)
    (case y_range => k_is)
    (case y_set => k_is)
    (case y_sorted => k_is)
    (case y_FACTOR => k_is)
    (case y_FIRST_NUMBER => k_is)
    (case y_LETTERS => k_is)
    (case y_SPOTS => k_is)
#print axioms PySem.Challenge.cw_leasehall_k61_whole_few_keys_move_holds

