import PyProof.Rows.All
import Wide.All
import OpenK.AllK
import Wide.FinOn
import HandS.Base
import HandS.Call
import HandS.List
import HandS.Comp
import HandS.Ends
import HandS.Dict
import HandS.Iter
import HandS.Text
import HandS.Flow
import HandS.ForMost
import HandS.More
import HandS.IsInst
import HandS.Deep
import HandS.Strs
import HandS.Wide
import PyProof.StrOps2
import PyProof.ListIndexNeg
import HandS.Style
import HandS.Conv
import HandS.Flt
import HandS.FltList
import HandS.TupSets
import PyProof.Rows.SortKeyStr
import PyProof.Rows.StrMeet
import HandS.Zip
import HandS.DictComp
import HandS.SetFor
import HandS.RaiseMore
import PyProof.Rows.IntBool
import KE.SortData
import KE.KDictZip
import PyProof.ListNew
import KE.GoesEnumKw
import KE.DataMinMax
import KE.KIndexOf
import HandS.Set
import PyProof.Rows.SortShellAny
import HandS.Exc
import HandS.ExcOwn
import HandS.ExcField
import KE.KExcIs
import KE.KIsAll
import HandS.WordsExc
import HandS.TryOnly
import PySem.Challenge.RW_suitedpairs_k31_links_known
set_option Elab.async false
set_option linter.all false
set_option maxRecDepth 100000
/-! values with marks of who owns a list; what stands for them in a heap -/
namespace Fw
open PySem PySem.Spec PyProof.Rows L2

inductive D where
  | non | bl (b : Bool) | int (i : Int) | str (x : Str)
  | lst (o : Bool) (xs : List D)
  | tup (xs : List D)
  | dic (o : Bool) (kvs : List (Key × D))
  | obj (o : Bool) (c : Str) (fs : List (Str × D))
  | cel (n : Nat)
  | scr (ns : List Int)
  | unk

abbrev Fp := Addr → Nat

section
variable (K : PySem.W.Frag) (cA : Str → Addr)
mutual
inductive Rp (S H : Hp) (ca : List Addr) : D → V → Fp → Prop
  | non {f : Fp} (hf : ∀ a, f a = 0) : Rp S H ca .non .non f
  | unk {v : V} {f : Fp} (hf : ∀ a, f a = 0) : Rp S H ca .unk v f
  | bl {f : Fp} (b : Bool) (hf : ∀ a, f a = 0) : Rp S H ca (.bl b) (.bl b) f
  | int {f : Fp} (i : Int) (hf : ∀ a, f a = 0) : Rp S H ca (.int i) (.int i) f
  | str {f : Fp} (x : Str) (hf : ∀ a, f a = 0) : Rp S H ca (.str x) (.str x) f
  | lstO {p : Addr} {vs : List V} {ds : List D} {f g : Fp} (h : H p = some (.lst vs)) (hs : S p = none) (r : Rps S H ca ds vs g)
      (hf : ∀ a, f a = (if a = p then 1 else 0) + g a) : Rp S H ca (.lst true ds) (.ref p) f
  | lstS {p : Addr} {vs : List V} {ds : List D} {f g : Fp} (h : S p = some (.lst vs)) (r : Rps S H ca ds vs g) (hg : ∀ a, g a = 0) (hf : ∀ a, f a = 0) : Rp S H ca (.lst false ds) (.ref p) f
  | tup {p : Addr} {vs : List V} {ds : List D} {f : Fp} (h : SqT K H p vs) (r : Rps S H ca ds vs f) : Rp S H ca (.tup ds) (.ref p) f
  | dicO {p : Addr} {vs : List (Key × V)} {ds : List (Key × D)} {f g : Fp} (h : H p = some (.dK vs)) (hs : S p = none) (r : Rks S H ca ds vs g)
      (hf : ∀ a, f a = (if a = p then 1 else 0) + g a) : Rp S H ca (.dic true ds) (.ref p) f
  | dicS {p : Addr} {vs : List (Key × V)} {ds : List (Key × D)} {f g : Fp} (h : S p = some (.dK vs)) (r : Rks S H ca ds vs g) (hg : ∀ a, g a = 0) (hf : ∀ a, f a = 0) : Rp S H ca (.dic false ds) (.ref p) f
  | objO {p dx : Addr} {c : Str} {vs : List (Str × V)} {fs : List (Str × D)} {f g : Fp} (h : H p = some (.ins (cA c) dx vs)) (hs : S p = none) (r : Rfs S H ca fs vs g)
      (hf : ∀ a, f a = (if a = p then 1 else 0) + g a) : Rp S H ca (.obj true c fs) (.ref p) f
  | objS {p dx : Addr} {c : Str} {vs : List (Str × V)} {fs : List (Str × D)} {f g : Fp} (h : S p = some (.ins (cA c) dx vs)) (r : Rfs S H ca fs vs g) (hg : ∀ a, g a = 0) (hf : ∀ a, f a = 0) : Rp S H ca (.obj false c fs) (.ref p) f
  | cel {p : Addr} {n : Nat} {f : Fp} (h : ca[n]? = some p) (hf : ∀ a, f a = 0) : Rp S H ca (.cel n) (.ref p) f
  | scr {p : Addr} {ns : List Int} {f : Fp} (h : SqL K S p (ns.map V.int)) (hf : ∀ a, f a = 0) : Rp S H ca (.scr ns) (.ref p) f
inductive Rps (S H : Hp) (ca : List Addr) : List D → List V → Fp → Prop
  | nil {f : Fp} (hf : ∀ a, f a = 0) : Rps S H ca [] [] f
  | cons {d : D} {v : V} {ds : List D} {vs : List V} {f g h : Fp} (r : Rp S H ca d v f) (t : Rps S H ca ds vs g) (hh : ∀ a, h a = f a + g a) : Rps S H ca (d :: ds) (v :: vs) h
inductive Rks (S H : Hp) (ca : List Addr) : List (Key × D) → List (Key × V) → Fp → Prop
  | nil {f : Fp} (hf : ∀ a, f a = 0) : Rks S H ca [] [] f
  | cons {k : Key} {d : D} {v : V} {ds : List (Key × D)} {vs : List (Key × V)} {f g h : Fp} (r : Rp S H ca d v f) (t : Rks S H ca ds vs g) (hh : ∀ a, h a = f a + g a) : Rks S H ca ((k, d) :: ds) ((k, v) :: vs) h
inductive Rfs (S H : Hp) (ca : List Addr) : List (Str × D) → List (Str × V) → Fp → Prop
  | nil {f : Fp} (hf : ∀ a, f a = 0) : Rfs S H ca [] [] f
  | cons {k : Str} {d : D} {v : V} {ds : List (Str × D)} {vs : List (Str × V)} {f g h : Fp} (r : Rp S H ca d v f) (t : Rfs S H ca ds vs g) (hh : ∀ a, h a = f a + g a) : Rfs S H ca ((k, d) :: ds) ((k, v) :: vs) h
end
end

/-- what a step may not change -/
def fixd : HO → Bool
  | .lst _ | .dK _ | .ins _ _ _ | .frz _ (.dK _) => false
  | _ => true
structure Tr (L : Fp) (S H S' H' : Hp) (ca ca' : List Addr) : Prop where
  ex : ∀ a o, S a = some o → S' a = some o
  keep : ∀ a o, H a = some o → L a = 0 → H' a = some o
  fix : ∀ a o, H a = some o → fixd o = true → H' a = some o
  dom : ∀ a, H' a = none → H a = none
  news : ∀ a, S a = none → S' a ≠ none → L a ≠ 0 ∨ H a = none
  cs : ∀ (n : Nat) (a : Addr), ca[n]? = some a → ca'[n]? = some a

variable {K : PySem.W.Frag} {cA : Str → Addr} {S H S' H' S1 H1 S2 H2 : Hp} {ca ca' ca1 ca2 : List Addr} {L L' L1 : Fp} {d : D} {v : V} {f g : Fp} {ds : List D} {vs : List V}

theorem Tr.refl : Tr L S H S H ca ca := ⟨fun _ _ h => h, fun _ _ h _ => h, fun _ _ h _ => h, fun _ h => h, fun _ h n => absurd h n, fun _ _ h => h⟩
theorem Tr.trans (x : Tr L S H S1 H1 ca ca1) (y : Tr L1 S1 H1 S2 H2 ca1 ca2) (hl : ∀ a, L1 a ≠ 0 → L a ≠ 0 ∨ H a = none) : Tr L S H S2 H2 ca ca2 where
  ex := fun a o h => y.ex a o (x.ex a o h)
  keep := fun a o h l => y.keep a o (x.keep a o h l) (by
    cases Nat.eq_zero_or_pos (L1 a) with
    | inl z => exact z
    | inr z =>
      rcases hl a (by omega) with q | q
      · exact absurd l q
      · rw [h] at q; cases q)
  fix := fun a o h q => y.fix a o (x.fix a o h q) q
  dom := fun a h => x.dom a (y.dom a h)
  news := fun a h n => by
    cases q : S1 a with
    | some o => exact x.news a h (by rw [q]; exact fun z => nomatch z)
    | none =>
      rcases y.news a q n with z | z
      · exact hl a z
      · exact .inr (x.dom a z)
  cs := fun n a h => y.cs n a (x.cs n a h)
theorem Tr.weak (x : Tr L S H S' H' ca ca') (h : ∀ a, L a ≠ 0 → L1 a ≠ 0) : Tr L1 S H S' H' ca ca' :=
  ⟨x.ex, fun a o e l => x.keep a o e (by
    cases Nat.eq_zero_or_pos (L a) with
    | inl z => exact z
    | inr z => exact absurd l (h a (by omega))), x.fix, x.dom, fun a e n => (x.news a e n).imp (h a) id, x.cs⟩

theorem rd_ex {a : Addr} {u : HO} (e : ∀ a o, S a = some o → S' a = some o) (h : Rd S a u) : Rd S' a u := by
  rcases h with h | ⟨o, h⟩
  · exact .inl (e _ _ h)
  · exact .inr ⟨o, e _ _ h⟩
theorem sqL_ex {a : Addr} {xs : List V} (e : ∀ a o, S a = some o → S' a = some o) (h : SqL K S a xs) : SqL K S' a xs := by
  rcases h with h | h
  · exact .inl (rd_ex e h)
  · exact .inr h
theorem sqT_fix {a : Addr} {xs : List V} (e : ∀ a o, H a = some o → fixd o = true → H' a = some o) (h : SqT K H a xs) : SqT K H' a xs := by
  rcases h with (h | ⟨o, h⟩) | h
  · exact .inl (.inl (e _ _ h rfl))
  · exact .inl (.inr ⟨o, e _ _ h rfl⟩)
  · exact .inr h

-- what a step leaves alone stands for the same
mutual
theorem Rp.keep (t : Tr L S H S' H' ca ca') : ∀ {d : D} {v : V} {f : Fp}, Rp K cA S H ca d v f → (∀ a, f a ≠ 0 → L a = 0) → Rp K cA S' H' ca' d v f
  | _, _, _, .non hf, _ => .non hf
  | _, _, _, .unk hf, _ => .unk hf
  | _, _, _, .bl b hf, _ => .bl b hf
  | _, _, _, .int b hf, _ => .int b hf
  | _, _, _, .str b hf, _ => .str b hf
  | _, _, _, .lstO (p := p) h hs r hf, l => by
    have lp : L p = 0 := l p (by rw [hf, if_pos rfl]; omega)
    refine .lstO (t.keep _ _ h lp) ?_ (Rps.keep t r fun a q => l a (by rw [hf]; omega)) hf
    cases q : S' p with
    | none => rfl
    | some o =>
      rcases t.news p hs (by rw [q]; exact fun z => nomatch z) with z | z
      · exact absurd lp z
      · rw [h] at z; cases z
  | _, _, _, .lstS h r hg hf, l => .lstS (t.ex _ _ h) (Rps.keep t r fun a q => absurd (hg a) q) hg hf
  | _, _, _, .tup h r, l => .tup (sqT_fix t.fix h) (Rps.keep t r l)
  | _, _, _, .dicO (p := p) h hs r hf, l => by
    have lp : L p = 0 := l p (by rw [hf, if_pos rfl]; omega)
    refine .dicO (t.keep _ _ h lp) ?_ (Rks.keep t r fun a q => l a (by rw [hf]; omega)) hf
    cases q : S' p with
    | none => rfl
    | some o =>
      rcases t.news p hs (by rw [q]; exact fun z => nomatch z) with z | z
      · exact absurd lp z
      · rw [h] at z; cases z
  | _, _, _, .dicS h r hg hf, l => .dicS (t.ex _ _ h) (Rks.keep t r fun a q => absurd (hg a) q) hg hf
  | _, _, _, .objS h r hg hf, l => .objS (t.ex _ _ h) (Rfs.keep t r fun a q => absurd (hg a) q) hg hf
  | _, _, _, .objO (p := p) h hs r hf, l => by
    have lp : L p = 0 := l p (by rw [hf, if_pos rfl]; omega)
    refine .objO (t.keep _ _ h lp) ?_ (Rfs.keep t r fun a q => l a (by rw [hf]; omega)) hf
    cases q : S' p with
    | none => rfl
    | some o =>
      rcases t.news p hs (by rw [q]; exact fun z => nomatch z) with z | z
      · exact absurd lp z
      · rw [h] at z; cases z
  | _, _, _, .cel h hf, _ => .cel (t.cs _ _ h) hf
  | _, _, _, .scr h hf, _ => .scr (sqL_ex t.ex h) hf
theorem Rps.keep (t : Tr L S H S' H' ca ca') : ∀ {ds : List D} {vs : List V} {f : Fp}, Rps K cA S H ca ds vs f → (∀ a, f a ≠ 0 → L a = 0) → Rps K cA S' H' ca' ds vs f
  | _, _, _, .nil hf, _ => .nil hf
  | _, _, _, .cons r u hh, l => .cons (Rp.keep t r fun a q => l a (by rw [hh]; omega)) (Rps.keep t u fun a q => l a (by rw [hh]; omega)) hh
theorem Rks.keep (t : Tr L S H S' H' ca ca') : ∀ {ds : List (Key × D)} {vs : List (Key × V)} {f : Fp}, Rks K cA S H ca ds vs f → (∀ a, f a ≠ 0 → L a = 0) → Rks K cA S' H' ca' ds vs f
  | _, _, _, .nil hf, _ => .nil hf
  | _, _, _, .cons r u hh, l => .cons (Rp.keep t r fun a q => l a (by rw [hh]; omega)) (Rks.keep t u fun a q => l a (by rw [hh]; omega)) hh
theorem Rfs.keep (t : Tr L S H S' H' ca ca') : ∀ {ds : List (Str × D)} {vs : List (Str × V)} {f : Fp}, Rfs K cA S H ca ds vs f → (∀ a, f a ≠ 0 → L a = 0) → Rfs K cA S' H' ca' ds vs f
  | _, _, _, .nil hf, _ => .nil hf
  | _, _, _, .cons r u hh, l => .cons (Rp.keep t r fun a q => l a (by rw [hh]; omega)) (Rfs.keep t u fun a q => l a (by rw [hh]; omega)) hh
end

-- the footprint's addresses stand in the heap, not in the part that stays
mutual
theorem Rp.own : ∀ {d : D} {v : V} {f : Fp}, Rp K cA S H ca d v f → ∀ a, f a ≠ 0 → H a ≠ none ∧ S a = none
  | _, _, _, .non hf, a, q => absurd (hf a) q
  | _, _, _, .unk hf, a, q => absurd (hf a) q
  | _, _, _, .bl b hf, a, q => absurd (hf a) q
  | _, _, _, .int b hf, a, q => absurd (hf a) q
  | _, _, _, .str b hf, a, q => absurd (hf a) q
  | _, _, _, .lstO (p := p) h hs r hf, a, q => by
    by_cases e : a = p
    · subst e; exact ⟨(by rw [h]; exact fun z => by cases z), hs⟩
    · rw [hf, if_neg e] at q; exact Rps.own r a (by omega)
  | _, _, _, .lstS h r hg hf, a, q => absurd (hf a) q
  | _, _, _, .tup h r, a, q => Rps.own r a q
  | _, _, _, .dicO (p := p) h hs r hf, a, q => by
    by_cases e : a = p
    · subst e; exact ⟨(by rw [h]; exact fun z => by cases z), hs⟩
    · rw [hf, if_neg e] at q; exact Rks.own r a (by omega)
  | _, _, _, .dicS h r hg hf, a, q => absurd (hf a) q
  | _, _, _, .objS h r hg hf, a, q => absurd (hf a) q
  | _, _, _, .objO (p := p) h hs r hf, a, q => by
    by_cases e : a = p
    · subst e; exact ⟨(by rw [h]; exact fun z => by cases z), hs⟩
    · rw [hf, if_neg e] at q; exact Rfs.own r a (by omega)
  | _, _, _, .cel h hf, a, q => absurd (hf a) q
  | _, _, _, .scr h hf, a, q => absurd (hf a) q
theorem Rps.own : ∀ {ds : List D} {vs : List V} {f : Fp}, Rps K cA S H ca ds vs f → ∀ a, f a ≠ 0 → H a ≠ none ∧ S a = none
  | _, _, _, .nil hf, a, q => absurd (hf a) q
  | _, _, _, .cons (f := f) r u hh, a, q => by
    by_cases e : f a = 0
    · exact Rps.own u a (by rw [hh] at q; omega)
    · exact Rp.own r a e
theorem Rks.own : ∀ {ds : List (Key × D)} {vs : List (Key × V)} {f : Fp}, Rks K cA S H ca ds vs f → ∀ a, f a ≠ 0 → H a ≠ none ∧ S a = none
  | _, _, _, .nil hf, a, q => absurd (hf a) q
  | _, _, _, .cons (f := f) r u hh, a, q => by
    by_cases e : f a = 0
    · exact Rks.own u a (by rw [hh] at q; omega)
    · exact Rp.own r a e
theorem Rfs.own : ∀ {ds : List (Str × D)} {vs : List (Str × V)} {f : Fp}, Rfs K cA S H ca ds vs f → ∀ a, f a ≠ 0 → H a ≠ none ∧ S a = none
  | _, _, _, .nil hf, a, q => absurd (hf a) q
  | _, _, _, .cons (f := f) r u hh, a, q => by
    by_cases e : f a = 0
    · exact Rfs.own u a (by rw [hh] at q; omega)
    · exact Rp.own r a e
end

-- shared from now on
mutual
def D.fz : D → D
  | .lst o xs => if o then .lst false (D.fzs xs) else .lst false xs
  | .tup xs => .tup (D.fzs xs)
  | .dic o ks => if o then .dic false (D.fzk ks) else .dic false ks
  | .obj o c fs => if o then .obj false c (D.fzf fs) else .obj false c fs
  | d => d
def D.fzs : List D → List D
  | [] => []
  | d :: r => d.fz :: D.fzs r
def D.fzk : List (Key × D) → List (Key × D)
  | [] => []
  | (k, d) :: r => (k, d.fz) :: D.fzk r
def D.fzf : List (Str × D) → List (Str × D)
  | [] => []
  | (k, d) :: r => (k, d.fz) :: D.fzf r
end
-- nothing in it is owned
mutual
def D.fr : D → Bool
  | .lst o _ => !o
  | .tup xs => D.frs xs
  | .dic o _ => !o
  | .obj o _ _ => !o
  | _ => true
def D.frs : List D → Bool
  | [] => true
  | d :: r => d.fr && D.frs r
end
mutual
theorem D.fz_of : ∀ {d : D}, d.fr = true → d.fz = d
  | .non, _ => by simp [D.fz]
  | .unk, _ => by simp [D.fz]
  | .bl _, _ => by simp [D.fz]
  | .int _, _ => by simp [D.fz]
  | .str _, _ => by simp [D.fz]
  | .lst o xs, h => by
    cases o with
    | true => simp [D.fr] at h
    | false => simp [D.fz]
  | .tup xs, h => by
    rw [D.fz, D.fzs_of (by simpa [D.fr] using h)]
  | .dic o ks, h => by
    cases o with
    | true => simp [D.fr] at h
    | false => simp [D.fz]
  | .obj o c fs, h => by
    cases o with
    | true => simp [D.fr] at h
    | false => simp [D.fz]
  | .cel _, _ => by simp [D.fz]
  | .scr _, _ => by simp [D.fz]
theorem D.fzs_of : ∀ {ds : List D}, D.frs ds = true → D.fzs ds = ds
  | [], _ => by simp [D.fzs]
  | d :: r, h => by
    rw [D.frs, Bool.and_eq_true] at h
    rw [D.fzs, D.fz_of h.1, D.fzs_of h.2]
end
-- what is not owned leaves no footprint
mutual
theorem Rp.fr0 : ∀ {d : D} {v : V} {f : Fp}, Rp K cA S H ca d v f → d.fr = true → ∀ a, f a = 0
  | _, _, _, .non hf, _, a => hf a
  | _, _, _, .unk hf, _, a => hf a
  | _, _, _, .bl b hf, _, a => hf a
  | _, _, _, .int b hf, _, a => hf a
  | _, _, _, .str b hf, _, a => hf a
  | _, _, _, .lstO h hs r hf, q, a => by simp [D.fr] at q
  | _, _, _, .lstS h r hg hf, q, a => hf a
  | _, _, _, .tup h r, q, a => Rps.fr0 r (by simpa [D.fr] using q) a
  | _, _, _, .dicO h hs r hf, q, a => by simp [D.fr] at q
  | _, _, _, .dicS h r hg hf, q, a => hf a
  | _, _, _, .objO h hs r hf, q, a => by simp [D.fr] at q
  | _, _, _, .objS h r hg hf, q, a => hf a
  | _, _, _, .cel h hf, _, a => hf a
  | _, _, _, .scr h hf, _, a => hf a
theorem Rps.fr0 : ∀ {ds : List D} {vs : List V} {f : Fp}, Rps K cA S H ca ds vs f → D.frs ds = true → ∀ a, f a = 0
  | _, _, _, .nil hf, _, a => hf a
  | _, _, _, .cons r u hh, q, a => by
    rw [D.frs, Bool.and_eq_true] at q
    rw [hh, Rp.fr0 r q.1 a, Rps.fr0 u q.2 a]
end
theorem Rp.f0 (h : ∀ a, f a = 0) (r : Rp K cA S H ca d v f) : Rp K cA S H ca d v (fun _ => 0) := by
  have e : f = fun _ => 0 := funext h
  rw [← e]; exact r
-- a footprint of nothing: the part that stays may grow
mutual
theorem Rp.mono0 (e : ∀ a o, S a = some o → S' a = some o) : ∀ {d : D} {v : V} {f : Fp}, Rp K cA S H ca d v f → (∀ a, f a = 0) → Rp K cA S' H ca d v f
  | _, _, _, .unk hf, _ => .unk hf
  | _, _, _, .non hf, _ => .non hf
  | _, _, _, .bl b hf, _ => .bl b hf
  | _, _, _, .int b hf, _ => .int b hf
  | _, _, _, .str b hf, _ => .str b hf
  | _, _, _, .lstO (p := p) h hs r hf, z => by
    have q := z p
    rw [hf, if_pos rfl] at q
    omega
  | _, _, _, .lstS h r hg hf, _ => .lstS (e _ _ h) (Rps.mono0 e r hg) hg hf
  | _, _, _, .tup h r, z => .tup h (Rps.mono0 e r z)
  | _, _, _, .dicO (p := p) h hs r hf, z => by
    have q := z p
    rw [hf, if_pos rfl] at q
    omega
  | _, _, _, .dicS h r hg hf, _ => .dicS (e _ _ h) (Rks.mono0 e r hg) hg hf
  | _, _, _, .objO (p := p) h hs r hf, z => by
    have q := z p
    rw [hf, if_pos rfl] at q
    omega
  | _, _, _, .objS h r hg hf, _ => .objS (e _ _ h) (Rfs.mono0 e r hg) hg hf
  | _, _, _, .cel h hf, _ => .cel h hf
  | _, _, _, .scr h hf, _ => .scr (sqL_ex e h) hf
theorem Rps.mono0 (e : ∀ a o, S a = some o → S' a = some o) : ∀ {ds : List D} {vs : List V} {f : Fp}, Rps K cA S H ca ds vs f → (∀ a, f a = 0) → Rps K cA S' H ca ds vs f
  | _, _, _, .nil hf, _ => .nil hf
  | _, _, _, .cons r u hh, z => .cons (Rp.mono0 e r fun a => by have := z a; rw [hh] at this; omega) (Rps.mono0 e u fun a => by have := z a; rw [hh] at this; omega) hh
theorem Rks.mono0 (e : ∀ a o, S a = some o → S' a = some o) : ∀ {ds : List (Key × D)} {vs : List (Key × V)} {f : Fp}, Rks K cA S H ca ds vs f → (∀ a, f a = 0) → Rks K cA S' H ca ds vs f
  | _, _, _, .nil hf, _ => .nil hf
  | _, _, _, .cons r u hh, z => .cons (Rp.mono0 e r fun a => by have := z a; rw [hh] at this; omega) (Rks.mono0 e u fun a => by have := z a; rw [hh] at this; omega) hh
theorem Rfs.mono0 (e : ∀ a o, S a = some o → S' a = some o) : ∀ {ds : List (Str × D)} {vs : List (Str × V)} {f : Fp}, Rfs K cA S H ca ds vs f → (∀ a, f a = 0) → Rfs K cA S' H ca ds vs f
  | _, _, _, .nil hf, _ => .nil hf
  | _, _, _, .cons r u hh, z => .cons (Rp.mono0 e r fun a => by have := z a; rw [hh] at this; omega) (Rfs.mono0 e u fun a => by have := z a; rw [hh] at this; omega) hh
end
/-- frozen: the footprint goes over to the part that stays -/
def frzS (f : Fp) (S H : Hp) : Hp := fun a => if f a = 0 then S a else H a
mutual
def D.nob : D → Bool
  | .lst o xs => D.nobs xs
  | .tup xs => D.nobs xs
  | .dic o ks => D.nobk ks
  | .obj _ _ fs => D.nobf fs
  | _ => true
def D.nobs : List D → Bool
  | [] => true
  | d :: r => d.nob && D.nobs r
def D.nobk : List (Key × D) → Bool
  | [] => true
  | (_, d) :: r => d.nob && D.nobk r
def D.nobf : List (Str × D) → Bool
  | [] => true
  | (_, d) :: r => d.nob && D.nobf r
end
mutual
theorem Rp.frz (e : ∀ a o, S a = some o → S' a = some o) : ∀ {d : D} {v : V} {f : Fp}, Rp K cA S H ca d v f → (∀ a, f a ≠ 0 → S' a = H a) → d.nob = true → Rp K cA S' H ca d.fz v (fun _ => 0)
  | _, _, _, .non hf, _, _ => .non fun _ => rfl
  | _, _, _, .unk hf, _, _ => .unk fun _ => rfl
  | _, _, _, .bl b hf, _, _ => .bl b fun _ => rfl
  | _, _, _, .int b hf, _, _ => .int b fun _ => rfl
  | _, _, _, .str b hf, _, _ => .str b fun _ => rfl
  | _, _, _, .lstO (p := p) h hs r hf, z, nb => by
    rw [D.fz, if_pos rfl]
    refine .lstS (g := fun _ => 0) ?_ (Rps.frz e r (fun a q => z a (by rw [hf]; omega)) (by simpa [D.nob] using nb)) (fun _ => rfl) (fun _ => rfl)
    exact (z p (by rw [hf, if_pos rfl]; omega)).trans h
  | _, _, _, .lstS h r hg hf, _, _ => by
    rw [D.fz, if_neg Bool.false_ne_true]
    exact .lstS (e _ _ h) (Rps.mono0 e r hg) hg (fun _ => rfl)
  | _, _, _, .tup h r, z, nb => by
    rw [D.fz]
    exact .tup h (Rps.frz e r z (by simpa [D.nob] using nb))
  | _, _, _, .dicO (p := p) h hs r hf, z, nb => by
    rw [D.fz, if_pos rfl]
    refine .dicS (g := fun _ => 0) ?_ (Rks.frz e r (fun a q => z a (by rw [hf]; omega)) (by simpa [D.nob] using nb)) (fun _ => rfl) (fun _ => rfl)
    exact (z p (by rw [hf, if_pos rfl]; omega)).trans h
  | _, _, _, .dicS h r hg hf, _, _ => by
    rw [D.fz, if_neg Bool.false_ne_true]
    exact .dicS (e _ _ h) (Rks.mono0 e r hg) hg (fun _ => rfl)
  | _, _, _, .objO (p := p) (dx := dx) h hs r hf, z, nb => by
    rw [D.fz, if_pos rfl]
    refine .objS (dx := dx) (g := fun _ => 0) ?_ (Rfs.frz e r (fun a q => z a (by rw [hf]; omega)) (by simpa [D.nob] using nb)) (fun _ => rfl) (fun _ => rfl)
    exact (z p (by rw [hf, if_pos rfl]; omega)).trans h
  | _, _, _, .objS h r hg hf, _, _ => by
    rw [D.fz, if_neg Bool.false_ne_true]
    exact .objS (e _ _ h) (Rfs.mono0 e r hg) hg (fun _ => rfl)
  | _, _, _, .cel h hf, _, _ => .cel h fun _ => rfl
  | _, _, _, .scr h hf, _, _ => .scr (sqL_ex e h) fun _ => rfl
theorem Rps.frz (e : ∀ a o, S a = some o → S' a = some o) : ∀ {ds : List D} {vs : List V} {f : Fp}, Rps K cA S H ca ds vs f → (∀ a, f a ≠ 0 → S' a = H a) → D.nobs ds = true → Rps K cA S' H ca (D.fzs ds) vs (fun _ => 0)
  | _, _, _, .nil hf, _, _ => .nil fun _ => rfl
  | _, _, _, .cons r u hh, z, nb => by
    rw [D.nobs, Bool.and_eq_true] at nb
    rw [D.fzs]
    exact .cons (Rp.frz e r (fun a q => z a (by rw [hh]; omega)) nb.1) (Rps.frz e u (fun a q => z a (by rw [hh]; omega)) nb.2) (fun _ => rfl)
theorem Rks.frz (e : ∀ a o, S a = some o → S' a = some o) : ∀ {ds : List (Key × D)} {vs : List (Key × V)} {f : Fp}, Rks K cA S H ca ds vs f → (∀ a, f a ≠ 0 → S' a = H a) → D.nobk ds = true → Rks K cA S' H ca (D.fzk ds) vs (fun _ => 0)
  | _, _, _, .nil hf, _, _ => .nil fun _ => rfl
  | _, _, _, .cons r u hh, z, nb => by
    rw [D.nobk, Bool.and_eq_true] at nb
    rw [D.fzk]
    exact .cons (Rp.frz e r (fun a q => z a (by rw [hh]; omega)) nb.1) (Rks.frz e u (fun a q => z a (by rw [hh]; omega)) nb.2) (fun _ => rfl)
theorem Rfs.frz (e : ∀ a o, S a = some o → S' a = some o) : ∀ {ds : List (Str × D)} {vs : List (Str × V)} {f : Fp}, Rfs K cA S H ca ds vs f → (∀ a, f a ≠ 0 → S' a = H a) → D.nobf ds = true → Rfs K cA S' H ca (D.fzf ds) vs (fun _ => 0)
  | _, _, _, .nil hf, _, _ => .nil fun _ => rfl
  | _, _, _, .cons r u hh, z, nb => by
    rw [D.nobf, Bool.and_eq_true] at nb
    rw [D.fzf]
    exact .cons (Rp.frz e r (fun a q => z a (by rw [hh]; omega)) nb.1) (Rfs.frz e u (fun a q => z a (by rw [hh]; omega)) nb.2) (fun _ => rfl)
end
end Fw

set_option Elab.async false
set_option linter.all false
set_option maxRecDepth 100000
namespace Fw
open PySem PySem.Spec PyProof.Rows L2

abbrev DEnv := List (Option D)
abbrev Sto := List D
abbrev Mo (α : Type) := DEnv → Sto → Option (α × DEnv × Sto)

section
variable (K : PySem.W.Frag) (cA : Str → Addr)
inductive EnvR (S H : Hp) (ca : List Addr) : DEnv → L2.St → Fp → Prop
  | nil {f : Fp} (hf : ∀ a, f a = 0) : EnvR S H ca [] [] f
  | no {e : DEnv} {σ : L2.St} {x : Option V} {f : Fp} (t : EnvR S H ca e σ f) : EnvR S H ca (none :: e) (x :: σ) f
  | so {e : DEnv} {σ : L2.St} {d : D} {v : V} {f g h : Fp} (r : Rp K cA S H ca d v f) (t : EnvR S H ca e σ g) (hh : ∀ a, h a = f a + g a) : EnvR S H ca (some d :: e) (some v :: σ) h
inductive CellsR (S H : Hp) (ca : List Addr) : Sto → List Addr → Fp → Prop
  | nil {f : Fp} (hf : ∀ a, f a = 0) : CellsR S H ca [] [] f
  | gap {p : Addr} {ds : Sto} {ps : List Addr} {g : Fp} (t : CellsR S H ca ds ps g) : CellsR S H ca (.non :: ds) (p :: ps) g
  | cons {d : D} {p : Addr} {ds : Sto} {ps : List Addr} {f g h : Fp} (r : Rp K cA S H ca d (.ref p) f) (hp : f p ≠ 0) (t : CellsR S H ca ds ps g) (hh : ∀ a, h a = f a + g a) : CellsR S H ca (d :: ds) (p :: ps) h
structure Sta (σ : L2.St) (S H : Hp) (env : DEnv) (st : Sto) (ca : List Addr) (ow A : Fp) : Prop where
  e : EnvR K cA S H ca env σ ow
  c : CellsR K cA S H ca st ca A
  sub : ∀ a o, S a = some o → H a = some o
  dis : ∀ a, ow a + A a ≤ 1
end

section
variable {K : PySem.W.Frag} {cA : Str → Addr} {S H S' H' S1 H1 S2 H2 : Hp} {ca ca' ca1 ca2 : List Addr} {L L' L1 ow A ow' A' ow1 A1 ow2 A2 : Fp} {d : D} {v : V} {f g f1 f2 : Fp} {ds : List D} {vs : List V}
  {σ : L2.St} {env env1 env2 : DEnv} {st st1 st2 : Sto}
theorem EnvR.keep (t : Tr L S H S' H' ca ca') : ∀ {env : DEnv} {σ : L2.St} {ow : Fp}, EnvR K cA S H ca env σ ow → (∀ a, ow a ≠ 0 → L a = 0) → EnvR K cA S' H' ca' env σ ow
  | _, _, _, .nil hf, _ => .nil hf
  | _, _, _, .no r, l => .no (r.keep t l)
  | _, _, _, .so r u hh, l => .so (r.keep t fun a q => l a (by rw [hh]; omega)) (u.keep t fun a q => l a (by rw [hh]; omega)) hh
theorem CellsR.keep (t : Tr L S H S' H' ca ca') : ∀ {st : Sto} {ps : List Addr} {A : Fp}, CellsR K cA S H ca st ps A → (∀ a, A a ≠ 0 → L a = 0) → CellsR K cA S' H' ca' st ps A
  | _, _, _, .nil hf, _ => .nil hf
  | _, _, _, .gap u, l => .gap (u.keep t l)
  | _, _, _, .cons r hp u hh, l => .cons (r.keep t fun a q => l a (by rw [hh]; omega)) hp (u.keep t fun a q => l a (by rw [hh]; omega)) hh
theorem EnvR.own : ∀ {env : DEnv} {σ : L2.St} {ow : Fp}, EnvR K cA S H ca env σ ow → ∀ a, ow a ≠ 0 → H a ≠ none ∧ S a = none
  | _, _, _, .nil hf, a, q => absurd (hf a) q
  | _, _, _, .no r, a, q => r.own a q
  | _, _, _, .so (f := f) r u hh, a, q => by
    by_cases e : f a = 0
    · exact u.own a (by rw [hh] at q; omega)
    · exact r.own a e
theorem CellsR.own : ∀ {st : Sto} {ps : List Addr} {A : Fp}, CellsR K cA S H ca st ps A → ∀ a, A a ≠ 0 → H a ≠ none ∧ S a = none
  | _, _, _, .nil hf, a, q => absurd (hf a) q
  | _, _, _, .gap u, a, q => u.own a q
  | _, _, _, .cons (f := f) r hp u hh, a, q => by
    by_cases e : f a = 0
    · exact u.own a (by rw [hh] at q; omega)
    · exact r.own a e
theorem EnvR.len : ∀ {env : DEnv} {σ : L2.St} {ow : Fp}, EnvR K cA S H ca env σ ow → env.length = σ.length
  | _, _, _, .nil _ => rfl
  | _, _, _, .no r => by rw [List.length_cons, List.length_cons, r.len]
  | _, _, _, .so _ r _ => by rw [List.length_cons, List.length_cons, r.len]
/-- a slot's value taken out -/
theorem EnvR.take : ∀ {env : DEnv} {σ : L2.St} {ow : Fp} {i : Nat} {d : D}, EnvR K cA S H ca env σ ow → env[i]? = some (some d) →
    ∃ v f g, σ[i]? = some (some v) ∧ Rp K cA S H ca d v f ∧ EnvR K cA S H ca (env.set i none) σ g ∧ ∀ a, ow a = f a + g a
  | _, _, _, i, d, .nil _, h => by simp at h
  | _, _, _, 0, d, .no r, h => by simp at h
  | _, _, _, i + 1, d, .no r, h => by
    obtain ⟨v, f, g, h1, h2, h3, h4⟩ := r.take (i := i) (by simpa using h)
    exact ⟨v, f, g, by simpa using h1, h2, .no h3, h4⟩
  | _, _, _, 0, d, .so (f := f) (g := g) r u hh, h => by
    simp only [List.getElem?_cons_zero, Option.some.injEq] at h
    subst h
    exact ⟨_, f, g, rfl, r, .no u, hh⟩
  | _, _, _, i + 1, d, .so (f := f0) (g := g0) r u hh, h => by
    obtain ⟨v, f, g, h1, h2, h3, h4⟩ := u.take (i := i) (by simpa using h)
    exact ⟨v, f, fun a => f0 a + g a, by simpa using h1, h2, .so r h3 (fun _ => rfl), fun a => by
      show _ = f a + (f0 a + g a)
      rw [hh, h4]; omega⟩
/-- and put back -/
theorem EnvR.put : ∀ {env : DEnv} {σ : L2.St} {g : Fp} {i : Nat} {d : D} {v : V} {f : Fp}, EnvR K cA S H ca (env.set i none) σ g → σ[i]? = some (some v) → Rp K cA S H ca d v f →
    EnvR K cA S H ca (env.set i (some d)) σ (fun a => f a + g a)
  | [], _, _, _, _, _, _, .nil hf, h, _ => by simp at h
  | _ :: e, _ :: σ, g, 0, d, v, f, .no r, h, q => by
    simp only [List.getElem?_cons_zero, Option.some.injEq] at h
    subst h
    exact .so q r (fun _ => rfl)
  | _ :: e, _ :: σ, g, i + 1, d, v, f, .no r, h, q => .no (r.put (by simpa using h) q)
  | _ :: e, _ :: σ, g, i + 1, d, v, f, .so (f := f0) (g := g0) r u hh, h, q => by
    refine .so r (u.put (by simpa using h) q) (fun a => ?_)
    show f a + g a = f0 a + (f a + g0 a)
    rw [hh]; omega
/-- a name is stored -/
theorem EnvR.store : ∀ {env : DEnv} {σ : L2.St} {ow : Fp} {i : Nat} {d : D} {v : V} {f : Fp}, EnvR K cA S H ca env σ ow → i < env.length → Rp K cA S H ca d v f →
    ∃ g : Fp, EnvR K cA S H ca (env.set i (some d)) (σ.set i (some v)) (fun a => f a + g a) ∧ ∀ a, g a ≤ ow a
  | [], _, _, _, _, _, _, .nil _, h, _ => by simp at h
  | _ :: e, _ :: σ, ow, 0, d, v, f, .no r, h, q => ⟨ow, .so q r (fun _ => rfl), fun _ => Nat.le_refl _⟩
  | _ :: e, _ :: σ, ow, 0, d, v, f, .so (g := g0) r u hh, h, q => ⟨g0, .so q u (fun _ => rfl), fun a => by rw [hh]; omega⟩
  | _ :: e, _ :: σ, ow, i + 1, d, v, f, .no r, h, q => by
    obtain ⟨g, h1, h2⟩ := r.store (i := i) (by simpa using h) q
    exact ⟨g, .no h1, h2⟩
  | _ :: e, _ :: σ, ow, i + 1, d, v, f, .so (f := f0) (g := g0) r u hh, h, q => by
    obtain ⟨g, h1, h2⟩ := u.store (i := i) (by simpa using h) q
    refine ⟨fun a => f0 a + g a, .so r h1 (fun a => ?_), fun a => ?_⟩
    · show f a + (f0 a + g a) = f0 a + (f a + g a)
      omega
    · have := h2 a
      show f0 a + g a ≤ ow a
      rw [hh]; omega
/-- a slot forgotten, whatever stands there -/
theorem EnvR.drop : ∀ {env : DEnv} {σ : L2.St} {ow : Fp} (i : Nat) (x : Option V), EnvR K cA S H ca env σ ow → ∃ g : Fp, EnvR K cA S H ca (env.set i none) (σ.set i x) g ∧ ∀ a, g a ≤ ow a
  | [], _, ow, _, _, .nil hf => ⟨ow, .nil hf, fun _ => Nat.le_refl _⟩
  | _ :: e, _ :: σ, ow, 0, x, .no r => ⟨ow, .no r, fun _ => Nat.le_refl _⟩
  | _ :: e, _ :: σ, ow, 0, x, .so (g := g0) r u hh => ⟨g0, .no u, fun a => by rw [hh]; omega⟩
  | _ :: e, _ :: σ, ow, i + 1, x, .no r => let ⟨g, h1, h2⟩ := r.drop i x; ⟨g, .no h1, h2⟩
  | _ :: e, _ :: σ, ow, i + 1, x, .so (f := f0) (g := g0) r u hh => by
    obtain ⟨g, h1, h2⟩ := u.drop i x
    refine ⟨fun a => f0 a + g a, .so r h1 (fun _ => rfl), fun a => ?_⟩
    have := h2 a
    show f0 a + g a ≤ ow a
    rw [hh]; omega

/-- what is behind a step -/
structure Post (K : PySem.W.Frag) (cA : Str → Addr) (σ : L2.St) (S H : Hp) (ca : List Addr) (ow A : Fp) (env' : DEnv) (st' : Sto) (R : Hp → Hp → List Addr → Fp → Prop) (S' H' : Hp) (ca' : List Addr) (ow' A' f : Fp) : Prop where
  tr : Tr (fun a => ow a + A a) S H S' H' ca ca'
  st : Sta K cA σ S' H' env' st' ca' ow' A'
  rp : R S' H' ca' f
  le : ∀ a, ow' a + A' a + f a ≤ 1
  fo : ∀ a, ow' a + A' a + f a ≠ 0 → ow a + A a ≠ 0 ∨ H a = none
/-- a relation that a step leaves, away from its footprint -/
structure Kp (R : Hp → Hp → List Addr → Fp → Prop) : Prop where
  keep : ∀ {L : Fp} {S H S' H' : Hp} {ca ca' : List Addr} {f : Fp}, Tr L S H S' H' ca ca' → R S H ca f → (∀ a, f a ≠ 0 → L a = 0) → R S' H' ca' f
  own : ∀ {S H : Hp} {ca : List Addr} {f : Fp}, R S H ca f → ∀ a, f a ≠ 0 → H a ≠ none ∧ S a = none
abbrev rD (K : PySem.W.Frag) (cA : Str → Addr) (d : D) (v : V) : Hp → Hp → List Addr → Fp → Prop := fun S H ca f => Rp K cA S H ca d v f
abbrev rDs (K : PySem.W.Frag) (cA : Str → Addr) (ds : List D) (vs : List V) : Hp → Hp → List Addr → Fp → Prop := fun S H ca f => Rps K cA S H ca ds vs f
abbrev r2 (R R' : Hp → Hp → List Addr → Fp → Prop) : Hp → Hp → List Addr → Fp → Prop := fun S H ca h => ∃ f g, (∀ a, h a = f a + g a) ∧ R S H ca f ∧ R' S H ca g
abbrev r0 : Hp → Hp → List Addr → Fp → Prop := fun _ _ _ f => ∀ a, f a = 0
theorem kp_d : Kp (rD K cA d v) := ⟨fun t r l => r.keep t l, fun r => r.own⟩
theorem kp_ds : Kp (rDs K cA ds vs) := ⟨fun t r l => r.keep t l, fun r => r.own⟩
theorem kp_2 {R R' : Hp → Hp → List Addr → Fp → Prop} (k : Kp R) (k' : Kp R') : Kp (r2 R R') :=
  ⟨fun t ⟨f, g, h, x, y⟩ l => ⟨f, g, h, k.keep t x fun a q => l a (by rw [h]; omega), k'.keep t y fun a q => l a (by rw [h]; omega)⟩, fun ⟨f, g, h, x, y⟩ a q => by
    by_cases e : f a = 0
    · exact k'.own y a (by rw [h] at q; omega)
    · exact k.own x a e⟩
variable {R R' : Hp → Hp → List Addr → Fp → Prop}
theorem Sta.self (t : Sta K cA σ S H env st ca ow A) (r : R S H ca f) (h : ∀ a, f a = 0) : Post K cA σ S H ca ow A env st R S H ca ow A f :=
  ⟨.refl, t, r, fun a => by have := t.dis a; rw [h a]; omega, fun a q => .inl (by rw [h a] at q; omega)⟩
/-- one step behind another, what came first kept -/
theorem Post.both (k : Kp R) (p : Post K cA σ S H ca ow A env1 st1 R S1 H1 ca1 ow1 A1 f) (q : Post K cA σ S1 H1 ca1 ow1 A1 env2 st2 R' S2 H2 ca2 ow2 A2 g) :
    Post K cA σ S H ca ow A env2 st2 (r2 R R') S2 H2 ca2 ow2 A2 (fun a => f a + g a) where
  tr := p.tr.trans q.tr fun a h => p.fo a (by omega)
  st := q.st
  rp := ⟨f, g, fun _ => rfl, k.keep q.tr p.rp fun a h => by have := p.le a; show ow1 a + A1 a = 0; omega, q.rp⟩
  le := fun a => by
    have h1 := p.le a
    have h2 := q.le a
    show ow2 a + A2 a + (f a + g a) ≤ 1
    by_cases e : f a = 0
    · omega
    · by_cases z : ow2 a + A2 a + g a = 0
      · omega
      · rcases q.fo a z with w | w
        · omega
        · exact absurd w (k.own p.rp a e).1
  fo := fun a h => by
    have h : ow2 a + A2 a + (f a + g a) ≠ 0 := h
    by_cases e : f a = 0
    · rcases q.fo a (by omega) with w | w
      · exact p.fo a (by omega)
      · exact .inr (p.tr.dom a w)
    · exact p.fo a (by omega)
/-- one step behind another -/
theorem Post.next (p : Post K cA σ S H ca ow A env1 st1 R S1 H1 ca1 ow1 A1 f) (q : Post K cA σ S1 H1 ca1 ow1 A1 env2 st2 R' S2 H2 ca2 ow2 A2 g) :
    Post K cA σ S H ca ow A env2 st2 R' S2 H2 ca2 ow2 A2 g where
  tr := p.tr.trans q.tr fun a h => p.fo a (by omega)
  st := q.st
  rp := q.rp
  le := q.le
  fo := fun a h => by
    rcases q.fo a h with w | w
    · exact p.fo a (by omega)
    · exact .inr (p.tr.dom a w)
theorem Post.imp (p : Post K cA σ S H ca ow A env1 st1 R S1 H1 ca1 ow1 A1 f) (h : R S1 H1 ca1 f → R' S1 H1 ca1 g) (hg : ∀ a, g a ≤ f a) : Post K cA σ S H ca ow A env1 st1 R' S1 H1 ca1 ow1 A1 g :=
  ⟨p.tr, p.st, h p.rp, fun a => by have := p.le a; have := hg a; omega, fun a q => p.fo a (by have := hg a; omega)⟩
theorem tr_grow (gr : ∀ a o, H a = some o → H' a = some o) : Tr L S H S H' ca ca where
  ex := fun _ _ h => h
  keep := fun a o h _ => gr a o h
  fix := fun a o h _ => gr a o h
  dom := fun a h => by
    cases q : H a with
    | none => rfl
    | some o => rw [gr a o q] at h; cases h
  news := fun _ h n => absurd h n
  cs := fun _ _ h => h
/-- the heap grows, a new value is made of the former ones -/
theorem Post.grow (p : Post K cA σ S H ca ow A env1 st1 R S1 H1 ca1 ow1 A1 f) (gr : ∀ a o, H1 a = some o → H2 a = some o) (r : R' S1 H2 ca1 g) (h1 : ∀ a, g a ≤ 1) (h2 : ∀ a, g a ≠ 0 → f a ≠ 0 ∨ H1 a = none) :
    Post K cA σ S H ca ow A env1 st1 R' S1 H2 ca1 ow1 A1 g where
  tr := p.tr.trans (L1 := fun _ => 0) (tr_grow gr) fun a h => absurd rfl h
  st := ⟨p.st.e.keep (L := fun _ => 0) (tr_grow gr) fun _ _ => rfl, p.st.c.keep (L := fun _ => 0) (tr_grow gr) fun _ _ => rfl, fun a o h => gr a o (p.st.sub a o h), p.st.dis⟩
  rp := r
  le := fun a => by
    have := p.le a
    have := h1 a
    by_cases e : g a = 0
    · omega
    · rcases h2 a e with w | w
      · omega
      · by_cases z : ow1 a + A1 a = 0
        · omega
        · by_cases y : ow1 a = 0
          · exact absurd w (p.st.c.own a (by omega)).1
          · exact absurd w (p.st.e.own a y).1
  fo := fun a h => by
    by_cases e : ow1 a + A1 a + f a = 0
    · rcases h2 a (by omega) with w | w
      · omega
      · exact .inr (p.tr.dom a w)
    · exact p.fo a e
end

section
variable {X : Cx} (cA : Str → Addr)
/-- the reading that a step in words of values has -/
def tG {α β : Type} (m : Mo α) (rel : α → β → Hp → Hp → List Addr → Fp → Prop) (K : PySem.W.Frag) : L2.St → Hp → (β → Hp → Prop) → Prop := fun σ H Q =>
  ∃ S ca env st ow A a env' st', Sta K cA σ S H env st ca ow A ∧ m env st = some (a, env', st') ∧
    ∀ b S' H' ca' ow' A' f, Post K cA σ S H ca ow A env' st' (rel a b) S' H' ca' ow' A' f → Q b H'
abbrev tE (m : Mo D) (K : PySem.W.Frag) : TE := tG cA m (rD K cA) K
abbrev tA (m : Mo (List D)) (K : PySem.W.Frag) : TA := tG cA m (rDs K cA) K
/-- an expression in words of values -/
abbrev PD (X : Cx) (e : Expr) (m : Mo D) : Prop := PE X e (tE cA m X.K)
abbrev PDs (X : Cx) (es : List Expr) (m : Mo (List D)) : Prop := PA X es (tA cA m X.K)
/-- a test -/
abbrev PB (X : Cx) (e : Expr) (m : Mo D) : Prop := PT X e (tTest (tE cA m X.K))
abbrev PWB (X : Cx) (e : Expr) (m : Mo D) : Prop := PW X e (tTest (tE cA m X.K))
end
theorem pe_w {X : Cx} {e : Expr} {t t' : TE} (h : PE X e t) (i : ∀ σ H Q, t' σ H Q → t σ H Q) : PE X e t' := ⟨fun pins s σ H Q I q => h.run pins s σ H Q I (i σ H Q q)⟩
theorem pa_w {X : Cx} {e : List Expr} {t t' : TA} (h : PA X e t) (i : ∀ σ H Q, t' σ H Q → t σ H Q) : PA X e t' := ⟨fun pos pins s σ H Q I q => h.run pos pins s σ H Q I (i σ H Q q)⟩
theorem pt_w {X : Cx} {e : Expr} {t t' : TT} (h : PT X e t) (i : ∀ σ H Q, t' σ H Q → t σ H Q) : PT X e t' := ⟨fun pins s σ H Q I q => h.run pins s σ H Q I (i σ H Q q)⟩
theorem pw_w {X : Cx} {e : Expr} {t t' : TT} (h : PW X e t) (i : ∀ σ H Q, t' σ H Q → t σ H Q) : PW X e t' := ⟨fun wh pins s σ H Q I q => h.run wh pins s σ H Q I (i σ H Q q)⟩
theorem ps_w {X : Cx} {e : Stmt} {t t' : TS} (h : PS X e t) (i : ∀ D σ H, t' D σ H → t D σ H) : PS X e t' := ⟨fun pins s σ H D I q => h.run pins s σ H D I (i D σ H q)⟩
theorem pss_w {X : Cx} {e : List Stmt} {t t' : TS} (h : PSs X e t) (i : ∀ D σ H, t' D σ H → t D σ H) : PSs X e t' := ⟨fun pins s σ H D I q => h.run pins s σ H D I (i D σ H q)⟩
end Fw

set_option Elab.async false
set_option linter.all false
set_option maxRecDepth 100000
namespace Fw
open PySem PySem.Spec PyProof.Rows L2

section
variable {K : PySem.W.Frag} {cA : Str → Addr} {S H S' H' S1 H1 S2 H2 : Hp} {ca ca' ca1 ca2 : List Addr} {L L' L1 ow A ow' A' ow1 A1 ow2 A2 : Fp} {d : D} {v : V} {f g f1 f2 : Fp} {ds : List D} {vs : List V}
  {σ : L2.St} {env env1 env2 env' : DEnv} {st st1 st2 st' : Sto}
/-! ### names -/
def mVar (i : Nat) : Mo D := fun env st => match env[i]? with
  | some (some d) => if d.fr = true then some (d, env, st) else if d.nob = true then some (d.fz, env.set i (some d.fz), st) else none
  | _ => none
/-- the last reading of a name: what it owns goes along -/
def mMv (i : Nat) : Mo D := fun env st => match env[i]? with
  | some (some d) => some (d, env.set i none, st)
  | _ => none
theorem frz_tr (e : ∀ a, f a ≠ 0 → H a ≠ none ∧ S a = none) : Tr f S H (frzS f S H) H ca ca where
  ex := fun a o h => by
    unfold frzS
    by_cases z : f a = 0
    · rw [if_pos z]; exact h
    · rw [(e a z).2] at h; cases h
  keep := fun _ _ h _ => h
  fix := fun _ _ h _ => h
  dom := fun _ h => h
  news := fun a h n => by
    by_cases z : f a = 0
    · unfold frzS at n
      rw [if_pos z] at n
      exact absurd h n
    · exact .inl z
  cs := fun _ _ h => h
theorem frz_sub (s : ∀ a o, S a = some o → H a = some o) : ∀ a o, frzS f S H a = some o → H a = some o := fun a o h => by
  unfold frzS at h
  split at h
  · exact s a o h
  · exact h
theorem frz_at (f : Fp) (S H : Hp) : ∀ a, f a ≠ 0 → frzS f S H a = H a := fun a h => by
  unfold frzS
  rw [if_neg h]
theorem mVar_ok (t : Sta K cA σ S H env st ca ow A) {i : Nat} (h : mVar i env st = some (d, env', st')) : ∃ v S' ow', σ[i]? = some (some v) ∧ Post K cA σ S H ca ow A env' st' (rD K cA d v) S' H ca ow' A (fun _ => 0) := by
  unfold mVar at h
  split at h
  · rename_i d0 he
    obtain ⟨v, f, g, hv, r, eg, hw⟩ := t.e.take he
    split at h
    · rename_i hfr
      injection h with h
      injection h with h1 h2
      injection h2 with h2 h3
      subst h1; subst h2; subst h3
      have f0 := r.fr0 hfr
      exact ⟨v, S, ow, hv, t.self (r.f0 f0) fun _ => rfl⟩
    · split at h
      · rename_i hnb
        injection h with h
        injection h with h1 h2
        injection h2 with h2 h3
        subst h1; subst h2; subst h3
        have own := r.own
        have tr : Tr f S H (frzS f S H) H ca ca := frz_tr own
        have dis : ∀ a, g a ≠ 0 → f a = 0 := fun a q => by have := t.dis a; rw [hw] at this; omega
        have disA : ∀ a, A a ≠ 0 → f a = 0 := fun a q => by have := t.dis a; rw [hw] at this; omega
        have r' : Rp K cA (frzS f S H) H ca d0.fz v (fun _ => 0) := r.frz tr.ex (frz_at f S H) hnb
        refine ⟨v, frzS f S H, fun a => 0 + g a, hv, tr.weak fun a q => by rw [hw]; omega, ⟨?_, t.c.keep tr disA, frz_sub t.sub, fun a => ?_⟩, r', fun a => ?_, fun a q => ?_⟩
        · have e1 := eg.keep tr dis
          have e2 := e1.put hv r'
          exact e2
        · have := t.dis a; rw [hw] at this
          show 0 + g a + A a ≤ 1
          omega
        · have := t.dis a; rw [hw] at this
          show 0 + g a + A a + 0 ≤ 1
          omega
        · have q : 0 + g a + A a + 0 ≠ 0 := q
          refine .inl ?_
          rw [hw]; omega
      · cases h
  · cases h
theorem mMv_ok (t : Sta K cA σ S H env st ca ow A) {i : Nat} (h : mMv i env st = some (d, env', st')) : ∃ v ow' f, σ[i]? = some (some v) ∧ Post K cA σ S H ca ow A env' st' (rD K cA d v) S H ca ow' A f := by
  unfold mMv at h
  split at h
  · rename_i d0 he
    obtain ⟨v, f, g, hv, r, eg, hw⟩ := t.e.take he
    injection h with h
    injection h with h1 h2
    injection h2 with h2 h3
    subst h1; subst h2; subst h3
    refine ⟨v, g, f, hv, .refl, ⟨eg, t.c, t.sub, fun a => ?_⟩, r, fun a => ?_, fun a q => ?_⟩
    · have := t.dis a; rw [hw] at this; omega
    · have := t.dis a; rw [hw] at this; omega
    · left; rw [hw]; omega
  · cases h
end

section
variable {X : Cx} {cA : Str → Addr}
theorem pd_var (i : Nat) {x : Str} {pos : Pos} (hN : X.N[i]? = some x := by rfl) (hv : Vis X.env.scope x := by first | exact Or.inl rfl | exact Or.inr (Or.inl rfl) | exact Or.inr (Or.inr rfl)) (hd : (x == ("__debug__" : Str)) = false := by decide)
    (hcd : (x == ("__classdict__" : Str)) = false := by decide) : PD cA X (.Name x pos) (mVar i) :=
  pe_w (pe_var hN hv hd hcd) fun σ H Q ⟨S, ca, env, st, ow, A, d, env', st', t, hm, q⟩ => by
    obtain ⟨v, S', ow', hσ, p⟩ := mVar_ok t hm
    exact ⟨v, hσ, q v S' H ca ow' A _ p⟩
theorem pd_mv (i : Nat) {x : Str} {pos : Pos} (hN : X.N[i]? = some x := by rfl) (hv : Vis X.env.scope x := by first | exact Or.inl rfl | exact Or.inr (Or.inl rfl) | exact Or.inr (Or.inr rfl)) (hd : (x == ("__debug__" : Str)) = false := by decide)
    (hcd : (x == ("__classdict__" : Str)) = false := by decide) : PD cA X (.Name x pos) (mMv i) :=
  pe_w (pe_var hN hv hd hcd) fun σ H Q ⟨S, ca, env, st, ow, A, d, env', st', t, hm, q⟩ => by
    obtain ⟨v, ow', f, hσ, p⟩ := mMv_ok t hm
    exact ⟨v, hσ, q v S H ca ow' A f p⟩
/-! ### constants -/
def mC (d : D) : Mo D := fun env st => some (d, env, st)
theorem inj3 {α β γ : Type} {a a' : α} {b b' : β} {c c' : γ} (h : some (a, b, c) = some (a', b', c')) : a = a' ∧ b = b' ∧ c = c' := by
  injection h with h
  injection h with h1 h2
  injection h2 with h2 h3
  exact ⟨h1, h2, h3⟩
theorem pd_c {e : Expr} {d : D} {v : V} (h : PE X e (tC v)) (r : ∀ S H ca, Rp X.K cA S H ca d v (fun _ => 0)) : PD cA X e (mC d) :=
  pe_w h fun σ H Q ⟨S, ca, env, st, ow, A, d', env', st', t, hm, q⟩ => by
    obtain ⟨rfl, rfl, rfl⟩ := inj3 hm
    exact q v S H ca ow A (fun _ => 0) (t.self (r S H ca) fun _ => rfl)
theorem pd_int {i j pos} : PD cA X (.Constant (.int i) j pos) (mC (.int i)) := pd_c pe_int fun _ _ _ => .int i fun _ => rfl
theorem pd_bl {b j pos} : PD cA X (.Constant (.bool b) j pos) (mC (.bl b)) := pd_c pe_bl fun _ _ _ => .bl b fun _ => rfl
theorem pd_non {j pos} : PD cA X (.Constant .none j pos) (mC .non) := pd_c pe_non fun _ _ _ => .non fun _ => rfl
theorem pd_str {x j pos} : PD cA X (.Constant (.str x) j pos) (mC (.str x)) := pd_c pe_str fun _ _ _ => .str x fun _ => rfl
/-! ### several -/
def mNil : Mo (List D) := fun env st => some ([], env, st)
def mCons (a : Mo D) (r : Mo (List D)) : Mo (List D) := fun env st => match a env st with
  | some (d, e1, s1) => (match r e1 s1 with
    | some (ds, e2, s2) => some (d :: ds, e2, s2)
    | none => none)
  | none => none
theorem pds_nil : PDs cA X [] mNil := pa_w pa_nil fun σ H Q ⟨S, ca, env, st, ow, A, d', env', st', t, hm, q⟩ => by
  obtain ⟨rfl, rfl, rfl⟩ := inj3 hm
  exact q [] S H ca ow A (fun _ => 0) (t.self (.nil fun _ => rfl) fun _ => rfl)
theorem pds_cons {e : Expr} {es : List Expr} {a : Mo D} {r : Mo (List D)} (ha : PD cA X e a) (hr : PDs cA X es r) (hs : starEach (e :: es) X.env = (false, eval e X.env) :: starEach es X.env := by rfl) : PDs cA X (e :: es) (mCons a r) :=
  pa_w (pa_cons ha hr hs) fun σ H Q ⟨S, ca, env, st, ow, A, d', env', st', t, hm, q⟩ => by
    unfold mCons at hm
    split at hm
    · rename_i d e1 s1 h1
      split at hm
      · rename_i ds e2 s2 h2
        obtain ⟨rfl, rfl, rfl⟩ := inj3 hm
        refine ⟨S, ca, env, st, ow, A, d, e1, s1, t, h1, fun v S1 H1 ca1 ow1 A1 f1 p1 => ?_⟩
        refine ⟨S1, ca1, e1, s1, ow1, A1, ds, _, _, p1.st, h2, fun vs S2 H2 ca2 ow2 A2 f2 p2 => ?_⟩
        refine q (v :: vs) S2 H2 ca2 ow2 A2 _ ((p1.both kp_d p2).imp (g := fun a => f1 a + f2 a) (fun ⟨x, y, hh, r1, r2⟩ => .cons r1 r2 hh) fun _ => Nat.le_refl _)
      · cases hm
    · cases hm
def szOk (n : Nat) : Bool := decide (n ≤ 16777216)
theorem sz_of {n : Nat} (h : szOk n = true) : n ≤ sizeLine := by
  rw [sizeLine_eq]
  exact of_decide_eq_true h
theorem Rps.length {K : PySem.W.Frag} {S H : Hp} {ca : List Addr} : ∀ {ds : List D} {vs : List V} {f : Fp}, Rps K cA S H ca ds vs f → vs.length = ds.length
  | _, _, _, .nil _ => rfl
  | _, _, _, .cons _ t _ => by rw [List.length_cons, List.length_cons, t.length]
def mLst (m : Mo (List D)) : Mo D := fun env st => match m env st with
  | some (ds, e1, s1) => if szOk ds.length = true then some (.lst true ds, e1, s1) else none
  | none => none
def mTup (m : Mo (List D)) : Mo D := fun env st => match m env st with
  | some (ds, e1, s1) => if szOk ds.length = true then some (.tup ds, e1, s1) else none
  | none => none
/-- the footprint of a new object over others -/
def fpNew (p : Addr) (f : Fp) : Fp := fun a => (if a = p then 1 else 0) + f a
section
variable {K : PySem.W.Frag} {S H S' H' S1 H1 : Hp} {ca ca1 : List Addr} {ow A ow1 A1 f : Fp} {σ : L2.St} {env1 : DEnv} {st1 : Sto} {R : Hp → Hp → List Addr → Fp → Prop} {p : Addr} {o : HO}
theorem upd_gr (n : H p = none) : ∀ a u, H a = some u → upd H p o a = some u := fun a u h => by
  rw [upd_ne (ne_of_none h n)]; exact h
/-- a new list over values that were made -/
theorem Post.newL {ds : List D} {vs : List V} (q : Post K cA σ S H ca ow A env1 st1 (rDs K cA ds vs) S1 H1 ca1 ow1 A1 f) (n : H1 p = none) :
    Post K cA σ S H ca ow A env1 st1 (rD K cA (.lst true ds) (.ref p)) S1 (upd H1 p (.lst vs)) ca1 ow1 A1 (fpNew p f) := by
  have fp0 : f p = 0 := by
    cases Nat.eq_zero_or_pos (f p) with
    | inl z => exact z
    | inr z => exact absurd n (q.rp.own p (by omega)).1
  refine q.grow (upd_gr n) (.lstO upd_same ?_ (Rps.keep (L := fun _ => 0) (tr_grow (upd_gr n)) q.rp fun _ _ => rfl) fun _ => rfl) (fun a => ?_) fun a h => ?_
  · cases e : S1 p with
    | none => rfl
    | some u => rw [q.st.sub p u e] at n; cases n
  · have := q.le a
    unfold fpNew
    by_cases e : a = p
    · subst e; rw [if_pos rfl, fp0]; omega
    · rw [if_neg e]; omega
  · unfold fpNew at h
    by_cases e : a = p
    · subst e; exact .inr n
    · rw [if_neg e] at h; exact .inl (by omega)
theorem Post.newT {ds : List D} {vs : List V} (q : Post K cA σ S H ca ow A env1 st1 (rDs K cA ds vs) S1 H1 ca1 ow1 A1 f) (n : H1 p = none) :
    Post K cA σ S H ca ow A env1 st1 (rD K cA (.tup ds) (.ref p)) S1 (upd H1 p (.tup vs)) ca1 ow1 A1 f :=
  q.grow (upd_gr n) (.tup (.inl (.inl upd_same)) (Rps.keep (L := fun _ => 0) (tr_grow (upd_gr n)) q.rp fun _ _ => rfl)) (fun a => by have := q.le a; omega) fun a h => .inl h
end
theorem pd_lst {es : List Expr} {m : Mo (List D)} {pos : Pos} (h : PDs cA X es m) : PD cA X (.List es pos) (mLst m) :=
  pe_w (pe_lst h) fun σ H Q ⟨S, ca, env, st, ow, A, d', env', st', t, hm, q⟩ => by
    unfold mLst at hm
    split at hm
    · rename_i ds e1 s1 h1
      split at hm
      · rename_i hz
        obtain ⟨rfl, rfl, rfl⟩ := inj3 hm
        refine ⟨S, ca, env, st, ow, A, ds, _, _, t, h1, fun vs S1 H1 ca1 ow1 A1 f1 p1 => ⟨by rw [p1.rp.length]; exact sz_of hz, fun p np => ?_⟩⟩
        exact q _ _ _ _ _ _ _ (p1.newL np)
      · cases hm
    · cases hm
theorem pd_tup {es : List Expr} {m : Mo (List D)} {k : Nat} {pos : Pos} (h : PDs cA X es m) : PD cA X (.Tuple es k pos) (mTup m) :=
  pe_w (pe_tup h) fun σ H Q ⟨S, ca, env, st, ow, A, d', env', st', t, hm, q⟩ => by
    unfold mTup at hm
    split at hm
    · rename_i ds e1 s1 h1
      split at hm
      · rename_i hz
        obtain ⟨rfl, rfl, rfl⟩ := inj3 hm
        refine ⟨S, ca, env, st, ow, A, ds, _, _, t, h1, fun vs S1 H1 ca1 ow1 A1 f1 p1 => ⟨by rw [p1.rp.length]; exact sz_of hz, fun p np => ?_⟩⟩
        exact q _ _ _ _ _ _ _ (p1.newT np)
      · cases hm
    · cases hm

/-! ### operations on two values -/
def Grow (H H' : Hp) : Prop := ∀ a o, H a = some o → H' a = some o
theorem Grow.refl (H : Hp) : Grow H H := fun _ _ h => h
/-- what an operation on values is asked and gives: the result is owned by nobody yet -/
def Res (K : PySem.W.Frag) (cA : Str → Addr) (S H : Hp) (ca : List Addr) (d : D) (Q : VK) : Prop :=
  ∀ v H' fv, Grow H H' → Rp K cA S H' ca d v fv → (∀ a, fv a ≤ 1) → (∀ a, fv a ≠ 0 → H a = none) → Q v H'
def OpD (cA : Str → Addr) (X : Cx) (fn : Value → Value → Sem Value) (g : D → D → Option D) : Prop :=
  OpR X fn (fun x y H Q => ∃ S ca d1 d2 f1 f2 d, (∀ a o, S a = some o → H a = some o) ∧ Rp X.K cA S H ca d1 x f1 ∧ Rp X.K cA S H ca d2 y f2 ∧ g d1 d2 = some d ∧ Res X.K cA S H ca d Q)
/-- an operand: an expression, or a name that is looked at -/
inductive Od where
  | ex (m : Mo D) | nm (i : Nat)
def peek (i : Nat) (env : DEnv) : Option D := match env[i]? with
  | some (some d) => some d
  | _ => none
def D.isN' : D → Bool
  | .non => true
  | _ => false
/-- a cell's content -/
def deref (st : Sto) : D → D
  | .cel n => (match st[n]? with
    | some y => if y.isN' = true then .cel n else y
    | none => .cel n)
  | d => d
def look (i : Nat) (env : DEnv) (st : Sto) : Option D := (peek i env).map (deref st)
def tOd (cA : Str → Addr) (o : Od) (K : PySem.W.Frag) : TE := match o with
  | .ex m => tE cA m K
  | .nm i => tVar i
abbrev PO' (cA : Str → Addr) (X : Cx) (e : Expr) (o : Od) : Prop := PE X e (tOd cA o X.K)
def od2 (a b : Od) : Mo (D × D) := fun env st => match a, b with
  | .ex a, .ex b => (match a env st with
    | some (x, e1, s1) => (match b e1 s1 with
      | some (y, e2, s2) => some ((x, y), e2, s2)
      | none => none)
    | none => none)
  | .nm i, .ex b => (match peek i env with
    | some _ => (match b env st with
      | some (y, e1, s1) => (match look i e1 s1 with
        | some x => some ((x, y), e1, s1)
        | none => none)
      | none => none)
    | none => none)
  | .ex a, .nm j => (match a env st with
    | some (x, e1, s1) => (match look j e1 s1 with
      | some y => some ((x, y), e1, s1)
      | none => none)
    | none => none)
  | .nm i, .nm j => (match look i env st with
    | some x => (match look j env st with
      | some y => some ((x, y), env, st)
      | none => none)
    | none => none)
def mBin (g : D → D → Option D) (a b : Od) : Mo D := fun env st => match od2 a b env st with
  | some ((x, y), e2, s2) => (match g x y with
    | some z => some (z, e2, s2)
    | none => none)
  | none => none
theorem peek_of {i : Nat} {env : DEnv} {d : D} (h : peek i env = some d) : env[i]? = some (some d) := by
  unfold peek at h
  split at h
  · rename_i e; cases h; exact e
  · cases h
theorem Sta.peek {K : PySem.W.Frag} {σ : L2.St} {S H : Hp} {env : DEnv} {st : Sto} {ca : List Addr} {ow A : Fp} {i : Nat} {d : D} (t : Sta K cA σ S H env st ca ow A) (h : peek i env = some d) : ∃ v f, σ[i]? = some (some v) ∧ Rp K cA S H ca d v f ∧ ∀ a, f a ≤ ow a := by
  obtain ⟨v, f, g, h1, h2, _, h4⟩ := t.e.take (peek_of h)
  exact ⟨v, f, h1, h2, fun a => by rw [h4]; omega⟩
theorem CellsR.get {K : PySem.W.Frag} {S H : Hp} {ca : List Addr} : ∀ {st : Sto} {ps : List Addr} {A : Fp} {n : Nat} {d : D} {p : Addr}, CellsR K cA S H ca st ps A → st[n]? = some d → ps[n]? = some p → d.isN' = false → ∃ f, Rp K cA S H ca d (.ref p) f ∧ f p ≠ 0
  | _, _, _, n, d, p, .nil _, h, _, _ => by simp at h
  | _, _, _, 0, d, p, .gap u, h, h2, h3 => by
    simp only [List.getElem?_cons_zero, Option.some.injEq] at h
    subst h
    simp [D.isN'] at h3
  | _, _, _, n + 1, d, p, .gap u, h, h2, h3 => u.get (by simpa using h) (by simpa using h2) h3
  | _, _, _, 0, d, p, .cons r hp u hh, h, h2, _ => by
    simp only [List.getElem?_cons_zero, Option.some.injEq] at h h2
    subst h; subst h2
    exact ⟨_, r, hp⟩
  | _, _, _, n + 1, d, p, .cons r hp u hh, h, h2, h3 => u.get (by simpa using h) (by simpa using h2) h3
theorem Sta.deref {K : PySem.W.Frag} {σ : L2.St} {S H : Hp} {env : DEnv} {st : Sto} {ca : List Addr} {ow A f : Fp} {x : D} {v : V} (t : Sta K cA σ S H env st ca ow A) (h : Rp K cA S H ca x v f) : ∃ f', Rp K cA S H ca (Fw.deref st x) v f' := by
  cases x with
  | cel n =>
    show ∃ f', Rp K cA S H ca (match st[n]? with
      | some y => if y.isN' = true then .cel n else y
      | none => .cel n) v f'
    cases hy : st[n]? with
    | none => exact ⟨f, h⟩
    | some y =>
      cases z : y.isN' with
      | true => exact ⟨f, (by show Rp K cA S H ca (if y.isN' = true then .cel n else y) v f; rw [if_pos z]; exact h)⟩
      | false =>
        cases h with
        | cel hc h0 =>
          obtain ⟨f', r, _⟩ := t.c.get hy hc z
          refine ⟨f', ?_⟩
          show Rp K cA S H ca (if y.isN' = true then .cel n else y) _ f'
          rw [if_neg (by rw [z]; exact Bool.false_ne_true)]
          exact r
  | _ => exact ⟨f, h⟩
theorem Sta.look {K : PySem.W.Frag} {σ : L2.St} {S H : Hp} {env : DEnv} {st : Sto} {ca : List Addr} {ow A : Fp} {i : Nat} {d : D} (t : Sta K cA σ S H env st ca ow A) (h : look i env st = some d) : ∃ v f, σ[i]? = some (some v) ∧ Rp K cA S H ca d v f := by
  unfold Fw.look at h
  cases e : Fw.peek i env with
  | none => rw [e] at h; cases h
  | some x =>
    rw [e] at h
    cases h
    obtain ⟨v, f, h1, h2, _⟩ := t.peek e
    obtain ⟨f', r⟩ := t.deref h2
    exact ⟨v, f', h1, r⟩
theorem Post.res {K : PySem.W.Frag} {σ : L2.St} {S H S1 H1 : Hp} {env1 : DEnv} {st1 : Sto} {ca ca1 : List Addr} {ow A ow1 A1 f : Fp} {d : D} {Q : VK} {R : Hp → Hp → List Addr → Fp → Prop} (p : Post K cA σ S H ca ow A env1 st1 R S1 H1 ca1 ow1 A1 f)
    (q : ∀ b S' H' ca' ow' A' f, Post K cA σ S H ca ow A env1 st1 (rD K cA d b) S' H' ca' ow' A' f → Q b H') : Res K cA S1 H1 ca1 d Q :=
  fun v H' fv gr r l1 l2 => q v S1 H' ca1 ow1 A1 fv (p.grow gr r l1 fun a h => .inr (l2 a h))
theorem od2_w {a b : Od} {K : PySem.W.Frag} {σ : L2.St} {H : Hp} {R : V → V → Hp → Prop} {S : Hp} {ca : List Addr} {env env' : DEnv} {st st' : Sto} {ow A : Fp} {x y : D} (t : Sta K cA σ S H env st ca ow A) (hm : od2 a b env st = some ((x, y), env', st'))
    (hr : ∀ u v S2 H2 ca2 ow2 A2 f f1 f2, Post K cA σ S H ca ow A env' st' r0 S2 H2 ca2 ow2 A2 f → Rp K cA S2 H2 ca2 x u f1 → Rp K cA S2 H2 ca2 y v f2 → R u v H2) : tOd cA a K σ H fun x H1 => tOd cA b K σ H1 fun y H2 => R x y H2 := by
  unfold od2 at hm
  cases a with
  | ex a =>
    cases b with
    | ex b =>
      dsimp only at hm
      split at hm
      · rename_i x e1 s1 h1
        split at hm
        · rename_i y e2 s2 h2
          obtain ⟨h3, rfl, rfl⟩ := inj3 hm
          cases h3
          refine ⟨S, ca, env, st, ow, A, x, e1, s1, t, h1, fun v1 S1 H1 ca1 ow1 A1 f1 p1 => ?_⟩
          refine ⟨S1, ca1, e1, s1, ow1, A1, y, _, _, p1.st, h2, fun v2 S2 H2 ca2 ow2 A2 f2 p2 => ?_⟩
          have p := p1.both kp_d p2
          obtain ⟨g1, g2, hg, r1, r2⟩ := p.rp
          exact hr _ _ _ _ _ _ _ (fun _ => 0) _ _ (p.imp (fun _ _ => rfl) fun _ => Nat.zero_le _) r1 r2
        · cases hm
      · cases hm
    | nm j =>
      dsimp only at hm
      split at hm
      · rename_i x e1 s1 h1
        split at hm
        · rename_i y h2
          obtain ⟨h3, rfl, rfl⟩ := inj3 hm
          cases h3
          refine ⟨S, ca, env, st, ow, A, x, _, _, t, h1, fun v1 S1 H1 ca1 ow1 A1 f1 p1 => ?_⟩
          obtain ⟨v, f, hv, r⟩ := p1.st.look h2
          exact ⟨v, hv, hr _ _ _ _ _ _ _ (fun _ => 0) _ _ (p1.imp (fun _ _ => rfl) fun _ => Nat.zero_le _) p1.rp r⟩
        · cases hm
      · cases hm
  | nm i =>
    cases b with
    | ex b =>
      dsimp only at hm
      split at hm
      · rename_i x0 h0
        obtain ⟨v, _, hv, _, _⟩ := t.peek h0
        split at hm
        · rename_i y e1 s1 h1
          split at hm
          · rename_i x h2
            obtain ⟨h3, rfl, rfl⟩ := inj3 hm
            cases h3
            refine ⟨v, hv, S, ca, env, st, ow, A, y, _, _, t, h1, fun v2 S2 H2 ca2 ow2 A2 f2 p2 => ?_⟩
            obtain ⟨v', f, hv', r⟩ := p2.st.look h2
            rw [hv] at hv'
            cases hv'
            exact hr _ _ _ _ _ _ _ (fun _ => 0) _ _ (p2.imp (fun _ _ => rfl) fun _ => Nat.zero_le _) r p2.rp
          · cases hm
        · cases hm
      · cases hm
    | nm j =>
      dsimp only at hm
      split at hm
      · rename_i x h1
        split at hm
        · rename_i y h2
          obtain ⟨h3, rfl, rfl⟩ := inj3 hm
          cases h3
          obtain ⟨v1, f1, hv1, r1⟩ := t.look h1
          obtain ⟨v2, f2, hv2, r2⟩ := t.look h2
          exact ⟨v1, hv1, v2, hv2, hr _ _ _ _ _ _ _ (fun _ => 0) _ _ (t.self (fun _ => rfl) fun _ => rfl) r1 r2⟩
        · cases hm
      · cases hm
theorem bin_w {a b : Od} {g : D → D → Option D} {K : PySem.W.Frag} {σ : L2.St} {H : Hp} {Q : VK} {r : R2} (h : tE cA (mBin g a b) K σ H Q)
    (hr : ∀ x y H Q, (∃ S ca d1 d2 f1 f2 d, (∀ a o, S a = some o → H a = some o) ∧ Rp K cA S H ca d1 x f1 ∧ Rp K cA S H ca d2 y f2 ∧ g d1 d2 = some d ∧ Res K cA S H ca d Q) → r x y H Q) : tOp r (tOd cA a K) (tOd cA b K) σ H Q := by
  obtain ⟨S, ca, env, st, ow, A, d', env', st', t, hm, q⟩ := h
  unfold mBin at hm
  split at hm
  · rename_i x y e2 s2 h2
    split at hm
    · rename_i z hz
      obtain ⟨rfl, rfl, rfl⟩ := inj3 hm
      exact od2_w (R := fun x y H => r x y H Q) t h2 fun u v S2 H2 ca2 ow2 A2 f f1 f2 p r1 r2 => hr _ _ _ _ ⟨S2, ca2, x, y, f1, f2, z, p.st.sub, r1, r2, hz, p.res q⟩
    · cases hm
  · cases hm
theorem pd_op {op : Operator} {g : D → D → Option D} {a b : Od} {ea eb : Expr} {pos : Pos} (ho : OpD cA X (binaryOp op) g) (ha : PO' cA X ea a) (hb : PO' cA X eb b) : PD cA X (.BinOp ea op eb pos) (mBin g a b) :=
  pe_w (pe_op ho ha hb) fun σ H Q h => bin_w h fun _ _ _ _ z => z
theorem pd_cmp {op : CmpOp} {g : D → D → Option D} {a b : Od} {ea eb : Expr} {pos : Pos} (ho : OpD cA X (compareOp op) g) (ha : PO' cA X ea a) (hb : PO' cA X eb b) (hm : behindInMarks op eb = false) : PD cA X (.Compare ea [op] [eb] pos) (mBin g a b) :=
  pe_w (pe_cmpR ho ha hb hm) fun σ H Q h => bin_w h fun _ _ _ _ z => z
theorem pb_cmp {op : CmpOp} {g : D → D → Option D} {a b : Od} {ea eb : Expr} {pos : Pos} (ho : OpD cA X (compareOp op) g) (ha : PO' cA X ea a) (hb : PO' cA X eb b) (hm : behindInMarks op eb = false) : PB cA X (.Compare ea [op] [eb] pos) (mBin g a b) :=
  pt_w (pt_cmpR ho ha hb hm) fun σ H Q h => bin_w h fun _ _ _ _ z => z
theorem po_nm (i : Nat) {x : Str} {pos : Pos} (hN : X.N[i]? = some x := by rfl) (hv : Vis X.env.scope x := by first | exact Or.inl rfl | exact Or.inr (Or.inl rfl) | exact Or.inr (Or.inr rfl)) (hd : (x == ("__debug__" : Str)) = false := by decide)
    (hcd : (x == ("__classdict__" : Str)) = false := by decide) : PO' cA X (.Name x pos) (.nm i) := pe_var hN hv hd hcd
theorem po_ex {e : Expr} {m : Mo D} (h : PD cA X e m) : PO' cA X e (.ex m) := h
end
end Fw

set_option Elab.async false
set_option linter.all false
set_option maxRecDepth 100000
namespace Fw
open PySem PySem.Spec PyProof.Rows L2

section
variable {K : PySem.W.Frag} {cA : Str → Addr} {S H : Hp} {ca : List Addr} {f g : Fp} {v : V} {ds : List D} {vs : List V}
/-! ### what a value's mark says of its stand -/
theorem Rp.i {i : Int} (r : Rp K cA S H ca (.int i) v f) : v = .int i ∧ ∀ a, f a = 0 := by cases r with | int _ h => exact ⟨rfl, h⟩
theorem Rp.b {b : Bool} (r : Rp K cA S H ca (.bl b) v f) : v = .bl b ∧ ∀ a, f a = 0 := by cases r with | bl _ h => exact ⟨rfl, h⟩
theorem Rp.s {x : Str} (r : Rp K cA S H ca (.str x) v f) : v = .str x ∧ ∀ a, f a = 0 := by cases r with | str _ h => exact ⟨rfl, h⟩
theorem Rp.n (r : Rp K cA S H ca .non v f) : v = .non ∧ ∀ a, f a = 0 := by cases r with | non h => exact ⟨rfl, h⟩
theorem Rp.t (r : Rp K cA S H ca (.tup ds) v f) : ∃ p vs, v = .ref p ∧ SqT K H p vs ∧ Rps K cA S H ca ds vs f := by cases r with | tup h r => exact ⟨_, _, rfl, h, r⟩
/-- a list, owned or not: it stands in the heap; its items' footprint g; p's own mark -/
theorem Rp.l {o : Bool} (s : ∀ a u, S a = some u → H a = some u) (r : Rp K cA S H ca (.lst o ds) v f) : ∃ p vs g, v = .ref p ∧ H p = some (.lst vs) ∧ Rps K cA S H ca ds vs g ∧ (∀ a, g a ≤ f a) := by
  cases r with
  | lstO h hs r hf => exact ⟨_, _, _, rfl, h, r, fun a => by rw [hf]; omega⟩
  | lstS h r hg hf => exact ⟨_, _, _, rfl, s _ _ h, r, fun a => by rw [hg]; omega⟩
theorem Rps.append : ∀ {ds es : List D} {vs ws : List V} {f g : Fp}, Rps K cA S H ca ds vs f → Rps K cA S H ca es ws g → Rps K cA S H ca (ds ++ es) (vs ++ ws) (fun a => f a + g a)
  | _, _, _, _, _, g, .nil hf, r => by
    rename_i f
    have e : (fun a => f a + g a) = g := by funext a; rw [hf]; omega
    rw [e]; exact r
  | _, _, _, _, _, _, .cons r t hh, u => .cons r (t.append u) fun a => by rw [hh]; omega
theorem Rps.get : ∀ {ds : List D} {vs : List V} {f : Fp} {i : Nat} {d : D}, Rps K cA S H ca ds vs f → ds[i]? = some d → ∃ v g, vs[i]? = some v ∧ Rp K cA S H ca d v g ∧ ∀ a, g a ≤ f a
  | _, _, _, i, d, .nil _, h => by simp at h
  | _, _, _, 0, d, .cons r t hh, h => by
    simp only [List.getElem?_cons_zero, Option.some.injEq] at h
    subst h
    exact ⟨_, _, rfl, r, fun a => by rw [hh]; omega⟩
  | _, _, _, i + 1, d, .cons r t hh, h => by
    obtain ⟨v, g, h1, h2, h3⟩ := t.get (i := i) (by simpa using h)
    exact ⟨v, g, by simpa using h1, h2, fun a => by have := h3 a; rw [hh]; omega⟩
theorem Rps.take : ∀ {ds : List D} {vs : List V} {f : Fp} (n : Nat), Rps K cA S H ca ds vs f → ∃ g, Rps K cA S H ca (ds.take n) (vs.take n) g ∧ ∀ a, g a ≤ f a
  | _, _, f, 0, _ => ⟨fun _ => 0, .nil fun _ => rfl, fun _ => Nat.zero_le _⟩
  | _, _, f, n + 1, .nil hf => ⟨f, .nil hf, fun _ => Nat.le_refl _⟩
  | _, _, _, n + 1, .cons (f := f) r t hh => by
    obtain ⟨g, h1, h2⟩ := t.take n
    exact ⟨fun a => f a + g a, .cons r h1 fun _ => rfl, fun a => by have := h2 a; show f a + g a ≤ _; rw [hh]; omega⟩
theorem Rps.drop : ∀ {ds : List D} {vs : List V} {f : Fp} (n : Nat), Rps K cA S H ca ds vs f → ∃ g, Rps K cA S H ca (ds.drop n) (vs.drop n) g ∧ ∀ a, g a ≤ f a
  | _, _, f, 0, r => ⟨f, r, fun _ => Nat.le_refl _⟩
  | _, _, f, n + 1, .nil hf => ⟨f, .nil hf, fun _ => Nat.le_refl _⟩
  | _, _, _, n + 1, .cons (f := f) r t hh => by
    obtain ⟨g, h1, h2⟩ := t.drop n
    exact ⟨g, h1, fun a => by have := h2 a; rw [hh]; omega⟩
theorem Rps.bls : ∀ {ns : List Bool} {vs : List V} {f : Fp}, Rps K cA S H ca (ns.map D.bl) vs f → vs = ns.map V.bl
  | [], _, _, .nil _ => rfl
  | n :: ns, _, _, .cons r t _ => by rw [(Rp.b r).1, List.map_cons, t.bls]
theorem Rps.strs : ∀ {ns : List Str} {vs : List V} {f : Fp}, Rps K cA S H ca (ns.map D.str) vs f → vs = ns.map V.str
  | [], _, _, .nil _ => rfl
  | n :: ns, _, _, .cons r t _ => by rw [(Rp.s r).1, List.map_cons, t.strs]
theorem rp_int0 {i : Int} : Rp K cA S H ca (.int i) (.int i) (fun _ => 0) := .int i fun _ => rfl
theorem rp_bl0 {b : Bool} : Rp K cA S H ca (.bl b) (.bl b) (fun _ => 0) := .bl b fun _ => rfl
theorem rp_str0 {x : Str} : Rp K cA S H ca (.str x) (.str x) (fun _ => 0) := .str x fun _ => rfl
end

/-! ### data -/
mutual
def D.pd : D → Option PyData
  | .non => some .none
  | .bl b => some (.bool b)
  | .int i => some (.int i)
  | .str x => some (.str x)
  | .lst _ xs => (D.pds xs).map .list
  | .tup xs => (D.pds xs).map .tuple
  | _ => none
def D.pds : List D → Option (List PyData)
  | [] => some []
  | d :: r => match d.pd, D.pds r with
    | some x, some xs => some (x :: xs)
    | _, _ => none
end
section
variable {K : PySem.W.Frag} {cA : Str → Addr} {S H : Hp} {ca : List Addr}
mutual
theorem Rp.dp (s : ∀ a u, S a = some u → H a = some u) : ∀ {d : D} {v : V} {f : Fp} {e : PyData}, Rp K cA S H ca d v f → d.pd = some e → Dp K H v e
  | _, _, _, e, .unk hf, h => by simp [D.pd] at h
  | _, _, _, e, .non hf, h => by simp only [D.pd, Option.some.injEq] at h; subst h; exact .non
  | _, _, _, e, .bl b hf, h => by simp only [D.pd, Option.some.injEq] at h; subst h; exact .bl b
  | _, _, _, e, .int b hf, h => by simp only [D.pd, Option.some.injEq] at h; subst h; exact .int b
  | _, _, _, e, .str b hf, h => by simp only [D.pd, Option.some.injEq] at h; subst h; exact .str b
  | _, _, _, e, .lstO (ds := ds) h1 hs r hf, h => by
    simp only [D.pd] at h
    cases q : D.pds ds with
    | none => rw [q] at h; cases h
    | some es =>
      rw [q] at h
      simp only [Option.map_some, Option.some.injEq] at h
      subst h
      exact .lst (SqL.of h1) (Rps.dp s r q)
  | _, _, _, e, .lstS (ds := ds) h1 r hg hf, h => by
    simp only [D.pd] at h
    cases q : D.pds ds with
    | none => rw [q] at h; cases h
    | some es =>
      rw [q] at h
      simp only [Option.map_some, Option.some.injEq] at h
      subst h
      exact .lst (SqL.of (s _ _ h1)) (Rps.dp s r q)
  | _, _, _, e, .tup (ds := ds) h1 r, h => by
    simp only [D.pd] at h
    cases q : D.pds ds with
    | none => rw [q] at h; cases h
    | some es =>
      rw [q] at h
      simp only [Option.map_some, Option.some.injEq] at h
      subst h
      exact .tup h1 (Rps.dp s r q)
  | _, _, _, e, .dicO _ _ _ _, h => by simp [D.pd] at h
  | _, _, _, e, .dicS _ _ _ _, h => by simp [D.pd] at h
  | _, _, _, e, .objO _ _ _ _, h => by simp [D.pd] at h
  | _, _, _, e, .objS _ _ _ _, h => by simp [D.pd] at h
  | _, _, _, e, .cel _ _, h => by simp [D.pd] at h
  | _, _, _, e, .scr _ _, h => by simp [D.pd] at h
theorem Rps.dp (s : ∀ a u, S a = some u → H a = some u) : ∀ {ds : List D} {vs : List V} {f : Fp} {es : List PyData}, Rps K cA S H ca ds vs f → D.pds ds = some es → DpAll K H vs es
  | _, _, _, es, .nil hf, h => by simp only [D.pds, Option.some.injEq] at h; subst h; exact .nil
  | _, _, _, es, .cons (d := d) (ds := ds) r t hh, h => by
    simp only [D.pds] at h
    cases q : d.pd with
    | none => rw [q] at h; cases h
    | some x =>
      rw [q] at h
      cases w : D.pds ds with
      | none => rw [w] at h; cases h
      | some xs =>
        rw [w] at h
        simp only [Option.some.injEq] at h
        subst h
        exact .cons (Rp.dp s r q) (Rps.dp s t w)
end
end

section
variable {K : PySem.W.Frag} {cA : Str → Addr} {S H : Hp} {ca : List Addr} {f g : Fp} {v : V} {ds : List D} {vs : List V}
/-- a new list of values that are there -/
theorem mk_lst {p : Addr} (sub : ∀ a u, S a = some u → H a = some u) (np : H p = none) (q : Rps K cA S H ca ds vs g) (h1 : ∀ a, g a ≤ 1) :
    Grow H (upd H p (.lst vs)) ∧ Rp K cA S (upd H p (.lst vs)) ca (.lst true ds) (.ref p) (fpNew p g) ∧ (∀ a, fpNew p g a ≤ 1) ∧ ∀ a, fpNew p g a ≠ 0 → g a ≠ 0 ∨ H a = none := by
  have gr : Grow H (upd H p (.lst vs)) := upd_gr np
  have fp0 : g p = 0 := by
    cases Nat.eq_zero_or_pos (g p) with
    | inl z => exact z
    | inr z => exact absurd np (q.own p (by omega)).1
  refine ⟨gr, .lstO upd_same ?_ (Rps.keep (L := fun _ => 0) (tr_grow gr) q fun _ _ => rfl) fun _ => rfl, fun a => ?_, fun a h => ?_⟩
  · cases e : S p with
    | none => rfl
    | some u => rw [sub p u e] at np; cases np
  · have := h1 a
    unfold fpNew
    by_cases e : a = p
    · subst e; rw [if_pos rfl, fp0]; omega
    · rw [if_neg e]; omega
  · unfold fpNew at h
    by_cases e : a = p
    · subst e; exact .inr np
    · rw [if_neg e] at h; exact .inl (by omega)
theorem Rps.f0 (r : Rps K cA S H ca ds vs f) (h : ∀ a, f a = 0) : Rps K cA S H ca ds vs (fun _ => 0) := by
  have e : f = fun _ => 0 := funext h
  rw [← e]; exact r
variable {d : D} {Q : VK}
/-- a result that is no new object -/
theorem Res.at (k : Res K cA S H ca d Q) (r : Rp K cA S H ca d v (fun _ => 0)) : Q v H := k v H _ (Grow.refl H) r (fun _ => Nat.zero_le _) fun _ h => absurd rfl h
/-- a new list of values that nobody owns -/
theorem Res.lst {p : Addr} (k : Res K cA S H ca (.lst true ds) Q) (sub : ∀ a u, S a = some u → H a = some u) (np : H p = none) (q : Rps K cA S H ca ds vs (fun _ => 0)) : Q (.ref p) (upd H p (.lst vs)) := by
  obtain ⟨gr, rr, l3, l4⟩ := mk_lst sub np q fun _ => Nat.zero_le _
  exact k _ _ _ gr rr l3 fun a h => (l4 a h).elim (fun w => absurd rfl w) id
theorem Res.tup {p : Addr} (k : Res K cA S H ca (.tup ds) Q) (np : H p = none) (q : Rps K cA S H ca ds vs (fun _ => 0)) : Q (.ref p) (upd H p (.tup vs)) := by
  have gr : Grow H (upd H p (.tup vs)) := upd_gr np
  exact k _ _ (fun _ => 0) gr (.tup (.inl (.inl upd_same)) (Rps.keep (L := fun _ => 0) (tr_grow gr) q fun _ _ => rfl)) (fun _ => Nat.zero_le _) fun _ h => absurd rfl h
end
section
variable {X : Cx} {cA : Str → Addr}
/-! ### operators -/
def addD : D → D → Option D
  | .int i, .int j => some (.int (i + j))
  | .str x, .str y => if szOk (x.length + y.length) = true then some (.str (x ++ y)) else none
  | .lst _ xs, .lst _ ys => if szOk (xs.length + ys.length) = true ∧ D.frs xs = true ∧ D.frs ys = true then some (.lst true (xs ++ ys)) else none
  | _, _ => none
theorem od_add : OpD cA X (binaryOp .Add) addD := by
  rintro pins s σ H x y v u Q I rx ry ⟨S, ca, d1, d2, f1, f2, d, sub, r1, r2, hg, k⟩
  cases d1 with
  | int i =>
    cases d2 with
    | int j =>
      obtain ⟨rfl, _⟩ := r1.i
      obtain ⟨rfl, _⟩ := r2.i
      simp only [addD, Option.some.injEq] at hg
      subst hg
      exact op_add pins s σ H _ _ v u Q I rx ry ⟨i, j, rfl, rfl, k.at rp_int0⟩
    | _ => simp [addD] at hg
  | str i =>
    cases d2 with
    | str j =>
      obtain ⟨rfl, _⟩ := r1.s
      obtain ⟨rfl, _⟩ := r2.s
      simp only [addD] at hg
      split at hg
      · rename_i hz
        simp only [Option.some.injEq] at hg
        subst hg
        exact op_add_str pins s σ H _ _ v u Q I rx ry ⟨i, j, rfl, rfl, sz_of hz, k.at rp_str0⟩
      · cases hg
    | _ => simp [addD] at hg
  | lst o xs =>
    cases d2 with
    | lst o' ys =>
      obtain ⟨p1, vs1, g1, rfl, h1, q1, l1⟩ := r1.l sub
      obtain ⟨p2, vs2, g2, rfl, h2, q2, l2⟩ := r2.l sub
      simp only [addD] at hg
      split at hg
      · rename_i hz
        simp only [Option.some.injEq] at hg
        subst hg
        refine op_cat pins s σ H _ _ v u Q I rx ry ⟨p1, p2, vs1, vs2, rfl, rfl, h1, h2, by rw [q1.length, q2.length]; exact sz_of hz.1, fun p np => ?_⟩
        exact k.lst sub np ((q1.append q2).f0 fun a => by show g1 a + g2 a = 0; rw [q1.fr0 hz.2.1 a, q2.fr0 hz.2.2 a])
      · cases hg
    | _ => simp [addD] at hg
  | _ => cases d2 <;> simp [addD] at hg
/-- ints alone -/
theorem od_ints {fn : Value → Value → Sem Value} {C : Int → Int → Prop} [∀ i j, Decidable (C i j)] {h : Int → Int → Int} (ho : OpR X fn (rI C fun i j => .int (h i j))) :
    OpD cA X fn (fun x y => match x, y with | .int i, .int j => if C i j then some (.int (h i j)) else none | _, _ => none) := by
  rintro pins s σ H x y v u Q I rx ry ⟨S, ca, d1, d2, f1, f2, d, sub, r1, r2, hg, k⟩
  dsimp only at hg
  split at hg
  · rename_i i j
    obtain ⟨rfl, _⟩ := r1.i
    obtain ⟨rfl, _⟩ := r2.i
    split at hg
    · rename_i hc
      simp only [Option.some.injEq] at hg
      subst hg
      exact ho pins s σ H _ _ v u Q I rx ry ⟨i, j, rfl, rfl, hc, k.at rp_int0⟩
    · cases hg
  · cases hg
def subD : D → D → Option D | .int i, .int j => some (.int (i - j)) | _, _ => none
theorem od_sub : OpD cA X (binaryOp .Sub) subD := by
  rintro pins s σ H x y v u Q I rx ry ⟨S, ca, d1, d2, f1, f2, d, sub, r1, r2, hg, k⟩
  unfold subD at hg
  split at hg
  · rename_i i j
    obtain ⟨rfl, _⟩ := r1.i
    obtain ⟨rfl, _⟩ := r2.i
    simp only [Option.some.injEq] at hg
    subst hg
    exact op_sub pins s σ H _ _ v u Q I rx ry ⟨i, j, rfl, rfl, k.at rp_int0⟩
  · cases hg
def modD : D → D → Option D | .int i, .int j => if 0 < j then some (.int (i % j)) else none | _, _ => none
theorem od_mod : OpD cA X (binaryOp .Mod) modD := fun pins s σ H x y v u Q I rx ry ⟨S, ca, d1, d2, f1, f2, d, sub, r1, r2, hg, k⟩ =>
  od_ints (C := fun _ j => 0 < j) op_mod pins s σ H x y v u Q I rx ry ⟨S, ca, d1, d2, f1, f2, d, sub, r1, r2, hg, k⟩
def fdivD : D → D → Option D | .int i, .int j => if 0 < j ∧ j < 1073741824 then some (.int (i / j)) else none | _, _ => none
theorem od_fdiv : OpD cA X (binaryOp .FloorDiv) fdivD := fun pins s σ H x y v u Q I rx ry ⟨S, ca, d1, d2, f1, f2, d, sub, r1, r2, hg, k⟩ =>
  od_ints (C := fun _ j => 0 < j ∧ j < 1073741824) op_fdiv pins s σ H x y v u Q I rx ry ⟨S, ca, d1, d2, f1, f2, d, sub, r1, r2, hg, k⟩
/-- text by number; list by number -/
def mulOkB (i j : Int) : Bool := decide ((-(2 ^ 64) < i ∧ i < 2 ^ 64) ∨ (-(2 ^ 64) < j ∧ j < 2 ^ 64))
/-! ### comparisons -/
def eqD : D → D → Option Bool := fun x y => match x.pd, y.pd with
  | some a, some b => if SeqAt.shaped a = true ∧ SeqAt.shaped b = true then some (PyData.eqv a b) else none
  | _, _ => none
theorem eqD_of {x y : D} {b : Bool} (h : eqD x y = some b) : ∃ d e, x.pd = some d ∧ y.pd = some e ∧ SeqAt.shaped d = true ∧ SeqAt.shaped e = true ∧ b = PyData.eqv d e := by
  unfold eqD at h
  split at h
  · rename_i d e h1 h2
    split at h
    · rename_i hs
      simp only [Option.some.injEq] at h
      exact ⟨d, e, h1, h2, hs.1, hs.2, h.symm⟩
    · cases h
  · cases h
theorem od_eq (hu : X.A.units + 64 < cLine) : OpD cA X (compareOp .Eq) (fun x y => (eqD x y).map .bl) := by
  rintro pins s σ H x y v u Q I rx ry ⟨S, ca, d1, d2, f1, f2, d, sub, r1, r2, hg, k⟩
  dsimp only at hg
  cases e : eqD d1 d2 with
  | none => rw [e] at hg; cases hg
  | some b =>
    rw [e] at hg
    simp only [Option.map_some, Option.some.injEq] at hg
    subst hg
    obtain ⟨a1, a2, p1, p2, s1, s2, rfl⟩ := eqD_of e
    exact op_eqD hu pins s σ H _ _ v u Q I rx ry ⟨a1, a2, r1.dp sub p1, r2.dp sub p2, s1, s2, k.at rp_bl0⟩
theorem od_ne (hu : X.A.units + 64 < cLine) : OpD cA X (compareOp .NotEq) (fun x y => (eqD x y).map fun b => .bl (!b)) := by
  rintro pins s σ H x y v u Q I rx ry ⟨S, ca, d1, d2, f1, f2, d, sub, r1, r2, hg, k⟩
  dsimp only at hg
  cases e : eqD d1 d2 with
  | none => rw [e] at hg; cases hg
  | some b =>
    rw [e] at hg
    simp only [Option.map_some, Option.some.injEq] at hg
    subst hg
    obtain ⟨a1, a2, p1, p2, s1, s2, rfl⟩ := eqD_of e
    exact op_neD hu pins s σ H _ _ v u Q I rx ry ⟨a1, a2, r1.dp sub p1, r2.dp sub p2, s1, s2, k.at rp_bl0⟩
/-- order of numbers, of texts -/
def ltD : D → D → Option D
  | .int i, .int j => some (.bl (decide (i < j)))
  | .str i, .str j => some (.bl (decide (i.cps.toList < j.cps.toList)))
  | _, _ => none
def leD : D → D → Option D
  | .int i, .int j => some (.bl (decide (i ≤ j)))
  | .str i, .str j => some (.bl (!decide (j.cps.toList < i.cps.toList)))
  | _, _ => none
def gtD : D → D → Option D
  | .int i, .int j => some (.bl (decide (j < i)))
  | _, _ => none
def geD : D → D → Option D
  | .int i, .int j => some (.bl (decide (j ≤ i)))
  | _, _ => none
theorem od_lt : OpD cA X (compareOp .Lt) ltD := by
  rintro pins s σ H x y v u Q I rx ry ⟨S, ca, d1, d2, f1, f2, d, sub, r1, r2, hg, k⟩
  unfold ltD at hg
  split at hg
  · rename_i i j
    obtain ⟨rfl, _⟩ := r1.i
    obtain ⟨rfl, _⟩ := r2.i
    cases hg
    exact op_lt pins s σ H _ _ v u Q I rx ry ⟨i, j, rfl, rfl, k.at rp_bl0⟩
  · rename_i i j
    obtain ⟨rfl, _⟩ := r1.s
    obtain ⟨rfl, _⟩ := r2.s
    cases hg
    exact op_lt_str pins s σ H _ _ v u Q I rx ry ⟨i, j, rfl, rfl, k.at rp_bl0⟩
  · cases hg
theorem od_le : OpD cA X (compareOp .LtE) leD := by
  rintro pins s σ H x y v u Q I rx ry ⟨S, ca, d1, d2, f1, f2, d, sub, r1, r2, hg, k⟩
  unfold leD at hg
  split at hg
  · rename_i i j
    obtain ⟨rfl, _⟩ := r1.i
    obtain ⟨rfl, _⟩ := r2.i
    cases hg
    exact op_le pins s σ H _ _ v u Q I rx ry ⟨i, j, rfl, rfl, k.at rp_bl0⟩
  · rename_i i j
    obtain ⟨rfl, _⟩ := r1.s
    obtain ⟨rfl, _⟩ := r2.s
    cases hg
    exact op_le_str pins s σ H _ _ v u Q I rx ry ⟨i, j, rfl, rfl, k.at rp_bl0⟩
  · cases hg
theorem od_gt : OpD cA X (compareOp .Gt) gtD := by
  rintro pins s σ H x y v u Q I rx ry ⟨S, ca, d1, d2, f1, f2, d, sub, r1, r2, hg, k⟩
  unfold gtD at hg
  split at hg
  · rename_i i j
    obtain ⟨rfl, _⟩ := r1.i
    obtain ⟨rfl, _⟩ := r2.i
    cases hg
    exact op_gt pins s σ H _ _ v u Q I rx ry ⟨i, j, rfl, rfl, k.at rp_bl0⟩
  · cases hg
theorem od_ge : OpD cA X (compareOp .GtE) geD := by
  rintro pins s σ H x y v u Q I rx ry ⟨S, ca, d1, d2, f1, f2, d, sub, r1, r2, hg, k⟩
  unfold geD at hg
  split at hg
  · rename_i i j
    obtain ⟨rfl, _⟩ := r1.i
    obtain ⟨rfl, _⟩ := r2.i
    cases hg
    exact op_ge pins s σ H _ _ v u Q I rx ry ⟨i, j, rfl, rfl, k.at rp_bl0⟩
  · cases hg
/-- is None -/
def D.isN : D → Bool
  | .non => true
  | _ => false
def D.isU : D → Bool
  | .unk => true
  | _ => false
def isND (x y : D) : Option D := match y with
  | .non => if x.isU = true then none else some (.bl x.isN)
  | _ => none
theorem rp_non {K : PySem.W.Frag} {S H : Hp} {ca : List Addr} {d : D} {v : V} {f : Fp} (r : Rp K cA S H ca d v f) (h : ¬ d.isU = true) : decide (v = .non) = d.isN := by
  cases r <;> first | (exact absurd rfl h) | simp [D.isN]
theorem od_isN : OpD cA X (compareOp .Is) isND := by
  rintro pins s σ H x y v u Q I rx ry ⟨S, ca, d1, d2, f1, f2, d, sub, r1, r2, hg, k⟩
  unfold isND at hg
  split at hg
  · split at hg
    · cases hg
    · obtain ⟨rfl, _⟩ := r2.n
      cases hg
      refine op_isN pins s σ H _ _ v u Q I rx ry ⟨rfl, ?_⟩
      rw [rp_non r1 (by assumption)]
      exact k.at rp_bl0
  · cases hg
def notND (x y : D) : Option D := match y with
  | .non => if x.isU = true then none else some (.bl (!x.isN))
  | _ => none
theorem od_notN : OpD cA X (compareOp .IsNot) notND := by
  rintro pins s σ H x y v u Q I rx ry ⟨S, ca, d1, d2, f1, f2, d, sub, r1, r2, hg, k⟩
  unfold notND at hg
  split at hg
  · split at hg
    · cases hg
    · obtain ⟨rfl, _⟩ := r2.n
      cases hg
      refine op_notN pins s σ H _ _ v u Q I rx ry ⟨rfl, ?_⟩
      rw [rp_non r1 (by assumption)]
      exact k.at rp_bl0
  · cases hg
end
end Fw

set_option Elab.async false
set_option linter.all false
set_option maxRecDepth 100000
namespace Fw
open PySem PySem.Spec PyProof.Rows L2

section
variable {X : Cx} {cA : Str → Addr}
/-! ### truth -/
def D.tru : D → Option Bool
  | .non => some false
  | .bl b => some b
  | .int i => some (i != 0)
  | .str x => if szOk x.length = true then some ((x.length : Int) != 0) else none
  | .lst _ xs => some (!xs.isEmpty)
  | .tup xs => some (!xs.isEmpty)
  | .dic _ ks => some (!ks.isEmpty)
  | _ => none
theorem Rps.empty {K : PySem.W.Frag} {S H : Hp} {ca : List Addr} {ds : List D} {vs : List V} {f : Fp} (r : Rps K cA S H ca ds vs f) : (!ds.isEmpty) = !vs.isEmpty := by
  cases r <;> rfl
theorem Rks.empty {K : PySem.W.Frag} {S H : Hp} {ca : List Addr} {ds : List (Key × D)} {vs : List (Key × V)} {f : Fp} (r : Rks K cA S H ca ds vs f) : (!ds.isEmpty) = !vs.isEmpty := by
  cases r <;> rfl
theorem Rp.tru {K : PySem.W.Frag} {S H : Hp} {ca : List Addr} {d : D} {v : V} {f : Fp} {b : Bool} (sub : ∀ a u, S a = some u → H a = some u) (r : Rp K cA S H ca d v f) (h : d.tru = some b) : TruV K v H b := by
  cases r with
  | non _ => simp only [D.tru, Option.some.injEq] at h; exact h.symm
  | unk _ => simp [D.tru] at h
  | bl _ _ => simp only [D.tru, Option.some.injEq] at h; exact h.symm
  | int _ _ => simp only [D.tru, Option.some.injEq] at h; exact h.symm
  | str x _ =>
    simp only [D.tru] at h
    split at h
    · rename_i hz
      simp only [Option.some.injEq] at h
      exact ⟨sz_of hz, h.symm⟩
    · cases h
  | lstO h1 hs r hf =>
    simp only [D.tru, Option.some.injEq] at h
    exact .inl ⟨_, SqL.of h1, by rw [← h, r.empty]⟩
  | lstS h1 r hg hf =>
    simp only [D.tru, Option.some.injEq] at h
    exact .inl ⟨_, SqL.of (sub _ _ h1), by rw [← h, r.empty]⟩
  | tup h1 r =>
    simp only [D.tru, Option.some.injEq] at h
    exact .inr (.inl ⟨_, h1, by rw [← h, r.empty]⟩)
  | dicO h1 hs r hf =>
    simp only [D.tru, Option.some.injEq] at h
    exact .inr (.inr ⟨_, h1, by rw [← h, r.empty]⟩)
  | dicS h1 r hg hf =>
    simp only [D.tru, Option.some.injEq] at h
    exact .inr (.inr ⟨_, sub _ _ h1, by rw [← h, r.empty]⟩)
  | objO _ _ _ _ => simp [D.tru] at h
  | objS _ _ _ _ => simp [D.tru] at h
  | cel _ _ => simp [D.tru] at h
  | scr _ _ => simp [D.tru] at h
/-- one operand -/
def od1 (a : Od) : Mo D := fun env st => match a with
  | .ex a => a env st
  | .nm i => (match look i env st with
    | some x => some (x, env, st)
    | none => none)
theorem od1_w {a : Od} {K : PySem.W.Frag} {σ : L2.St} {H : Hp} {R : V → Hp → Prop} {S : Hp} {ca : List Addr} {env env' : DEnv} {st st' : Sto} {ow A : Fp} {x : D} (t : Sta K cA σ S H env st ca ow A) (hm : od1 a env st = some (x, env', st'))
    (hr : ∀ u S2 H2 ca2 ow2 A2 f f1, Post K cA σ S H ca ow A env' st' r0 S2 H2 ca2 ow2 A2 f → Rp K cA S2 H2 ca2 x u f1 → R u H2) : tOd cA a K σ H R := by
  cases a with
  | ex a =>
    exact ⟨S, ca, env, st, ow, A, x, _, _, t, hm, fun v1 S1 H1 ca1 ow1 A1 f1 p1 => hr _ _ _ _ _ _ (fun _ => 0) _ (p1.imp (fun _ => fun _ => rfl) fun _ => Nat.zero_le _) p1.rp⟩
  | nm i =>
    unfold od1 at hm
    dsimp only at hm
    split at hm
    · rename_i y h1
      obtain ⟨rfl, rfl, rfl⟩ := inj3 hm
      obtain ⟨v1, f1, hv1, r1⟩ := t.look h1
      exact ⟨v1, hv1, hr _ _ _ _ _ _ (fun _ => 0) _ (t.self (fun _ => rfl) fun _ => rfl) r1⟩
    · cases hm
/-- a value's truth -/
def mTru (a : Od) : Mo D := fun env st => match od1 a env st with
  | some (x, e1, s1) => (match x.tru with
    | some b => some (.bl b, e1, s1)
    | none => none)
  | none => none
theorem tru_w {a : Od} {K : PySem.W.Frag} {σ : L2.St} {H : Hp} {Q : VK} (h : tE cA (mTru a) K σ H Q) : tOd cA a K σ H fun x H1 => ∃ k, TruV K x H1 k ∧ Q (.bl k) H1 := by
  obtain ⟨S, ca, env, st, ow, A, d', env', st', t, hm, q⟩ := h
  unfold mTru at hm
  split at hm
  · rename_i x e1 s1 h1
    split at hm
    · rename_i b hb
      obtain ⟨rfl, rfl, rfl⟩ := inj3 hm
      exact od1_w t h1 fun u S2 H2 ca2 ow2 A2 f f1 p r => ⟨b, r.tru p.st.sub hb, (p.res q).at rp_bl0⟩
    · cases hm
  · cases hm
theorem pb_val {e : Expr} {a : Od} (h : PO' cA X e a) (he : ∀ whole, isTrue e X.env whole = (do let v ← whole; standAt e.pos; holding [v] (truthy v)) := by intro _; rfl) : PB cA X e (mTru a) :=
  pt_w (pt_truth h he) fun σ H Q h => by
    obtain ⟨S, ca, env, st, ow, A, d', env', st', t, hm, q⟩ := h
    unfold mTru at hm
    split at hm
    · rename_i x e1 s1 h1
      split at hm
      · rename_i b hb
        obtain ⟨rfl, rfl, rfl⟩ := inj3 hm
        refine od1_w t h1 fun u S2 H2 ca2 ow2 A2 f f1 p r => ⟨b, r.tru p.st.sub hb, ?_⟩
        obtain ⟨k, e, w⟩ := (p.res q).at rp_bl0
        cases e
        exact w
      · cases hm
    · cases hm
theorem tOd_mono {a : Od} {K : PySem.W.Frag} {σ : L2.St} {H : Hp} {R R' : VK} (h : tOd cA a K σ H R) (i : ∀ x H, R x H → R' x H) : tOd cA a K σ H R' := by
  cases a with
  | ex m =>
    obtain ⟨S, ca, env, st, ow, A, d', env', st', t, hm, q⟩ := h
    exact ⟨S, ca, env, st, ow, A, d', env', st', t, hm, fun b S' H' ca' ow' A' f p => i _ _ (q b S' H' ca' ow' A' f p)⟩
  | nm j =>
    obtain ⟨v, h1, h2⟩ := h
    exact ⟨v, h1, i _ _ h2⟩
/-! ### not, and, or, if -/
def mNot (a : Mo D) : Mo D := fun env st => match a env st with
  | some (.bl b, e1, s1) => some (.bl (!b), e1, s1)
  | _ => none
theorem pd_not {e : Expr} {a : Od} {pos : Pos} (h : PO' cA X e a) : PD cA X (.UnaryOp .Not e pos) (mNot (mTru a)) :=
  pe_w (pe_notT h) fun σ H Q h => by
    obtain ⟨S, ca, env, st, ow, A, d', env', st', t, hm, q⟩ := h
    unfold mNot at hm
    split at hm
    · rename_i b e1 s1 h1
      obtain ⟨rfl, rfl, rfl⟩ := inj3 hm
      have z : tE cA (mTru a) X.K σ H (fun x H1 => ∃ k, x = .bl k ∧ Q (.bl (!k)) H1) := ⟨S, ca, env, st, ow, A, _, _, _, t, h1, fun v S' H' ca' ow' A' f p => ⟨b, p.rp.b.1, q _ _ _ _ _ _ _ (p.imp (g := fun _ => 0) (fun _ => rp_bl0) fun _ => Nat.zero_le _)⟩⟩
      refine tOd_mono (tru_w z) ?_
      rintro x H1 ⟨k, h2, k', h3, h4⟩
      cases h3
      exact ⟨k, h2, h4⟩
    · cases hm
theorem pb_not {e : Expr} {a : Mo D} {pos : Pos} (h : PB cA X e a) : PB cA X (.UnaryOp .Not e pos) (mNot a) :=
  pt_w (pt_not h) fun σ H Q h => by
    obtain ⟨S, ca, env, st, ow, A, d', env', st', t, hm, q⟩ := h
    unfold mNot at hm
    split at hm
    · rename_i b e1 s1 h1
      obtain ⟨rfl, rfl, rfl⟩ := inj3 hm
      refine ⟨S, ca, env, st, ow, A, _, _, _, t, h1, fun v S' H' ca' ow' A' f p => ⟨b, p.rp.b.1, ?_⟩⟩
      obtain ⟨k, e, w⟩ := q _ _ _ _ _ _ _ (p.imp (g := fun _ => 0) (fun _ => rp_bl0) fun _ => Nat.zero_le _)
      cases e
      exact w
    · cases hm
def mAnd (a b : Mo D) : Mo D := fun env st => match a env st with
  | some (.bl k, e1, s1) => if k = true then b e1 s1 else some (.bl false, e1, s1)
  | _ => none
def mOr (a b : Mo D) : Mo D := fun env st => match a env st with
  | some (.bl k, e1, s1) => if k = true then some (.bl true, e1, s1) else b e1 s1
  | _ => none
section
variable {K : PySem.W.Frag} {σ : L2.St} {H : Hp} {Q : VK} {a b : Mo D}
theorem and_w (h : tE cA (mAnd a b) K σ H Q) : tE cA a K σ H fun x H1 => ∃ k, x = .bl k ∧ if k = true then tE cA b K σ H1 Q else Q (.bl false) H1 := by
  obtain ⟨S, ca, env, st, ow, A, d', env', st', t, hm, q⟩ := h
  unfold mAnd at hm
  split at hm
  · rename_i k e1 s1 h1
    refine ⟨S, ca, env, st, ow, A, _, _, _, t, h1, fun v S1 H1 ca1 ow1 A1 f1 p1 => ⟨k, p1.rp.b.1, ?_⟩⟩
    split at hm
    · rw [if_pos (by assumption)]
      exact ⟨S1, ca1, e1, s1, ow1, A1, _, _, _, p1.st, hm, fun v2 S2 H2 ca2 ow2 A2 f2 p2 => q _ _ _ _ _ _ _ (p1.next p2)⟩
    · rw [if_neg (by assumption)]
      obtain ⟨rfl, rfl, rfl⟩ := inj3 hm
      exact q _ _ _ _ _ _ _ (p1.imp (g := fun _ => 0) (fun _ => rp_bl0) fun _ => Nat.zero_le _)
  · cases hm
theorem or_w (h : tE cA (mOr a b) K σ H Q) : tE cA a K σ H fun x H1 => ∃ k, x = .bl k ∧ if k = true then Q (.bl true) H1 else tE cA b K σ H1 Q := by
  obtain ⟨S, ca, env, st, ow, A, d', env', st', t, hm, q⟩ := h
  unfold mOr at hm
  split at hm
  · rename_i k e1 s1 h1
    refine ⟨S, ca, env, st, ow, A, _, _, _, t, h1, fun v S1 H1 ca1 ow1 A1 f1 p1 => ⟨k, p1.rp.b.1, ?_⟩⟩
    split at hm
    · rw [if_pos (by assumption)]
      obtain ⟨rfl, rfl, rfl⟩ := inj3 hm
      exact q _ _ _ _ _ _ _ (p1.imp (g := fun _ => 0) (fun _ => rp_bl0) fun _ => Nat.zero_le _)
    · rw [if_neg (by assumption)]
      exact ⟨S1, ca1, e1, s1, ow1, A1, _, _, _, p1.st, hm, fun v2 S2 H2 ca2 ow2 A2 f2 p2 => q _ _ _ _ _ _ _ (p1.next p2)⟩
  · cases hm
end
theorem pd_and {ea eb : Expr} {rest : List Expr} {a b : Mo D} {pos : Pos} (ha : PD cA X ea a) (hb : PD cA X (.BoolOp .And (eb :: rest) pos) b) : PD cA X (.BoolOp .And (ea :: eb :: rest) pos) (mAnd a b) :=
  pe_w (pe_and ha hb) fun σ H Q h => and_w h
theorem pd_or {ea eb : Expr} {rest : List Expr} {a b : Mo D} {pos : Pos} (ha : PD cA X ea a) (hb : PD cA X (.BoolOp .Or (eb :: rest) pos) b) : PD cA X (.BoolOp .Or (ea :: eb :: rest) pos) (mOr a b) :=
  pe_w (pe_or ha hb) fun σ H Q h => or_w h
theorem pd_one {op : BoolOp} {ea : Expr} {a : Mo D} {pos : Pos} (ha : PD cA X ea a) : PD cA X (.BoolOp op [ea] pos) a := pe_one ha
theorem pw_and1' {ea : Expr} {a : Mo D} {pos : Pos} (ha : PB cA X ea a) : PWB cA X (.BoolOp .And [ea] pos) a := pw_and1 ha
theorem pw_or1' {ea : Expr} {a : Mo D} {pos : Pos} (ha : PB cA X ea a) : PWB cA X (.BoolOp .Or [ea] pos) a := pw_or1 ha
theorem pw_and' {ea eb : Expr} {rest : List Expr} {a b : Mo D} {pos : Pos} (ha : PB cA X ea a) (hb : PWB cA X (.BoolOp .And (eb :: rest) pos) b) : PWB cA X (.BoolOp .And (ea :: eb :: rest) pos) (mAnd a b) :=
  pw_w (pw_and ha hb) fun σ H Q h => by
    obtain ⟨S, ca, env, st, ow, A, d', env', st', t, hm, q⟩ := and_w h
    refine ⟨S, ca, env, st, ow, A, d', env', st', t, hm, fun v S1 H1 ca1 ow1 A1 f1 p1 => ?_⟩
    obtain ⟨k, e, z⟩ := q v S1 H1 ca1 ow1 A1 f1 p1
    refine ⟨k, e, ?_⟩
    split at z
    · rw [if_pos (by assumption)]; exact z
    · rw [if_neg (by assumption)]
      obtain ⟨k', e', z⟩ := z
      cases e'
      exact z
theorem pw_or' {ea eb : Expr} {rest : List Expr} {a b : Mo D} {pos : Pos} (ha : PB cA X ea a) (hb : PWB cA X (.BoolOp .Or (eb :: rest) pos) b) : PWB cA X (.BoolOp .Or (ea :: eb :: rest) pos) (mOr a b) :=
  pw_w (pw_or ha hb) fun σ H Q h => by
    obtain ⟨S, ca, env, st, ow, A, d', env', st', t, hm, q⟩ := or_w h
    refine ⟨S, ca, env, st, ow, A, d', env', st', t, hm, fun v S1 H1 ca1 ow1 A1 f1 p1 => ?_⟩
    obtain ⟨k, e, z⟩ := q v S1 H1 ca1 ow1 A1 f1 p1
    refine ⟨k, e, ?_⟩
    split at z
    · rw [if_pos (by assumption)]
      obtain ⟨k', e', z⟩ := z
      cases e'
      exact z
    · rw [if_neg (by assumption)]; exact z
theorem pb_w {e : Expr} {a : Mo D} (h : PWB cA X e a) : PB cA X e a := h.pt
def mIf (c a b : Mo D) : Mo D := fun env st => match c env st with
  | some (.bl k, e1, s1) => if k = true then a e1 s1 else b e1 s1
  | _ => none
theorem if_w {K : PySem.W.Frag} {σ : L2.St} {H : Hp} {Q : VK} {c a b : Mo D} (h : tE cA (mIf c a b) K σ H Q) : tTest (tE cA c K) σ H fun k H1 => if k = true then tE cA a K σ H1 Q else tE cA b K σ H1 Q := by
  obtain ⟨S, ca, env, st, ow, A, d', env', st', t, hm, q⟩ := h
  unfold mIf at hm
  split at hm
  · rename_i k e1 s1 h1
    refine ⟨S, ca, env, st, ow, A, _, _, _, t, h1, fun v S1 H1 ca1 ow1 A1 f1 p1 => ⟨k, p1.rp.b.1, ?_⟩⟩
    split at hm
    · rw [if_pos (by assumption)]
      exact ⟨S1, ca1, e1, s1, ow1, A1, _, _, _, p1.st, hm, fun v2 S2 H2 ca2 ow2 A2 f2 p2 => q _ _ _ _ _ _ _ (p1.next p2)⟩
    · rw [if_neg (by assumption)]
      exact ⟨S1, ca1, e1, s1, ow1, A1, _, _, _, p1.st, hm, fun v2 S2 H2 ca2 ow2 A2 f2 p2 => q _ _ _ _ _ _ _ (p1.next p2)⟩
  · cases hm
theorem pd_if {ec ea eb : Expr} {c a b : Mo D} {pos : Pos} (hc : PB cA X ec c) (ha : PD cA X ea a) (hb : PD cA X eb b) : PD cA X (.IfExp ec ea eb pos) (mIf c a b) :=
  pe_w (pe_ifExp hc ha hb) fun σ H Q h => if_w h
/-! ### one operand -/
def mUn (g : D → Option D) (a : Od) : Mo D := fun env st => match od1 a env st with
  | some (x, e1, s1) => (match g x with
    | some z => some (z, e1, s1)
    | none => none)
  | none => none
theorem un_w {a : Od} {g : D → Option D} {K : PySem.W.Frag} {σ : L2.St} {H : Hp} {Q : VK} {r : V → Hp → Prop} (h : tE cA (mUn g a) K σ H Q)
    (hr : ∀ x H, (∃ S ca d1 f1 d, (∀ a o, S a = some o → H a = some o) ∧ Rp K cA S H ca d1 x f1 ∧ g d1 = some d ∧ Res K cA S H ca d Q) → r x H) : tOd cA a K σ H r := by
  obtain ⟨S, ca, env, st, ow, A, d', env', st', t, hm, q⟩ := h
  unfold mUn at hm
  split at hm
  · rename_i x e2 s2 h2
    split at hm
    · rename_i z hz
      obtain ⟨rfl, rfl, rfl⟩ := inj3 hm
      exact od1_w t h2 fun u S2 H2 ca2 ow2 A2 f f1 p r1 => hr _ _ ⟨S2, ca2, x, f1, z, p.st.sub, r1, hz, p.res q⟩
    · cases hm
  · cases hm
def negD : D → Option D
  | .int i => some (.int (-i))
  | _ => none
theorem pd_neg {e : Expr} {a : Od} {pos : Pos} (h : PO' cA X e a) : PD cA X (.UnaryOp .USub e pos) (mUn negD a) :=
  pe_w (pe_un un_neg h) fun σ H Q h => un_w h fun x H1 ⟨S, ca, d1, f1, d, sub, r, hg, k⟩ => by
    unfold negD at hg
    split at hg
    · cases hg
      obtain ⟨rfl, _⟩ := r.i
      exact ⟨_, rfl, k.at rp_int0⟩
    · cases hg
/-- a built-in of one value -/
def FnD (cA : Str → Addr) (X : Cx) (fn : Value) (g : D → Option D) : Prop :=
  CallR X fn (fun xs H Q => ∃ x S ca d1 f1 d, xs = [x] ∧ (∀ a o, S a = some o → H a = some o) ∧ Rp X.K cA S H ca d1 x f1 ∧ g d1 = some d ∧ Res X.K cA S H ca d Q)
theorem fn_w {a : Od} {g : D → Option D} {K : PySem.W.Frag} {σ : L2.St} {H : Hp} {Q : VK} (h : tE cA (mUn g a) K σ H Q) :
    tCB (fun xs H Q => ∃ x S ca d1 f1 d, xs = [x] ∧ (∀ a o, S a = some o → H a = some o) ∧ Rp K cA S H ca d1 x f1 ∧ g d1 = some d ∧ Res K cA S H ca d Q) (tCons (tOd cA a K) tNil) σ H Q :=
  un_w h fun x H1 ⟨S, ca, d1, f1, d, sub, r, hg, k⟩ => ⟨x, S, ca, d1, f1, d, rfl, sub, r, hg, k⟩
theorem pd_fn {id : String} {x : Str} {e : Expr} {a : Od} {g : D → Option D} {p pos : Pos} (hc : FnD cA X (.builtin id) g) (hg : Gl X x) (hm : X.mg x = none) (hv : bootBuiltins x = some (.builtin id)) (ha : PO' cA X e a)
    (hs : starEach [e] X.env = (false, eval e X.env) :: starEach [] X.env := by rfl) (hpl : (backTo pos (starEach [] X.env)).any (·.1) = false := by rfl) (hn : x ≠ "__name__" := by decide) (hdb : (x == ("__debug__" : Str)) = false := by decide) : PD cA X (.Call (.Name x p) [e] [] pos) (mUn g a) :=
  pe_w (pe_callB hc hg hm hv (pa_cons ha pa_nil hs) hn hdb hs hpl) fun σ H Q h => fn_w h
theorem pd_ty {T : String} {x : Str} {e : Expr} {a : Od} {g : D → Option D} {p pos : Pos} (hc : FnD cA X (.type T) g) (hg : Gl X x) (hm : X.mg x = none) (hv : bootBuiltins x = some (.type T)) (ha : PO' cA X e a)
    (hs : starEach [e] X.env = (false, eval e X.env) :: starEach [] X.env := by rfl) (hpl : (backTo pos (starEach [] X.env)).any (·.1) = false := by rfl) (hn : x ≠ "__name__" := by decide) (hdb : (x == ("__debug__" : Str)) = false := by decide) : PD cA X (.Call (.Name x p) [e] [] pos) (mUn g a) :=
  pe_w (pe_callTy hc hg hm hv (pa_cons ha pa_nil hs) hn hdb hs hpl) fun σ H Q h => fn_w h
def lenD : D → Option D
  | .str x => if szOk x.length = true then some (.int x.length) else none
  | .lst _ xs => some (.int xs.length)
  | .tup xs => some (.int xs.length)
  | .scr ns => some (.int ns.length)
  | _ => none
theorem fd_len : FnD cA X (.builtin "len") lenD := by
  rintro pins s σ H xs us Q I rv ⟨x, S, ca, d1, f1, d, rfl, sub, r, hg, k⟩
  unfold lenD at hg
  split at hg
  · split at hg
    · rename_i hz
      cases hg
      obtain ⟨rfl, _⟩ := r.s
      exact call_len pins s σ H _ us Q I rv ⟨_, _, rfl, ⟨sz_of hz, rfl⟩, k.at rp_int0⟩
    · cases hg
  · cases hg
    obtain ⟨p, vs, g, rfl, h1, q, _⟩ := r.l sub
    refine call_len pins s σ H _ us Q I rv ⟨_, vs.length, rfl, .inl ⟨vs, SqL.of h1, rfl⟩, ?_⟩
    rw [q.length]
    exact k.at rp_int0
  · cases hg
    obtain ⟨p, vs, rfl, h1, q⟩ := r.t
    refine call_len pins s σ H _ us Q I rv ⟨_, vs.length, rfl, .inr ⟨vs, h1, rfl⟩, ?_⟩
    rw [q.length]
    exact k.at rp_int0
  · cases hg
    cases r with
    | scr h1 _ =>
      refine call_len pins s σ H _ us Q I rv ⟨_, _, rfl, .inl ⟨_, sqL_ex sub h1, rfl⟩, ?_⟩
      rw [List.length_map]
      exact k.at rp_int0
  · cases hg
def absD : D → Option D
  | .int i => some (.int (if i < 0 then -i else i))
  | _ => none
theorem fd_abs : FnD cA X (.builtin "abs") absD := by
  rintro pins s σ H xs us Q I rv ⟨x, S, ca, d1, f1, d, rfl, sub, r, hg, k⟩
  unfold absD at hg
  split at hg
  · cases hg
    obtain ⟨rfl, _⟩ := r.i
    exact call_abs pins s σ H _ us Q I rv ⟨_, rfl, k.at rp_int0⟩
  · cases hg
def intD : D → Option D
  | .int i => some (.int i)
  | .bl b => some (.int (if b then 1 else 0))
  | _ => none
theorem fd_int : FnD cA X (.type "int") intD := by
  rintro pins s σ H xs us Q I rv ⟨x, S, ca, d1, f1, d, rfl, sub, r, hg, k⟩
  unfold intD at hg
  split at hg
  · cases hg
    obtain ⟨rfl, _⟩ := r.i
    exact call_int1 pins s σ H _ us Q I rv (.inl ⟨_, rfl, k.at rp_int0⟩)
  · cases hg
    obtain ⟨rfl, _⟩ := r.b
    exact call_int1 pins s σ H _ us Q I rv (.inr ⟨_, rfl, k.at rp_int0⟩)
  · cases hg
def boolsOf : List D → Option (List Bool)
  | [] => some []
  | .bl b :: r => (boolsOf r).map (b :: ·)
  | _ => none
theorem boolsOf_eq : ∀ {xs : List D} {bs : List Bool}, boolsOf xs = some bs → xs = bs.map D.bl
  | [], bs, h => by simp only [boolsOf, Option.some.injEq] at h; subst h; rfl
  | .bl b :: r, bs, h => by
    simp only [boolsOf] at h
    cases e : boolsOf r with
    | none => rw [e] at h; cases h
    | some cs =>
      rw [e] at h
      simp only [Option.map_some, Option.some.injEq] at h
      subst h
      rw [List.map_cons, boolsOf_eq e]
  | .non :: r, bs, h => by simp [boolsOf] at h
  | .unk :: r, bs, h => by simp [boolsOf] at h
  | .int _ :: r, bs, h => by simp [boolsOf] at h
  | .str _ :: r, bs, h => by simp [boolsOf] at h
  | .lst _ _ :: r, bs, h => by simp [boolsOf] at h
  | .tup _ :: r, bs, h => by simp [boolsOf] at h
  | .dic _ _ :: r, bs, h => by simp [boolsOf] at h
  | .obj _ _ _ :: r, bs, h => by simp [boolsOf] at h
  | .cel _ :: r, bs, h => by simp [boolsOf] at h
  | .scr _ :: r, bs, h => by simp [boolsOf] at h
def anyD : D → Option D
  | .lst _ xs => (boolsOf xs).map fun bs => .bl (bs.any id)
  | _ => none
def allD : D → Option D
  | .lst _ xs => (boolsOf xs).map fun bs => .bl (bs.all id)
  | _ => none
theorem fd_all (hc : X.calm = true) : FnD cA X (.builtin "all") allD := by
  rintro pins s σ H xs us Q I rv ⟨x, S, ca, d1, f1, d, rfl, sub, r, hg, k⟩
  unfold allD at hg
  split at hg
  · rename_i o ds
    obtain ⟨p, vs, g, rfl, h1, q, _⟩ := r.l sub
    cases e : boolsOf ds with
    | none => rw [e] at hg; cases hg
    | some bs =>
      rw [e] at hg
      simp only [Option.map_some, Option.some.injEq] at hg
      subst hg
      rw [boolsOf_eq e] at q
      rw [q.bls] at h1
      exact cr_all hc pins s σ H _ us Q I rv ⟨p, bs, rfl, SqL.of h1, k.at rp_bl0⟩
  · cases hg
def listD : D → Option D
  | .lst _ xs => if D.frs xs = true then some (.lst true xs) else none
  | .tup xs => if D.frs xs = true then some (.lst true xs) else none
  | _ => none
theorem fd_list : FnD cA X (.type "list") listD := by
  rintro pins s σ H xs us Q I rv ⟨x, S, ca, d1, f1, d, rfl, sub, r, hg, k⟩
  unfold listD at hg
  split at hg
  · split at hg
    · rename_i hf
      cases hg
      obtain ⟨p, vs, g, rfl, h1, q, _⟩ := r.l sub
      exact call_list_of pins s σ H _ us Q I rv ⟨p, vs, rfl, .inl (SqL.of h1), fun l nl => k.lst sub nl (q.f0 (q.fr0 hf))⟩
    · cases hg
  · split at hg
    · rename_i hf
      cases hg
      obtain ⟨p, vs, rfl, h1, q⟩ := r.t
      exact call_list_of pins s σ H _ us Q I rv ⟨p, vs, rfl, .inr h1, fun l nl => k.lst sub nl (q.f0 (q.fr0 hf))⟩
    · cases hg
  · cases hg
def tupleD : D → Option D
  | .lst _ xs => if D.frs xs = true then some (.tup xs) else none
  | .tup xs => if D.frs xs = true then some (.tup xs) else none
  | _ => none
theorem fd_tuple : FnD cA X (.type "tuple") tupleD := by
  rintro pins s σ H xs us Q I rv ⟨x, S, ca, d1, f1, d, rfl, sub, r, hg, k⟩
  unfold tupleD at hg
  split at hg
  · split at hg
    · rename_i hf
      cases hg
      obtain ⟨p, vs, g, rfl, h1, q, _⟩ := r.l sub
      exact call_tuple_of pins s σ H _ us Q I rv ⟨p, vs, rfl, .inl ⟨SqL.of h1, fun l nl => k.tup nl (q.f0 (q.fr0 hf))⟩⟩
    · cases hg
  · split at hg
    · rename_i hf
      cases hg
      obtain ⟨p, vs, rfl, h1, q⟩ := r.t
      exact call_tuple_of pins s σ H _ us Q I rv ⟨p, vs, rfl, .inr ⟨h1, k.at (.tup h1 (q.f0 (q.fr0 hf)))⟩⟩
    · cases hg
  · cases hg
end
end Fw

set_option Elab.async false
set_option linter.all false
set_option maxRecDepth 100000
namespace Fw
open PySem PySem.Spec PyProof.Rows L2

section
variable {K : PySem.W.Frag} {cA : Str → Addr} {S H S' H' S1 H1 S2 H2 : Hp} {ca ca' ca1 ca2 : List Addr} {L ow A ow1 A1 ow2 A2 : Fp} {d : D} {v : V} {f g f1 f2 : Fp} {ds : List D} {vs : List V}
  {σ σ1 σ2 : L2.St} {env env1 env2 env' : DEnv} {st st1 st2 st' : Sto} {R R' : Hp → Hp → List Addr → Fp → Prop}
/-- one step behind another, the frame's slots changed -/
theorem Post.then (p : Post K cA σ1 S H ca ow A env1 st1 R S1 H1 ca1 ow1 A1 f) (q : Post K cA σ2 S1 H1 ca1 ow1 A1 env2 st2 R' S2 H2 ca2 ow2 A2 g) : Post K cA σ2 S H ca ow A env2 st2 R' S2 H2 ca2 ow2 A2 g where
  tr := p.tr.trans q.tr fun a h => p.fo a (by omega)
  st := q.st
  rp := q.rp
  le := q.le
  fo := fun a h => by
    rcases q.fo a h with w | w
    · exact p.fo a (by omega)
    · exact .inr (p.tr.dom a w)
/-- an index upon a list's values -/
def atD (xs : List D) (i : Int) : Option D := (ixN xs.length i).bind fun j => xs[j]?
theorem Rps.at (r : Rps K cA S H ca ds vs f) {i : Int} (h : atD ds i = some d) : ∃ v g, atI vs i = some v ∧ Rp K cA S H ca d v g ∧ ∀ a, g a ≤ f a := by
  unfold atD at h
  cases e : ixN ds.length i with
  | none => rw [e] at h; cases h
  | some j =>
    rw [e] at h
    obtain ⟨v, g, h1, h2, h3⟩ := r.get (i := j) (by simpa using h)
    exact ⟨v, g, by unfold atI; rw [r.length, e]; exact h1, h2, h3⟩
def ixD : D → D → Option D
  | .lst _ xs, .int i => atD xs i
  | .tup xs, .int i => atD xs i
  | .str z, .int i => if szOk z.length = true then (atI z.cps.toList i).map fun c => .str ⟨#[c]⟩ else none
  | _, _ => none
theorem ix_of (sub : ∀ a u, S a = some u → H a = some u) {x y d : D} {u w : V} {f1 f2 : Fp} {Q : VK} (r1 : Rp K cA S H ca x u f1) (r2 : Rp K cA S H ca y w f2) (h : ixD x y = some d) (k : ∀ v g, Rp K cA S H ca d v g → (∀ a, g a ≤ f1 a) → Q v H) : rIx K u w H Q := by
  unfold ixD at h
  split at h
  · obtain ⟨p, vs, g, rfl, h1, q, l⟩ := r1.l sub
    obtain ⟨rfl, _⟩ := r2.i
    obtain ⟨v, g', hv, rv, l'⟩ := q.at h
    exact .inl ⟨p, vs, _, v, rfl, rfl, SqL.of h1, hv, k v g' rv fun a => Nat.le_trans (l' a) (l a)⟩
  · obtain ⟨p, vs, rfl, h1, q⟩ := r1.t
    obtain ⟨rfl, _⟩ := r2.i
    obtain ⟨v, g', hv, rv, l'⟩ := q.at h
    exact .inr (.inl ⟨p, vs, _, v, rfl, rfl, h1, hv, k v g' rv l'⟩)
  · split at h
    · rename_i z i hz
      obtain ⟨rfl, _⟩ := r1.s
      obtain ⟨rfl, _⟩ := r2.i
      cases e : atI z.cps.toList i with
      | none => rw [e] at h; cases h
      | some c =>
        rw [e] at h
        simp only [Option.map_some, Option.some.injEq] at h
        subst h
        exact .inr (.inr ⟨z, i, c, rfl, rfl, sz_of hz, e, k _ (fun _ => 0) rp_str0 fun _ => Nat.zero_le _⟩)
    · cases h
  · cases h
end

section
variable {X : Cx} {cA : Str → Addr}
/-! ### subscripts -/
/-- of a value made on the way: the item goes along; of a name's value: the item is shared -/
def mIx (a b : Od) : Mo D := fun env st => match a with
  | .ex m => (match b with
    | .ex n => (match m env st with
      | some (x, e1, s1) => (match n e1 s1 with
        | some (y, e2, s2) => (match ixD x y with
          | some z => some (z, e2, s2)
          | none => none)
        | none => none)
      | none => none)
    | .nm j => (match m env st with
      | some (x, e1, s1) => (match look j e1 s1 with
        | some y => (match ixD x y with
          | some z => some (z, e1, s1)
          | none => none)
        | none => none)
      | none => none))
  | .nm i => (match od2 (.nm i) b env st with
    | some ((x, y), e2, s2) => (match ixD x y with
      | some z => if z.fr = true then some (z, e2, s2) else none
      | none => none)
    | none => none)
theorem pd_ix {ea eb : Expr} {a b : Od} {pos : Pos} (ha : PO' cA X ea a) (hb : PO' cA X eb b) (hs : PlainIx eb := by exact fun _ _ => rfl) : PD cA X (.Subscript ea eb pos) (mIx a b) :=
  pe_w (pe_ix ix_seq ha hb hs) fun σ H Q h => by
    obtain ⟨S, ca, env, st, ow, A, d', env', st', t, hm, q⟩ := h
    unfold mIx at hm
    cases a with
    | ex m =>
      cases b with
      | ex n =>
        dsimp only at hm
        split at hm
        · rename_i x e1 s1 h1
          split at hm
          · rename_i y e2 s2 h2
            split at hm
            · rename_i z hz
              obtain ⟨rfl, rfl, rfl⟩ := inj3 hm
              refine ⟨S, ca, env, st, ow, A, x, e1, s1, t, h1, fun v1 S1 H1 ca1 ow1 A1 f1 p1 => ?_⟩
              refine ⟨S1, ca1, e1, s1, ow1, A1, y, _, _, p1.st, h2, fun v2 S2 H2 ca2 ow2 A2 f2 p2 => ?_⟩
              have p := p1.both kp_d p2
              obtain ⟨g1, g2, hg, r1, r2⟩ := p.rp
              refine ix_of p.st.sub r1 r2 hz fun v g rv l => ?_
              exact q v S2 H2 ca2 ow2 A2 g (p.imp (fun _ => rv) fun a => by have := l a; have e : f1 a + f2 a = g1 a + g2 a := hg a; show g a ≤ f1 a + f2 a; omega)
            · cases hm
          · cases hm
        · cases hm
      | nm j =>
        dsimp only at hm
        split at hm
        · rename_i x e1 s1 h1
          split at hm
          · rename_i y h2
            split at hm
            · rename_i z hz
              obtain ⟨rfl, rfl, rfl⟩ := inj3 hm
              refine ⟨S, ca, env, st, ow, A, x, _, _, t, h1, fun v1 S1 H1 ca1 ow1 A1 f1 p1 => ?_⟩
              obtain ⟨v, f, hv, r⟩ := p1.st.look h2
              refine ⟨v, hv, ix_of p1.st.sub p1.rp r hz fun v g rv l => ?_⟩
              exact q v S1 H1 ca1 ow1 A1 g (p1.imp (fun _ => rv) l)
            · cases hm
          · cases hm
        · cases hm
    | nm i =>
      dsimp only at hm
      split at hm
      · rename_i x y e2 s2 h2
        split at hm
        · rename_i z hz
          split at hm
          · rename_i hf
            obtain ⟨rfl, rfl, rfl⟩ := inj3 hm
            exact od2_w (R := fun x y H => rIx X.K x y H Q) t h2 fun u v S2 H2 ca2 ow2 A2 f f1 f2 p r1 r2 => ix_of p.st.sub r1 r2 hz fun v g rv l => (p.res q).at (rv.f0 (rv.fr0 hf))
          · cases hm
        · cases hm
      · cases hm
/-- d[k], k a text or a number -/
def lookK (ks : List (Key × D)) (k : Key) : Option D := (ks.find? fun kv => decide (kv.1 = k)).map (·.2)
def dkD : D → D → Option D
  | .dic _ ks, .str x => lookK ks (.inr x)
  | .dic _ ks, .int i => lookK ks (.inl i)
  | _, _ => none
theorem Rks.look {K : PySem.W.Frag} {S H : Hp} {ca : List Addr} {k : Key} {d : D} : ∀ {ks : List (Key × D)} {vs : List (Key × V)} {f : Fp}, Rks K cA S H ca ks vs f → lookK ks k = some d → ∃ v g, valV vs k = some v ∧ Rp K cA S H ca d v g ∧ ∀ a, g a ≤ f a
  | _, _, _, .nil _, h => by simp [lookK] at h
  | _, _, _, .cons (k := k') (d := d') (v := v') (f := f') r t hh, h => by
    unfold lookK at h
    unfold valV
    by_cases e : k' = k
    · simp only [List.find?_cons, e, decide_true, Option.map_some, Option.some.injEq] at h ⊢
      subst h
      exact ⟨v', f', rfl, r, fun a => by rw [hh]; omega⟩
    · simp only [List.find?_cons, e, decide_false] at h ⊢
      obtain ⟨v, g, h1, h2, h3⟩ := Rks.look t h
      exact ⟨v, g, h1, h2, fun a => by have := h3 a; rw [hh]; omega⟩
theorem Rp.dk {K : PySem.W.Frag} {S H : Hp} {ca : List Addr} {o : Bool} {ks : List (Key × D)} {v : V} {f : Fp} (sub : ∀ a u, S a = some u → H a = some u) (r : Rp K cA S H ca (.dic o ks) v f) : ∃ p vs g, v = .ref p ∧ H p = some (.dK vs) ∧ Rks K cA S H ca ks vs g ∧ ∀ a, g a ≤ f a := by
  cases r with
  | dicO h hs r hf => exact ⟨_, _, _, rfl, h, r, fun a => by rw [hf]; omega⟩
  | dicS h r hg hf => exact ⟨_, _, _, rfl, sub _ _ h, r, fun a => by rw [hg]; omega⟩
def dkF (x y : D) : Option D := match dkD x y with
  | some z => if z.fr = true then some z else none
  | none => none
theorem pd_dk {ea eb : Expr} {a b : Od} {pos : Pos} (hu : X.A.units + 1 < cLine) (ha : PO' cA X ea a) (hb : PO' cA X eb b) (hs : NoSl eb := by exact fun _ _ => rfl) : PD cA X (.Subscript ea eb pos) (mBin dkF a b) :=
  pe_w (pe_dget hu ha hb hs) fun σ H Q h => bin_w (r := fun x y H Q => ∃ a v, x = .ref a ∧ DGet H a y (some v) ∧ Q v H) h fun x y H Q ⟨S, ca, d1, d2, f1, f2, d, sub, r1, r2, hg, k⟩ => by
    unfold dkF at hg
    split at hg
    · rename_i z hz
      split at hg
      · rename_i hf
        simp only [Option.some.injEq] at hg
        subst hg
        unfold dkD at hz
        split at hz
        · obtain ⟨p, vs, g, rfl, h1, q, l⟩ := r1.dk sub
          obtain ⟨rfl, _⟩ := r2.s
          obtain ⟨v, g', hv, rv, _⟩ := q.look hz
          exact ⟨p, v, rfl, by rw [← hv]; exact DGet.k (k := Sum.inr _) h1, k.at (rv.f0 (rv.fr0 hf))⟩
        · obtain ⟨p, vs, g, rfl, h1, q, l⟩ := r1.dk sub
          obtain ⟨rfl, _⟩ := r2.i
          obtain ⟨v, g', hv, rv, _⟩ := q.look hz
          exact ⟨p, v, rfl, by rw [← hv]; exact DGet.k (k := Sum.inl _) h1, k.at (rv.f0 (rv.fr0 hf))⟩
        · cases hz
      · cases hg
    · cases hg
/-! ### slices -/
def cutD (xs : List D) (lo hi : Option Int) : List D := (xs.drop (HT.sIx xs.length 0 lo)).take (HT.sIx xs.length xs.length hi - HT.sIx xs.length 0 lo)
def slD : D → Option Int → Option Int → Option D
  | .lst _ xs, lo, hi => if D.frs xs = true then some (.lst true (cutD xs lo hi)) else none
  | .scr ns, lo, hi => some (.lst true (cutD (ns.map D.int) lo hi))
  | .str z, lo, hi => if szOk z.length = true then some (.str (cutS z lo hi)) else none
  | _, _, _ => none
def mPart (o : Option (Mo D)) : Mo (Option Int) := fun env st => match o with
  | none => some (none, env, st)
  | some m => (match m env st with
    | some (.int i, e1, s1) => some (some i, e1, s1)
    | _ => none)
def mSl (a : Od) (lo hi : Option (Mo D)) : Mo D := fun env st => match a with
  | .ex m => (match m env st with
    | some (x, e1, s1) => (match mPart lo e1 s1 with
      | some (l, e2, s2) => (match mPart hi e2 s2 with
        | some (h, e3, s3) => (match slD x l h with
          | some z => some (z, e3, s3)
          | none => none)
        | none => none)
      | none => none)
    | none => none)
  | .nm i => (match peek i env with
    | some _ => (match mPart lo env st with
      | some (l, e2, s2) => (match mPart hi e2 s2 with
        | some (h, e3, s3) => (match look i e3 s3 with
          | some x => (match slD x l h with
            | some z => some (z, e3, s3)
            | none => none)
          | none => none)
        | none => none)
      | none => none)
    | none => none)
theorem Rps.cut {K : PySem.W.Frag} {S H : Hp} {ca : List Addr} {ds : List D} {vs : List V} {f : Fp} (r : Rps K cA S H ca ds vs f) (h : ∀ a, f a = 0) (lo hi : Option Int) : Rps K cA S H ca (cutD ds lo hi) (cutV vs lo hi) (fun _ => 0) := by
  unfold cutD cutV
  rw [r.length]
  obtain ⟨g, r1, l1⟩ := r.drop (HT.sIx ds.length 0 lo)
  obtain ⟨g', r2, l2⟩ := r1.take (HT.sIx ds.length ds.length hi - HT.sIx ds.length 0 lo)
  exact r2.f0 fun a => by have := l1 a; have := l2 a; have := h a; omega
theorem Rps.of_ints {K : PySem.W.Frag} {S H : Hp} {ca : List Addr} : ∀ ns : List Int, Rps K cA S H ca (ns.map D.int) (ns.map V.int) (fun _ => 0)
  | [] => .nil fun _ => rfl
  | n :: ns => .cons rp_int0 (Rps.of_ints ns) fun _ => rfl
theorem sl_of {K : PySem.W.Frag} {S H : Hp} {ca : List Addr} {x d : D} {u : V} {f : Fp} {lo hi : Option Int} {Q : VK} (sub : ∀ a u, S a = some u → H a = some u) (r : Rp K cA S H ca x u f) (h : slD x lo hi = some d) (k : Res K cA S H ca d Q) :
    rSlL K u lo hi H Q ∨ rSlS u lo hi H Q := by
  unfold slD at h
  split at h
  · split at h
    · rename_i hf
      cases h
      obtain ⟨p, vs, g, rfl, h1, q, l⟩ := r.l sub
      exact .inl ⟨p, vs, rfl, SqL.of h1, fun p' np => k.lst sub np (q.cut (q.fr0 hf) lo hi)⟩
    · cases h
  · cases h
    cases r with
    | scr h1 _ => exact .inl ⟨_, _, rfl, sqL_ex sub h1, fun p' np => k.lst sub np (Rps.cut (Rps.of_ints _) (fun _ => rfl) lo hi)⟩
  · split at h
    · rename_i hz
      cases h
      obtain ⟨rfl, _⟩ := r.s
      exact .inr ⟨_, rfl, sz_of hz, k.at rp_str0⟩
    · cases h
  · cases h
/-- a slice's part -/
inductive PPart (cA : Str → Addr) (X : Cx) : Option Expr → Option (Mo D) → Prop
  | no : PPart cA X none none
  | so {e : Expr} {m : Mo D} (h : PD cA X e m) : PPart cA X (some e) (some m)
def tPt (cA : Str → Addr) (o : Option (Mo D)) (K : PySem.W.Frag) : TO := match o with
  | none => tNoPart
  | some m => tPart (tE cA m K)
theorem PPart.po {o : Option Expr} {m : Option (Mo D)} (h : PPart cA X o m) : PO X o (tPt cA m X.K) := by
  cases h with
  | no => exact po_none
  | so h => exact po_some h
theorem part_w {K : PySem.W.Frag} {σ : L2.St} {S H : Hp} {ca : List Addr} {env env' : DEnv} {st st' : Sto} {ow A : Fp} {o : Option (Mo D)} {i : Option Int} {Q : Option Int → Hp → Prop} (t : Sta K cA σ S H env st ca ow A) (hm : mPart o env st = some (i, env', st'))
    (h : ∀ S1 H1 ca1 ow1 A1 f1, Post K cA σ S H ca ow A env' st' r0 S1 H1 ca1 ow1 A1 f1 → Q i H1) : tPt cA o K σ H Q := by
  unfold mPart at hm
  cases o with
  | none =>
    dsimp only at hm
    obtain ⟨rfl, rfl, rfl⟩ := inj3 hm
    exact h _ _ _ _ _ (fun _ => 0) (t.self (fun _ => rfl) fun _ => rfl)
  | some m =>
    dsimp only at hm
    split at hm
    · rename_i i e1 s1 h1
      obtain ⟨rfl, rfl, rfl⟩ := inj3 hm
      exact ⟨S, ca, env, st, ow, A, _, _, _, t, h1, fun v S1 H1 ca1 ow1 A1 f1 p1 => ⟨i, p1.rp.i.1, h _ _ _ _ _ (fun _ => 0) (p1.imp (fun _ _ => rfl) fun _ => Nat.zero_le _)⟩⟩
    · cases hm
theorem pd_sl {e : Expr} {lo hi : Option Expr} {a : Od} {l h : Option (Mo D)} {p2 pos : Pos} (ha : PO' cA X e a) (hl : PPart cA X lo l) (hh : PPart cA X hi h) : PD cA X (.Subscript e (.Slice lo hi none p2) pos) (mSl a l h) :=
  pe_w (pe_slice (SlR.or sl_list sl_str) ha hl.po hh.po) fun σ H Q h => by
    obtain ⟨S, ca, env, st, ow, A, d', env', st', t, hm, q⟩ := h
    unfold mSl at hm
    cases a with
    | ex m =>
      dsimp only at hm
      split at hm
      · rename_i x e1 s1 h1
        split at hm
        · rename_i l e2 s2 h2
          split at hm
          · rename_i hh e3 s3 h3
            split at hm
            · rename_i z hz
              obtain ⟨rfl, rfl, rfl⟩ := inj3 hm
              refine ⟨S, ca, env, st, ow, A, x, e1, s1, t, h1, fun v1 S1 H1 ca1 ow1 A1 f1 p1 => ?_⟩
              refine part_w p1.st h2 fun S2 H2 ca2 ow2 A2 f2 p2 => part_w p2.st h3 fun S3 H3 ca3 ow3 A3 f3 p3 => ?_
              have p := p1.both kp_d (p2.then p3)
              obtain ⟨g1, g2, hg, r1, r2⟩ := p.rp
              exact sl_of p.st.sub r1 hz (p.res q)
            · cases hm
          · cases hm
        · cases hm
      · cases hm
    | nm i =>
      dsimp only at hm
      split at hm
      · rename_i x0 h0
        obtain ⟨v, _, hv, _, _⟩ := t.peek h0
        split at hm
        · rename_i l e2 s2 h2
          split at hm
          · rename_i hh e3 s3 h3
            split at hm
            · rename_i x h4
              split at hm
              · rename_i z hz
                obtain ⟨rfl, rfl, rfl⟩ := inj3 hm
                refine ⟨v, hv, part_w t h2 fun S2 H2 ca2 ow2 A2 f2 p2 => part_w p2.st h3 fun S3 H3 ca3 ow3 A3 f3 p3 => ?_⟩
                obtain ⟨v', f, hv', r⟩ := p3.st.look h4
                rw [hv] at hv'
                cases hv'
                exact sl_of p3.st.sub r hz ((p2.then p3).res q)
              · cases hm
            · cases hm
          · cases hm
        · cases hm
      · cases hm
end
end Fw

set_option Elab.async false
set_option linter.all false
set_option maxRecDepth 100000
namespace Fw
open PySem PySem.Spec PyProof.Rows L2

inductive Fl where
  | nx | bk | ct | rt (d : D)
abbrev Ms := DEnv → Sto → Option (Fl × DEnv × Sto)
section
variable (cA : Str → Addr)
/-- what is behind a statement's end -/
def kS (K : PySem.W.Frag) (D : Ends) (S H : Hp) (ca : List Addr) (ow A : Fp) (fl : Fl) (env' : DEnv) (st' : Sto) : Prop :=
  match fl with
  | .nx => ∀ σ' S' H' ca' ow' A', Post K cA σ' S H ca ow A env' st' r0 S' H' ca' ow' A' (fun _ => 0) → D.nx σ' H'
  | .bk => ∀ σ' S' H' ca' ow' A', Post K cA σ' S H ca ow A env' st' r0 S' H' ca' ow' A' (fun _ => 0) → D.bk σ' H'
  | .ct => ∀ σ' S' H' ca' ow' A', Post K cA σ' S H ca ow A env' st' r0 S' H' ca' ow' A' (fun _ => 0) → D.ct σ' H'
  | .rt d => ∀ v σ' S' H' ca' ow' A' f, Post K cA σ' S H ca ow A env' st' (rD K cA d v) S' H' ca' ow' A' f → D.rt v H'
def tS (m : Ms) (K : PySem.W.Frag) : TS := fun D σ H => ∃ S ca env st ow A fl env' st', Sta K cA σ S H env st ca ow A ∧ m env st = some (fl, env', st') ∧ kS cA K D S H ca ow A fl env' st'
abbrev PDS (X : Cx) (s : Stmt) (m : Ms) : Prop := PS X s (tS cA m X.K)
abbrev PDSs (X : Cx) (s : List Stmt) (m : Ms) : Prop := PSs X s (tS cA m X.K)
end
section
variable {K : PySem.W.Frag} {cA : Str → Addr} {S H S1 H1 : Hp} {ca ca1 : List Addr} {ow A ow1 A1 f : Fp} {σ σ1 : L2.St} {env env1 env' : DEnv} {st st1 st' : Sto} {D : Ends} {fl : Fl} {R : Hp → Hp → List Addr → Fp → Prop}
theorem kS.then (p : Post K cA σ1 S H ca ow A env1 st1 R S1 H1 ca1 ow1 A1 f) (k : kS cA K D S H ca ow A fl env' st') : kS cA K D S1 H1 ca1 ow1 A1 fl env' st' := by
  cases fl with
  | nx => exact fun σ' S' H' ca' ow' A' q => k σ' S' H' ca' ow' A' (p.then q)
  | bk => exact fun σ' S' H' ca' ow' A' q => k σ' S' H' ca' ow' A' (p.then q)
  | ct => exact fun σ' S' H' ca' ow' A' q => k σ' S' H' ca' ow' A' (p.then q)
  | rt d => exact fun v σ' S' H' ca' ow' A' f q => k v σ' S' H' ca' ow' A' f (p.then q)
theorem Post.z0 (p : Post K cA σ S H ca ow A env1 st1 R S1 H1 ca1 ow1 A1 f) : Post K cA σ S H ca ow A env1 st1 r0 S1 H1 ca1 ow1 A1 (fun _ => 0) := p.imp (fun _ _ => rfl) fun _ => Nat.zero_le _
theorem Sta.z0 (t : Sta K cA σ S H env st ca ow A) : Post K cA σ S H ca ow A env st r0 S H ca ow A (fun _ => 0) := t.self (fun _ => rfl) fun _ => rfl
end
section
variable {X : Cx} {cA : Str → Addr}
def mSkip : Ms := fun env st => some (.nx, env, st)
theorem pds_skip : PDSs cA X [] mSkip := pss_w pss_nil fun D σ H ⟨S, ca, env, st, ow, A, fl, env', st', t, hm, k⟩ => by
  obtain ⟨rfl, rfl, rfl⟩ := inj3 hm
  exact k _ _ _ _ _ _ t.z0
def mSeq (a b : Ms) : Ms := fun env st => match a env st with
  | some (.nx, e1, s1) => b e1 s1
  | some (.bk, e1, s1) => some (.bk, e1, s1)
  | some (.ct, e1, s1) => some (.ct, e1, s1)
  | some (.rt d, e1, s1) => some (.rt d, e1, s1)
  | none => none
theorem pds_seq {s : Stmt} {r : List Stmt} {a b : Ms} (ha : PDS cA X s a) (hb : PDSs cA X r b) : PDSs cA X (s :: r) (mSeq a b) :=
  pss_w (pss_cons ha hb) fun D σ H ⟨S, ca, env, st, ow, A, fl, env', st', t, hm, k⟩ => by
    unfold mSeq at hm
    split at hm
    · rename_i e1 s1 h1
      exact ⟨S, ca, env, st, ow, A, .nx, e1, s1, t, h1, fun σ' S' H' ca' ow' A' p => ⟨S', ca', e1, s1, ow', A', fl, env', st', p.st, hm, k.then p⟩⟩
    · rename_i e1 s1 h1
      obtain ⟨rfl, rfl, rfl⟩ := inj3 hm
      exact ⟨S, ca, env, st, ow, A, .bk, _, _, t, h1, k⟩
    · rename_i e1 s1 h1
      obtain ⟨rfl, rfl, rfl⟩ := inj3 hm
      exact ⟨S, ca, env, st, ow, A, .ct, _, _, t, h1, k⟩
    · rename_i d e1 s1 h1
      obtain ⟨rfl, rfl, rfl⟩ := inj3 hm
      exact ⟨S, ca, env, st, ow, A, .rt d, _, _, t, h1, k⟩
    · cases hm
theorem pds_one {s : Stmt} {a : Ms} (ha : PDS cA X s a) : PDSs cA X [s] a := pss_one ha
def mPass : Ms := fun env st => some (.nx, env, st)
def mBreak : Ms := fun env st => some (.bk, env, st)
def mCont : Ms := fun env st => some (.ct, env, st)
def mExpr (m : Mo D) : Ms := fun env st => match m env st with
  | some (_, e1, s1) => some (.nx, e1, s1)
  | none => none
theorem pds_expr {e : Expr} {m : Mo D} {pos : Pos} (h : PD cA X e m) (hs : swapsWith e none pos.line X.env = pure false := by rfl) : PDS cA X (.Expr e pos) (mExpr m) :=
  ps_w (ps_expr h hs) fun D σ H ⟨S, ca, env, st, ow, A, fl, env', st', t, hm, k⟩ => by
    unfold mExpr at hm
    split at hm
    · rename_i d e1 s1 h1
      obtain ⟨rfl, rfl, rfl⟩ := inj3 hm
      exact ⟨S, ca, env, st, ow, A, d, _, _, t, h1, fun v S1 H1 ca1 ow1 A1 f1 p1 => k _ _ _ _ _ _ p1.z0⟩
    · cases hm
def mRet (m : Mo D) : Ms := fun env st => match m env st with
  | some (d, e1, s1) => some (.rt d, e1, s1)
  | none => none
theorem pds_ret {e : Expr} {m : Mo D} {pos : Pos} (h : PD cA X e m) : PDS cA X (.Return (some e) pos) (mRet m) :=
  ps_w (ps_ret h) fun D σ H ⟨S, ca, env, st, ow, A, fl, env', st', t, hm, k⟩ => by
    unfold mRet at hm
    split at hm
    · rename_i d e1 s1 h1
      obtain ⟨rfl, rfl, rfl⟩ := inj3 hm
      exact ⟨S, ca, env, st, ow, A, d, _, _, t, h1, fun v S1 H1 ca1 ow1 A1 f1 p1 => k v _ _ _ _ _ _ _ p1⟩
    · cases hm
def mIte (c : Mo D) (a b : Ms) : Ms := fun env st => match c env st with
  | some (.bl k, e1, s1) => if k = true then a e1 s1 else b e1 s1
  | _ => none
theorem pds_if {c : Expr} {a b : List Stmt} {mc : Mo D} {ma mb : Ms} {pos : Pos} (hc : PB cA X c mc) (ha : PDSs cA X a ma) (hb : PDSs cA X b mb) : PDS cA X (.If c a b pos) (mIte mc ma mb) :=
  ps_w (ps_if hc ha hb) fun D σ H ⟨S, ca, env, st, ow, A, fl, env', st', t, hm, k⟩ => by
    unfold mIte at hm
    split at hm
    · rename_i c e1 s1 h1
      refine ⟨S, ca, env, st, ow, A, _, _, _, t, h1, fun v S1 H1 ca1 ow1 A1 f1 p1 => ⟨c, p1.rp.b.1, ?_⟩⟩
      split at hm
      · rw [if_pos (by assumption)]
        exact ⟨S1, ca1, e1, s1, ow1, A1, fl, env', st', p1.st, hm, k.then p1⟩
      · rw [if_neg (by assumption)]
        exact ⟨S1, ca1, e1, s1, ow1, A1, fl, env', st', p1.st, hm, k.then p1⟩
    · cases hm
/-! ### stores -/
theorem Post.store {K : PySem.W.Frag} {S H S1 H1 : Hp} {ca ca1 : List Addr} {ow A ow1 A1 f : Fp} {σ : L2.St} {env1 : DEnv} {st1 : Sto} {d : D} {v : V} {i : Nat} (p : Post K cA σ S H ca ow A env1 st1 (rD K cA d v) S1 H1 ca1 ow1 A1 f) (hi : i < env1.length) :
    ∃ ow', Post K cA (σ.set i (some v)) S H ca ow A (env1.set i (some d)) st1 r0 S1 H1 ca1 ow' A1 (fun _ => 0) := by
  obtain ⟨g, h1, h2⟩ := p.st.e.store (i := i) hi p.rp
  refine ⟨_, p.tr, ⟨h1, p.st.c, p.st.sub, fun a => ?_⟩, fun _ => rfl, fun a => ?_, fun a q => ?_⟩
  · have := p.le a; have := h2 a; show f a + g a + A1 a ≤ 1; omega
  · have := p.le a; have := h2 a; show f a + g a + A1 a + 0 ≤ 1; omega
  · have q : f a + g a + A1 a + 0 ≠ 0 := q
    have := h2 a
    exact p.fo a (by omega)
def mSet (i : Nat) (m : Mo D) : Ms := fun env st => match m env st with
  | some (d, e1, s1) => if i < e1.length then some (.nx, e1.set i (some d), s1) else none
  | none => none
theorem pds_set {i : Nat} {x : Str} {e : Expr} {m : Mo D} {pos pos' : Pos} (hN : X.N.Nodup) (hi : X.N[i]? = some x) (hx : Loc X.env.scope x) (h : PD cA X e m) (hs : swapsWith e (some (.Name x pos')) pos.line X.env = pure false := by rfl)
    (hf : X.fn x = true ∨ X.env.scope.names.lookup x = some .local := by first | exact .inl rfl | exact .inr rfl | assumption) : PDS cA X (.Assign [.Name x pos'] e pos) (mSet i m) :=
  ps_w (ps_set hN hi hx h hs hf) fun D σ H ⟨S, ca, env, st, ow, A, fl, env', st', t, hm, k⟩ => by
    unfold mSet at hm
    split at hm
    · rename_i d e1 s1 h1
      split at hm
      · rename_i hl
        obtain ⟨rfl, rfl, rfl⟩ := inj3 hm
        refine ⟨S, ca, env, st, ow, A, d, e1, _, t, h1, fun v S1 H1 ca1 ow1 A1 f1 p1 => ?_⟩
        obtain ⟨ow', p2⟩ := p1.store hl
        exact k _ _ _ _ _ _ p2
      · cases hm
    · cases hm
/-! ### targets -/
abbrev Bi := D → DEnv → Option DEnv
/-- only the slots of sl differ -/
structure Chg (sl : List Nat) (σ σ' : L2.St) : Prop where
  len : σ'.length = σ.length
  at_ : ∀ j, j ∉ sl → σ'[j]? = σ[j]?
theorem Chg.refl {sl : List Nat} (σ : L2.St) : Chg sl σ σ := ⟨rfl, fun _ _ => rfl⟩
theorem Chg.trans {sl : List Nat} {σ σ1 σ2 : L2.St} (a : Chg sl σ σ1) (b : Chg sl σ1 σ2) : Chg sl σ σ2 := ⟨b.len.trans a.len, fun j h => (b.at_ j h).trans (a.at_ j h)⟩
def tGd (cA : Str → Addr) (b : Bi) (sl : List Nat) (K : PySem.W.Frag) : TG := fun v σ H Q => ∃ S ca env st ow A d f env', Sta K cA σ S H env st ca ow A ∧ Rp K cA S H ca d v f ∧ (∀ a, ow a + A a + f a ≤ 1) ∧ b d env = some env' ∧
  ∀ σ' ow', Sta K cA σ' S H env' st ca ow' A → (∀ a, ow' a ≤ ow a + f a) → Chg sl σ σ' → Q σ' H
theorem pg_w {X : Cx} {e : Expr} {t t' : TG} (h : PG X e t) (i : ∀ v σ H Q, t' v σ H Q → t v σ H Q) : PG X e t' := ⟨fun pins s σ H v u Q I r q => h.run pins s σ H v u Q I r (i v σ H Q q)⟩
theorem pgs_w {X : Cx} {e : List Expr} {t t' : TGs} (h : PGs X e t) (i : ∀ v σ H Q, t' v σ H Q → t v σ H Q) : PGs X e t' := ⟨fun pins s σ H v u Q I r q => h.run pins s σ H v u Q I r (i v σ H Q q)⟩
abbrev PGd (cA : Str → Addr) (X : Cx) (e : Expr) (b : Bi) (sl : List Nat) : Prop := PG X e (tGd cA b sl X.K)
def bName (i : Nat) : Bi := fun d env => if i < env.length then some (env.set i (some d)) else none
theorem pgd_name {i : Nat} {sl : List Nat} {x : Str} {pos : Pos} (hin : i ∈ sl) (hN : X.N.Nodup) (hi : X.N[i]? = some x) (hx : Loc X.env.scope x) (hf : X.fn x = true ∨ X.env.scope.names.lookup x = some .local := by first | exact .inl rfl | exact .inr rfl | assumption) : PGd cA X (.Name x pos) (bName i) sl :=
  pg_w (pg_name hN hi hx hf) fun v σ H Q ⟨S, ca, env, st, ow, A, d, f, env', t, r, le, hb, k⟩ => by
    unfold bName at hb
    split at hb
    · rename_i hl
      cases hb
      obtain ⟨g, h1, h2⟩ := t.e.store (i := i) hl r
      refine k _ _ ⟨h1, t.c, t.sub, fun a => ?_⟩ (fun a => ?_) ⟨by rw [List.length_set], fun j hj => List.getElem?_set_ne (fun e : i = j => hj (e ▸ hin))⟩
      · have := le a; have := h2 a; show f a + g a + A a ≤ 1; omega
      · have := h2 a; show f a + g a ≤ ow a + f a; omega
    · cases hb
abbrev Bis := List D → DEnv → Option DEnv
def tGds (cA : Str → Addr) (b : Bis) (sl : List Nat) (K : PySem.W.Frag) : TGs := fun vs σ H Q => ∃ S ca env st ow A ds f env', Sta K cA σ S H env st ca ow A ∧ Rps K cA S H ca ds vs f ∧ (∀ a, ow a + A a + f a ≤ 1) ∧ b ds env = some env' ∧
  ∀ σ' ow', Sta K cA σ' S H env' st ca ow' A → (∀ a, ow' a ≤ ow a + f a) → Chg sl σ σ' → Q σ' H
def bsNil : Bis := fun ds env => match ds with
  | [] => some env
  | _ => none
def bsCons (b : Bi) (r : Bis) : Bis := fun ds env => match ds with
  | d :: ds => (match b d env with
    | some e1 => r ds e1
    | none => none)
  | [] => none
theorem pgds_nil {sl : List Nat} : PGs X [] (tGds cA bsNil sl X.K) := pgs_w pgs_nil fun vs σ H Q ⟨S, ca, env, st, ow, A, ds, f, env', t, r, le, hb, k⟩ => by
  unfold bsNil at hb
  split at hb
  · cases hb
    cases r with
    | nil _ => exact ⟨rfl, k _ _ t (fun a => by omega) (Chg.refl _)⟩
  · cases hb
theorem pgds_cons {e : Expr} {es : List Expr} {b : Bi} {r : Bis} {sl : List Nat} (h1 : PGd cA X e b sl) (h2 : PGs X es (tGds cA r sl X.K))
    (hs : (assignEach (e :: es) X.env).map (·.2) = assign e X.env :: (assignEach es X.env).map (·.2) := by rfl) : PGs X (e :: es) (tGds cA (bsCons b r) sl X.K) :=
  pgs_w (pgs_cons h1 h2 hs) fun vs σ H Q ⟨S, ca, env, st, ow, A, ds, f, env', t, rp, le, hb, k⟩ => by
    unfold bsCons at hb
    split at hb
    · rename_i d ds
      split at hb
      · rename_i e1 he
        cases rp with
        | @cons _ v _ vs f1 f2 _ r1 r2 hh =>
          refine ⟨v, vs, rfl, S, ca, env, st, ow, A, d, f1, e1, t, r1, fun a => by have := le a; rw [hh] at this; omega, he, fun σ' ow' t' l' c' => ?_⟩
          refine ⟨S, ca, e1, st, ow', A, ds, f2, env', t', r2, fun a => by have := le a; have := l' a; rw [hh] at *; omega, hb, fun σ2 ow2 t2 l2 c2 => k σ2 ow2 t2 (fun a => ?_) (c'.trans c2)⟩
          have := l2 a; have := l' a; rw [hh]; omega
      · cases hb
    · cases hb
def bTup (n : Nat) (bs : Bis) : Bi := fun d env => match d with
  | .tup ds => if ds.length = n then bs ds env else none
  | _ => none
theorem pgd_tup {es : List Expr} {k : Nat} {pos : Pos} {bs : Bis} {n : Nat} {sl : List Nat} (hc : X.calm = true) (h : PGs X es (tGds cA bs sl X.K))
    (hn : (assignEach es X.env).length = n := by rfl) (hst : (assignEach es X.env).findIdx? (·.1) = none := by rfl) : PGd cA X (.Tuple es k pos) (bTup n bs) sl :=
  pg_w (pg_tup hc h hn hst) fun v σ H Q ⟨S, ca, env, st, ow, A, d, f, env', t, r, le, hb, k⟩ => by
    unfold bTup at hb
    split at hb
    · split at hb
      · rename_i ds hl
        obtain ⟨p, vs, rfl, h1, q⟩ := r.t
        exact ⟨p, vs, rfl, h1, by rw [q.length]; exact hl, S, ca, env, st, ow, A, ds, f, env', t, q, le, hb, k⟩
      · cases hb
    · cases hb
/-- target = value -/
def mAsg (b : Bi) (m : Mo D) : Ms := fun env st => match m env st with
  | some (d, e1, s1) => (match b d e1 with
    | some e2 => some (.nx, e2, s1)
    | none => none)
  | none => none
theorem pds_asg {tg e : Expr} {b : Bi} {m : Mo D} {sl : List Nat} {pos : Pos} (h : PD cA X e m) (hg : PGd cA X tg b sl) (hs : swapsWithSole [tg] e pos.line X.env = pure false := by rfl) (hw : swappedStores [tg] e X.env = pure none := by rfl)
    (h1 : (assignEach [tg] X.env).map (·.2) = [assign tg X.env] := by rfl) : PDS cA X (.Assign [tg] e pos) (mAsg b m) :=
  ps_w (ps_asg h hg hs hw h1) fun D σ H ⟨S, ca, env, st, ow, A, fl, env', st', t, hm, k⟩ => by
    unfold mAsg at hm
    split at hm
    · rename_i d e1 s1 h1
      split at hm
      · rename_i e2 he
        obtain ⟨rfl, rfl, rfl⟩ := inj3 hm
        refine ⟨S, ca, env, st, ow, A, d, e1, _, t, h1, fun v S1 H1 ca1 ow1 A1 f1 p1 => ?_⟩
        refine ⟨S1, ca1, e1, _, ow1, A1, d, f1, _, p1.st, p1.rp, p1.le, he, fun σ' ow' t' l' _ => ?_⟩
        refine k σ' S1 H1 ca1 ow' A1 ⟨p1.tr, t', fun _ => rfl, fun a => by have := t'.dis a; omega, fun a q => ?_⟩
        have := l' a
        have q : ow' a + A1 a + 0 ≠ 0 := q
        exact p1.fo a (by omega)
      · cases hm
    · cases hm
/-- name op= value -/
def mAug (i : Nat) (g : D → D → Option D) (m : Mo D) : Ms := fun env st => match peek i env with
  | some x => (match m env st with
    | some (y, e1, s1) => (match g x y with
      | some z => if i < e1.length ∧ x.fr = true then some (.nx, e1.set i (some z), s1) else none
      | none => none)
    | none => none)
  | none => none
end
end Fw

set_option Elab.async false
set_option linter.all false
set_option maxRecDepth 100000
namespace Fw
open PySem PySem.Spec PyProof.Rows L2

/-! ### what a loop goes over -/
/-- the walk J hands out the values items, one after another, as long as what stood at the start stays -/
structure Srv (K : PySem.W.Frag) (cA : Str → Addr) (J : It) (L : Fp) (S₀ H₀ : Hp) (ca₀ : List Addr) (items : List D) : Prop where
  go : ∀ {i : Nat} {d : D} {S H : Hp} {ca : List Addr}, items[i]? = some d → Tr L S₀ H₀ S H ca₀ ca → (∀ a o, S a = some o → H a = some o) → J.go i H
  yl : ∀ {i : Nat} {d : D} {S H H' : Hp} {ca : List Addr} {x : V}, items[i]? = some d → Tr L S₀ H₀ S H ca₀ ca → (∀ a o, S a = some o → H a = some o) → J.yld i H x H' → Grow H H' ∧ Rp K cA S H' ca d x (fun _ => 0)
  stop : ∀ {i : Nat} {S H : Hp} {ca : List Addr}, items.length ≤ i → Tr L S₀ H₀ S H ca₀ ca → (∀ a o, S a = some o → H a = some o) → J.stop i H
def tI (cA : Str → Addr) (m : Mo (List D)) (K : PySem.W.Frag) : TI := fun σ H R => ∃ S ca env st ow A items env' st', Sta K cA σ S H env st ca ow A ∧ m env st = some (items, env', st') ∧
  ∀ J S' H' ca' ow' A', Post K cA σ S H ca ow A env' st' r0 S' H' ca' ow' A' (fun _ => 0) → Srv K cA J (fun a => ow' a + A' a) S' H' ca' items → R J H'
abbrev PId (cA : Str → Addr) (X : Cx) (tg iter : Expr) (m : Mo (List D)) : Prop := PI X tg iter (tI cA m X.K)
theorem pi_w {X : Cx} {tg e : Expr} {t t' : TI} (h : PI X tg e t) (i : ∀ σ H R, t' σ H R → t σ H R) : PI X tg e t' := ⟨fun pins s σ H R I q => h.run pins s σ H R I (i σ H R q)⟩
section
variable {K : PySem.W.Frag} {cA : Str → Addr} {S H S1 H1 : Hp} {ca ca1 : List Addr} {ow A ow1 A1 f g : Fp} {σ : L2.St} {env1 : DEnv} {st1 : Sto} {d : D} {v : V} {ds : List D} {vs : List V} {p : Addr} {L : Fp}
/-- a value made on the way is shared from now on -/
theorem Post.frz (q : Post K cA σ S H ca ow A env1 st1 (rD K cA d v) S1 H1 ca1 ow1 A1 f) (nb : d.nob = true) : Post K cA σ S H ca ow A env1 st1 (rD K cA d.fz v) (frzS f S1 H1) H1 ca1 ow1 A1 (fun _ => 0) where
  tr := q.tr.trans (frz_tr (ca := ca1) q.rp.own) fun a h => q.fo a (by omega)
  st := ⟨q.st.e.keep (frz_tr (ca := ca1) q.rp.own) fun a h => by have := q.le a; omega, q.st.c.keep (frz_tr (ca := ca1) q.rp.own) fun a h => by have := q.le a; omega, frz_sub q.st.sub, q.st.dis⟩
  rp := q.rp.frz (frz_tr (ca := ca1) (H := H1) q.rp.own).ex (frz_at f S1 H1) nb
  le := fun a => by have := q.le a; show ow1 a + A1 a + 0 ≤ 1; omega
  fo := fun a h => q.fo a (by have h : ow1 a + A1 a + 0 ≠ 0 := h; omega)
theorem Post.frzs (q : Post K cA σ S H ca ow A env1 st1 (rDs K cA ds vs) S1 H1 ca1 ow1 A1 f) (nb : D.nobs ds = true) : Post K cA σ S H ca ow A env1 st1 (rDs K cA (D.fzs ds) vs) (frzS f S1 H1) H1 ca1 ow1 A1 (fun _ => 0) where
  tr := q.tr.trans (frz_tr (ca := ca1) q.rp.own) fun a h => q.fo a (by omega)
  st := ⟨q.st.e.keep (frz_tr (ca := ca1) q.rp.own) fun a h => by have := q.le a; omega, q.st.c.keep (frz_tr (ca := ca1) q.rp.own) fun a h => by have := q.le a; omega, frz_sub q.st.sub, q.st.dis⟩
  rp := q.rp.frz (frz_tr (ca := ca1) (H := H1) q.rp.own).ex (frz_at f S1 H1) nb
  le := fun a => by have := q.le a; show ow1 a + A1 a + 0 ≤ 1; omega
  fo := fun a h => q.fo a (by have h : ow1 a + A1 a + 0 ≠ 0 := h; omega)
/-- the walks over a shared list, a tuple of shared values, the script, a text, a range -/
theorem srv_list (h : S p = some (.lst vs)) (sub : ∀ a o, S a = some o → H a = some o) (r : Rps K cA S H ca ds vs g) (g0 : ∀ a, g a = 0) : Srv K cA (Itl K p) L S H ca ds where
  go := fun {i d S' H' ca'} e t s => by
    obtain ⟨v, _, hv, _, _⟩ := r.get e
    exact ⟨vs, v, SqL.of (s _ _ (t.ex _ _ h)), hv⟩
  yl := fun {i d S' H' H2 ca' x} e t s y => by
    obtain ⟨rfl, y⟩ := y
    obtain ⟨v, g', hv, rv, l⟩ := r.get e
    have z := y vs (SqL.of (s _ _ (t.ex _ _ h)))
    rw [hv] at z
    cases z
    have f0 : ∀ a, g' a = 0 := fun a => by have := l a; have := g0 a; omega
    exact ⟨Grow.refl _, (rv.keep t fun a q => absurd (f0 a) q).f0 f0⟩
  stop := fun {i S' H' ca'} e t s => ⟨vs, SqL.of (s _ _ (t.ex _ _ h)), by rw [r.length]; exact e⟩
theorem srv_tup (h : SqT K H p vs) (r : Rps K cA S H ca ds vs g) (g0 : ∀ a, g a = 0) : Srv K cA (Itt K p) L S H ca ds where
  go := fun {i d S' H' ca'} e t s => by
    obtain ⟨v, _, hv, _, _⟩ := r.get e
    exact ⟨vs, v, sqT_fix t.fix h, hv⟩
  yl := fun {i d S' H' H2 ca' x} e t s y => by
    obtain ⟨rfl, y⟩ := y
    obtain ⟨v, g', hv, rv, l⟩ := r.get e
    have z := y vs (sqT_fix t.fix h)
    rw [hv] at z
    cases z
    have f0 : ∀ a, g' a = 0 := fun a => by have := l a; have := g0 a; omega
    exact ⟨Grow.refl _, (rv.keep t fun a q => absurd (f0 a) q).f0 f0⟩
  stop := fun {i S' H' ca'} e t s => ⟨vs, sqT_fix t.fix h, by rw [r.length]; exact e⟩
theorem srv_scr {ns : List Int} (h : SqL K S p (ns.map V.int)) (sub : ∀ a o, S a = some o → H a = some o) : Srv K cA (Itl K p) L S H ca (ns.map D.int) where
  go := fun {i d S' H' ca'} e t s => by
    rw [List.getElem?_map] at e
    cases q : ns[i]? with
    | none => rw [q] at e; cases e
    | some n => exact ⟨_, .int n, sqL_ex s (sqL_ex t.ex h), by rw [List.getElem?_map, q]; rfl⟩
  yl := fun {i d S' H' H2 ca' x} e t s y => by
    obtain ⟨rfl, y⟩ := y
    have z := y _ (sqL_ex s (sqL_ex t.ex h))
    rw [List.getElem?_map] at e z
    cases q : ns[i]? with
    | none => rw [q] at e; cases e
    | some n =>
      rw [q] at e z
      cases e
      cases z
      exact ⟨Grow.refl _, rp_int0⟩
  stop := fun {i S' H' ca'} e t s => ⟨_, sqL_ex s (sqL_ex t.ex h), by simpa using e⟩
def signsOf (x : Str) : List D := x.cps.toList.map fun c => .str ⟨#[c]⟩
theorem srv_str {x : Str} : Srv K cA (Its x) L S H ca (signsOf x) where
  go := fun {i d S' H' ca'} e t s => by
    unfold signsOf at e
    rw [List.getElem?_map] at e
    show i < x.cps.size
    cases q : x.cps.toList[i]? with
    | none => rw [q] at e; cases e
    | some c => simpa using (List.getElem?_eq_some_iff.mp q).1
  yl := fun {i d S' H' H2 ca' y} e t s z => by
    unfold signsOf at e
    rw [List.getElem?_map] at e
    obtain ⟨rfl, c, hc, rfl⟩ := z
    have hc' : x.cps.toList[i]? = some c := by simpa using hc
    rw [hc'] at e
    cases e
    exact ⟨Grow.refl _, rp_str0⟩
  stop := fun {i S' H' ca'} e t s => by
    show x.cps.size ≤ i
    unfold signsOf at e
    simpa using e
def rangeOf (lo : Int) (n : Nat) : List D := (List.range n).map fun (i : Nat) => D.int (lo + (i : Int))
theorem srv_range {lo : Int} {n : Nat} : Srv K cA (Itr lo n) L S H ca (rangeOf lo n) where
  go := fun {i d S' H' ca'} e t s => by
    unfold rangeOf at e
    rw [List.getElem?_map] at e
    show i < n
    cases q : (List.range n)[i]? with
    | none => rw [q] at e; cases e
    | some c => simpa using (List.getElem?_eq_some_iff.mp q).1
  yl := fun {i d S' H' H2 ca' y} e t s z => by
    unfold rangeOf at e
    rw [List.getElem?_map] at e
    obtain ⟨rfl, rfl⟩ := z
    cases q : (List.range n)[i]? with
    | none => rw [q] at e; cases e
    | some c =>
      rw [q] at e
      cases e
      obtain ⟨h1, h2⟩ := List.getElem?_eq_some_iff.mp q
      rw [List.getElem_range] at h2
      subst h2
      exact ⟨Grow.refl _, rp_int0⟩
  stop := fun {i S' H' ca'} e t s => by
    show n ≤ i
    unfold rangeOf at e
    simpa using e
end
section
variable {X : Cx} {cA : Str → Addr}
/-- a list, a tuple or a text that is walked -/
def iSq (K : PySem.W.Frag) (tl : TE) : TI := fun σ H R => tl σ H fun x H1 => (∃ a, x = .ref a ∧ (∃ xs, SqL K H1 a xs) ∧ R (Itl K a) H1) ∨ (∃ a, x = .ref a ∧ (∃ xs, SqT K H1 a xs) ∧ R (Itt K a) H1) ∨ ∃ z, x = .str z ∧ R (Its z) H1
theorem pi_sq {tg e : Expr} {te : TE} (he : PE X e te) : PI X tg e (iSq X.K te) := by
  refine ⟨fun pins s σ H R I h => thn (he.run pins s σ H _ I h) fun v s1 ⟨x, H1, I1, r1, q1⟩ => ?_⟩
  have new : ∀ b ∈ [s1.heap.objs.size], FpOk X pins H1 b := fun b hb => by
    rcases List.mem_singleton.mp hb with rfl
    exact I1.fpOk (Nat.le_refl _) (I1.hok.fresh (Nat.le_refl _))
  rcases q1 with ⟨a, rfl, ⟨xs, hq⟩, q⟩ | ⟨a, rfl, ⟨xs, hq⟩, q⟩ | ⟨z, rfl, q⟩
  · cases r1
    obtain ⟨its, _, pl, _⟩ := I1.list hq
    exact wpAny_pyIter_list pl.isList ⟨_, [s1.heap.objs.size], _, _, H1, rfl, I1.kept (t' := s1.toks) fun b o e => Heap.get?_push_of_some _ e, turn_list a _, ⟨_, Heap.get?_push_size _ rfl, rfl, rfl⟩, new, q⟩
  · cases r1
    obtain ⟨its, _, pl, _⟩ := I1.tuple hq
    exact wpAny_pyIter_tuple (show s1.heap.IsTuple a its.toArray from pl) ⟨_, [s1.heap.objs.size], _, _, H1, rfl, I1.kept (t' := s1.toks) fun b o e => Heap.get?_push_of_some _ e, turn_tuple a _, ⟨_, Heap.get?_push_size _ rfl, rfl, rfl⟩, new, q⟩
  · obtain ⟨t, rfl⟩ := r1
    cases ha : z.cps.all (· < 128) with
    | false => exact wpAny_pyIter_wide ha (pi_one (tk := s1.toks) I1 _ (turn_str _ z t "str_iterator" (.inr rfl)) ⟨_, Heap.get?_push_size _ rfl, rfl, rfl⟩ q)
    | true => exact wpAny_pyIter_ascii ha (pi_one (tk := s1.toks) I1 _ (turn_str _ z t "str_ascii_iterator" (.inl rfl)) ⟨_, Heap.get?_push_size _ rfl, rfl, rfl⟩ q)
def itemsD : D → Option (List D)
  | .lst _ xs => some xs
  | .tup xs => some xs
  | .str x => some (signsOf x)
  | .scr ns => some (ns.map D.int)
  | _ => none
/-- over a value: it is shared from now on -/
def mIt (a : Mo D) : Mo (List D) := fun env st => match a env st with
  | some (d, e1, s1) => if d.nob = true then (match itemsD d.fz with
    | some xs => some (xs, e1, s1)
    | none => none) else none
  | none => none
theorem pid_val {tg e : Expr} {a : Mo D} (h : PD cA X e a) : PId cA X tg e (mIt a) :=
  pi_w (pi_sq h) fun σ H R ⟨S, ca, env, st, ow, A, items, env', st', t, hm, k⟩ => by
    unfold mIt at hm
    split at hm
    · rename_i d e1 s1 h1
      split at hm
      · rename_i nb
        split at hm
        · rename_i xs hx
          obtain ⟨rfl, rfl, rfl⟩ := inj3 hm
          refine ⟨S, ca, env, st, ow, A, d, _, _, t, h1, fun v S1 H1 ca1 ow1 A1 f1 p1 => ?_⟩
          have p2 := p1.frz nb
          have r := p2.rp
          have k2 := fun J => k J _ _ _ _ _ (p2.z0)
          unfold itemsD at hx
          split at hx
          · rename_i o xs' e
            cases hx
            rw [e] at r
            cases r with
            | @lstO p _ _ _ g h hs r hf =>
              have z := hf p
              rw [if_pos rfl] at z
              have z : 0 = 1 + g p := z
              omega
            | lstS h r hg hf => exact .inl ⟨_, rfl, ⟨_, SqL.of (p2.st.sub _ _ h)⟩, k2 _ (srv_list h p2.st.sub r hg)⟩
          · rename_i xs' e
            cases hx
            rw [e] at r
            obtain ⟨p, vs, rfl, h, q⟩ := r.t
            exact .inr (.inl ⟨_, rfl, ⟨_, h⟩, k2 _ (srv_tup h q fun _ => rfl)⟩)
          · rename_i x e
            cases hx
            rw [e] at r
            obtain ⟨rfl, _⟩ := r.s
            exact .inr (.inr ⟨x, rfl, k2 _ srv_str⟩)
          · rename_i ns e
            cases hx
            rw [e] at r
            cases r with
            | scr h hf => exact .inl ⟨_, rfl, ⟨_, sqL_ex p2.st.sub h⟩, k2 _ (srv_scr h p2.st.sub)⟩
          · cases hx
        · cases hm
      · cases hm
    · cases hm
def smallI (i : Int) : Bool := decide (-(2 ^ 62) ≤ i ∧ i < 2 ^ 62)
def mRng1 (a : Mo (List D)) : Mo (List D) := fun env st => match a env st with
  | some ([.int j], e1, s1) => if smallI j = true then some (rangeOf 0 j.toNat, e1, s1) else none
  | _ => none
def mRng2 (a : Mo (List D)) : Mo (List D) := fun env st => match a env st with
  | some ([.int i, .int j], e1, s1) => if smallI i = true ∧ smallI j = true then some (rangeOf i (j - i).toNat, e1, s1) else none
  | _ => none
theorem Rps.one {K : PySem.W.Frag} {S H : Hp} {ca : List Addr} {d : D} {vs : List V} {f : Fp} (r : Rps K cA S H ca [d] vs f) : ∃ v g, vs = [v] ∧ Rp K cA S H ca d v g ∧ ∀ a, g a ≤ f a := by
  cases r with
  | cons r t hh => cases t with | nil h0 => exact ⟨_, _, rfl, r, fun a => by rw [hh]; omega⟩
theorem Rps.two {K : PySem.W.Frag} {S H : Hp} {ca : List Addr} {d e : D} {vs : List V} {f : Fp} (r : Rps K cA S H ca [d, e] vs f) : ∃ v w g h, vs = [v, w] ∧ Rp K cA S H ca d v g ∧ Rp K cA S H ca e w h ∧ ∀ a, f a = g a + h a := by
  cases r with
  | cons r t hh => cases t with | cons r' t hh' => cases t with | nil h0 => exact ⟨_, _, _, _, rfl, r, r', fun a => by rw [hh, hh', h0]; rfl⟩
theorem pid_range1 {tg a : Expr} {m : Mo (List D)} {p pos : Pos} (hg : Gl X "range") (hm : X.mg "range" = none) (ha : PDs cA X [a] m) (hs : starEach [a] X.env = [(false, eval a X.env)] := by rfl) : PId cA X tg (.Call (.Name "range" p) [a] [] pos) (mRng1 m) :=
  pi_w (pi_range1 hg hm ha hs) fun σ H R ⟨S, ca, env, st, ow, A, items, env', st', t, hm, k⟩ => by
    unfold mRng1 at hm
    split at hm
    · rename_i j e1 s1 h1
      split at hm
      · rename_i hj
        obtain ⟨rfl, rfl, rfl⟩ := inj3 hm
        refine ⟨S, ca, env, st, ow, A, _, _, _, t, h1, fun vs S1 H1 ca1 ow1 A1 f1 p1 => ?_⟩
        obtain ⟨v, g, rfl, r, _⟩ := p1.rp.one
        obtain ⟨rfl, _⟩ := r.i
        have hj := of_decide_eq_true hj
        exact ⟨j, rfl, hj.1, hj.2, k _ _ _ _ _ _ p1.z0 srv_range⟩
      · cases hm
    · cases hm
/-! ### for -/
def forL (b : Bi) (body : Ms) : List D → Ms
  | [], env, st => some (.nx, env, st)
  | d :: ds, env, st => match b d env with
    | some e1 => (match body e1 st with
      | some (.nx, e2, s2) => forL b body ds e2 s2
      | some (.ct, e2, s2) => forL b body ds e2 s2
      | some (.bk, e2, s2) => some (.nx, e2, s2)
      | some (.rt r, e2, s2) => some (.rt r, e2, s2)
      | none => none)
    | none => none
def mFor (m : Mo (List D)) (b : Bi) (body : Ms) : Ms := fun env st => match m env st with
  | some (items, e1, s1) => forL b body items e1 s1
  | none => none
theorem pds_for {tg iter : Expr} {body : List Stmt} {m : Mo (List D)} {b : Bi} {mb : Ms} {sl : List Nat} {pos : Pos} (hp : PassesOwn (model X.prog X.w) X.A X.env X.xe) (hc : X.calm = true) (hi : PId cA X tg iter m) (hg : PGd cA X tg b sl) (hb : PDSs cA X body mb)
    (hs : ∀ x, foldedSetIterable iter X.env x = pure x := by intro _; rfl) : PDS cA X (.For tg iter body [] pos) (mFor m b mb) :=
  ps_w (ps_for hp hc hi hg hb hs) fun D σ H ⟨S, ca, env, st, ow, A, fl, env', st', t, hm, k⟩ => by
    unfold mFor at hm
    split at hm
    · rename_i items e1 s1 h1
      refine ⟨S, ca, env, st, ow, A, items, e1, s1, t, h1, fun J S0 H0 ca0 ow0 A0 p0 sv => ?_⟩
      refine ⟨fun i n σ' H' => ∃ S' ca' env1 st1 ow' A', Post X.K cA σ' S H ca ow A env1 st1 r0 S' H' ca' ow' A' (fun _ => 0) ∧ Tr (fun a => ow0 a + A0 a) S0 H0 S' H' ca0 ca' ∧ (∀ a, ow' a + A' a ≠ 0 → ow0 a + A0 a ≠ 0 ∨ H0 a = none) ∧
        n = items.length - i ∧ i ≤ items.length ∧ forL b mb (items.drop i) env1 st1 = some (fl, env', st'), ⟨items.length, S0, ca0, e1, s1, ow0, A0, p0, .refl, fun a h => .inl h, rfl, Nat.zero_le _, hm⟩, ?_⟩
      rintro i n σ' H' ⟨S', ca', env1, st1, ow', A', p, tr, fo, hn, hi, hf⟩
      by_cases hlt : i < items.length
      · have hget : items[i]? = some items[i] := List.getElem?_eq_getElem hlt
        rw [List.drop_eq_getElem_cons hlt] at hf
        unfold forL at hf
        split at hf
        · rename_i e2 he2
          refine .inr ⟨sv.go hget tr p.st.sub, fun σ2 H2 => ∃ S2 ca2 env2 st2 ow2 A2, Post X.K cA σ2 S H ca ow A env2 st2 r0 S2 H2 ca2 ow2 A2 (fun _ => 0) ∧ Tr (fun a => ow0 a + A0 a) S0 H0 S2 H2 ca0 ca2 ∧ (∀ a, ow2 a + A2 a ≠ 0 → ow0 a + A0 a ≠ 0 ∨ H0 a = none) ∧
            forL b mb (items.drop (i + 1)) env2 st2 = some (fl, env', st'), fun σ2 H2 ⟨S2, ca2, env2, st2, ow2, A2, p2, tr2, fo2, hf2⟩ => ⟨items.length - (i + 1), by omega, S2, ca2, env2, st2, ow2, A2, p2, tr2, fo2, rfl, hlt, hf2⟩, fun x H2 hy => ?_⟩
          obtain ⟨gr, rx⟩ := sv.yl hget tr p.st.sub hy
          -- the state with the item
          have pg : Post X.K cA σ' S H ca ow A env1 st1 (rD X.K cA items[i] x) S' H2 ca' ow' A' (fun _ => 0) := p.grow gr rx (fun _ => Nat.zero_le _) fun _ h => absurd rfl h
          have tg' : Tr (fun a => ow0 a + A0 a) S0 H0 S' H2 ca0 ca' := tr.trans (L1 := fun _ => 0) (tr_grow gr) fun a h => absurd rfl h
          refine ⟨S', ca', env1, st1, ow', A', items[i], fun _ => 0, e2, pg.st, pg.rp, fun a => pg.le a, he2, fun σ2 ow2 t2 l2 _ => ?_⟩
          have fo' : ∀ a, ow2 a + A' a ≠ 0 → ow' a + A' a ≠ 0 ∨ H2 a = none := fun a h => by
            have := l2 a
            have z : ow2 a ≤ ow' a + 0 := this
            exact .inl (by omega)
          have step : ∀ {σ3 : L2.St} {S3 H3 : Hp} {ca3 : List Addr} {ow3 A3 : Fp} {e3 : DEnv} {s3 : Sto}, Post X.K cA σ3 S' H2 ca' ow2 A' e3 s3 r0 S3 H3 ca3 ow3 A3 (fun _ => 0) →
              Post X.K cA σ3 S H ca ow A e3 s3 r0 S3 H3 ca3 ow3 A3 (fun _ => 0) ∧ Tr (fun a => ow0 a + A0 a) S0 H0 S3 H3 ca0 ca3 ∧ ∀ a, ow3 a + A3 a ≠ 0 → ow0 a + A0 a ≠ 0 ∨ H0 a = none := fun {σ3 S3 H3 ca3 ow3 A3 e3 s3} q => by
            have q' : Post X.K cA σ3 S' H2 ca' ow' A' e3 s3 r0 S3 H3 ca3 ow3 A3 (fun _ => 0) := ⟨q.tr.weak fun a h => by have := l2 a; have z : ow2 a ≤ ow' a + 0 := this; omega, q.st, q.rp, q.le, fun a h => by
              rcases q.fo a h with w | w
              · have := l2 a
                have z : ow2 a ≤ ow' a + 0 := this
                exact .inl (by omega)
              · exact .inr w⟩
            refine ⟨pg.then q', tg'.trans q'.tr fun a h => fo a h, fun a h => ?_⟩
            rcases q'.fo a (by show ow3 a + A3 a + 0 ≠ 0; omega) with w | w
            · exact fo a w
            · exact .inr (tg'.dom a w)
          split at hf
          · rename_i e3 s3 h3
            refine ⟨S', ca', e2, st1, ow2, A', .nx, e3, s3, t2, h3, fun σ3 S3 H3 ca3 ow3 A3 q => ?_⟩
            obtain ⟨a1, a2, a3⟩ := step q
            exact ⟨S3, ca3, e3, s3, ow3, A3, a1, a2, a3, hf⟩
          · rename_i e3 s3 h3
            refine ⟨S', ca', e2, st1, ow2, A', .ct, e3, s3, t2, h3, fun σ3 S3 H3 ca3 ow3 A3 q => ?_⟩
            obtain ⟨a1, a2, a3⟩ := step q
            exact ⟨S3, ca3, e3, s3, ow3, A3, a1, a2, a3, hf⟩
          · rename_i e3 s3 h3
            obtain ⟨rfl, rfl, rfl⟩ := inj3 hf
            refine ⟨S', ca', e2, st1, ow2, A', .bk, _, _, t2, h3, fun σ3 S3 H3 ca3 ow3 A3 q => ?_⟩
            exact k _ _ _ _ _ _ (step q).1
          · rename_i r e3 s3 h3
            obtain ⟨rfl, rfl, rfl⟩ := inj3 hf
            refine ⟨S', ca', e2, st1, ow2, A', .rt r, _, _, t2, h3, fun v σ3 S3 H3 ca3 ow3 A3 f3 q => ?_⟩
            refine k v _ _ _ _ _ _ _ (pg.then ⟨q.tr.weak fun a h => ?_, q.st, q.rp, q.le, fun a h => ?_⟩)
            · have := l2 a; have z : ow2 a ≤ ow' a + 0 := this
              show ow' a + A' a ≠ 0
              have h : ow2 a + A' a ≠ 0 := h
              omega
            · rcases q.fo a h with w | w
              · have := l2 a
                have z : ow2 a ≤ ow' a + 0 := this
                exact .inl (by omega)
              · exact .inr w
          · cases hf
        · cases hf
      · have e : i = items.length := by omega
        subst e
        rw [List.drop_length] at hf
        unfold forL at hf
        obtain ⟨rfl, rfl, rfl⟩ := inj3 hf
        exact .inl ⟨sv.stop (Nat.le_refl _) tr p.st.sub, k _ _ _ _ _ _ p⟩
    · cases hm
end
end Fw

set_option Elab.async false
set_option linter.all false
set_option maxRecDepth 100000
namespace Fw
open PySem PySem.Spec PyProof.Rows L2

/-! ### slots that a comprehension has for itself -/
def wipeE (env : DEnv) : List Nat → DEnv
  | [] => env
  | v :: vs => (wipeE env vs).set v none
def keepE (env0 env : DEnv) : List Nat → DEnv
  | [] => env
  | v :: vs => (keepE env0 env vs).set v ((env0[v]?).getD none)
def savedOk (env : DEnv) : List Nat → Bool
  | [] => true
  | v :: vs => (match env[v]? with
    | some none => true
    | some (some d) => d.fr
    | none => false) && !(vs.contains v) && savedOk env vs
theorem wipe_in {σ : L2.St} {i : Nat} : ∀ {vs : List Nat}, i ∈ vs → i < σ.length → (wipe σ vs)[i]? = some none
  | [], h, _ => by simp at h
  | v :: vs, h, hl => by
    unfold wipe
    by_cases e : v = i
    · subst e
      rw [List.getElem?_set_self (by rw [wipe_length]; exact hl)]
    · rw [List.getElem?_set_ne e]
      exact wipe_in (by simpa [Ne.symm e] using h) hl
theorem wipe_ext {σ σ' : L2.St} {vs : List Nat} (c : Chg vs σ σ') : wipe σ' vs = wipe σ vs := by
  apply List.ext_getElem?
  intro i
  by_cases h : i ∈ vs
  · by_cases hl : i < σ.length
    · rw [wipe_in h hl, wipe_in h (by rw [c.len]; exact hl)]
    · rw [List.getElem?_eq_none (by rw [wipe_length, c.len]; omega), List.getElem?_eq_none (by rw [wipe_length]; omega)]
  · rw [wipe_out h, wipe_out h, c.at_ i h]
theorem wipe_wipe {σ : L2.St} {vs : List Nat} : wipe (wipe σ vs) vs = wipe σ vs := wipe_ext ⟨wipe_length σ vs, fun j h => wipe_out h⟩
section
variable {K : PySem.W.Frag} {cA : Str → Addr} {S H S' H' S1 H1 S2 H2 : Hp} {ca ca' ca1 ca2 : List Addr} {L ow A ow1 A1 ow2 A2 : Fp} {d : D} {v : V} {f g f1 f2 : Fp} {ds : List D} {vs : List V}
  {σ σ1 σ2 : L2.St} {env env1 env2 env' : DEnv} {st st1 st2 st' : Sto} {R R' : Hp → Hp → List Addr → Fp → Prop}
theorem EnvR.wipe {σ : L2.St} {e : DEnv} : ∀ (vs : List Nat) {ow : Fp}, EnvR K cA S H ca e σ ow → ∃ g : Fp, EnvR K cA S H ca (wipeE e vs) (wipe σ vs) g ∧ ∀ a, g a ≤ ow a
  | [], ow, r => ⟨ow, r, fun _ => Nat.le_refl _⟩
  | v :: vs, ow, r => by
    obtain ⟨g, h1, h2⟩ := EnvR.wipe vs r
    obtain ⟨g', h3, h4⟩ := h1.drop v none
    exact ⟨g', h3, fun a => Nat.le_trans (h4 a) (h2 a)⟩
/-- a slot that is empty holds again what it held, if nobody owns it -/
theorem EnvR.fill : ∀ {e : DEnv} {σ : L2.St} {g : Fp} {i : Nat}, EnvR K cA S H ca e (σ.set i none) g → EnvR K cA S H ca (e.set i none) σ g := by
  intro e
  induction e with
  | nil =>
    intro σ g i r
    cases σ with
    | nil => simpa using r
    | cons x σ => cases i <;> cases r
  | cons x e ih =>
    intro σ g i r
    cases σ with
    | nil => simp at r; cases r
    | cons y σ =>
      cases i with
      | zero => cases r with | no r => exact .no r
      | succ i =>
        cases r with
        | no r => exact .no (ih r)
        | so r u hh => exact .so r (ih u) hh
theorem EnvR.fill1 {e : DEnv} {σ : L2.St} {g : Fp} {i : Nat} {x : Option D} (r : EnvR K cA S H ca e (σ.set i none) g) (h : x = none ∨ ∃ d w, x = some d ∧ σ[i]? = some (some w) ∧ Rp K cA S H ca d w (fun _ => 0)) : EnvR K cA S H ca (e.set i x) σ g := by
  rcases h with rfl | ⟨d, w, rfl, hw, rp⟩
  · exact r.fill
  · have q := r.fill.put hw rp
    have e1 : (fun a => 0 + g a) = g := by funext a; omega
    rw [e1] at q
    exact q
theorem EnvR.keepE {e0 e : DEnv} {σ : L2.St} : ∀ {vs : List Nat} {g : Fp}, EnvR K cA S H ca e (L2.wipe σ vs) g → savedOk e0 vs = true → (∀ v ∈ vs, ∀ d, e0[v]? = some (some d) → ∃ w, σ[v]? = some (some w) ∧ Rp K cA S H ca d w (fun _ => 0)) → EnvR K cA S H ca (keepE e0 e vs) σ g := by
  have gen : ∀ (vs : List Nat) (e : DEnv) (σ : L2.St) {g : Fp}, EnvR K cA S H ca e (L2.wipe σ vs) g → savedOk e0 vs = true → (∀ v ∈ vs, ∀ d, e0[v]? = some (some d) → ∃ w, σ[v]? = some (some w) ∧ Rp K cA S H ca d w (fun _ => 0)) → EnvR K cA S H ca (Fw.keepE e0 e vs) σ g := by
    intro vs
    induction vs with
    | nil => intro e σ g r _ _; exact r
    | cons v vs ih =>
      intro e σ g r hs hv
      simp only [savedOk, Bool.and_eq_true] at hs
      obtain ⟨⟨h1, h2⟩, h3⟩ := hs
      have hnv : v ∉ vs := by
        intro hm
        have : vs.contains v = true := List.elem_eq_true_of_mem hm
        rw [this] at h2
        cases h2
      -- first the slot v of the wiped list, then the others
      have r1 : EnvR K cA S H ca (e.set v ((e0[v]?).getD none)) (L2.wipe σ vs) g := by
        refine EnvR.fill1 (σ := L2.wipe σ vs) r ?_
        cases q : e0[v]? with
        | none => exact .inl rfl
        | some x =>
          cases x with
          | none => exact .inl rfl
          | some d =>
            obtain ⟨w, hw, rp⟩ := hv v List.mem_cons_self d q
            exact .inr ⟨d, w, rfl, by rw [wipe_out hnv]; exact hw, rp⟩
      have r2 := ih _ σ r1 h3 fun u hu => hv u (List.mem_cons_of_mem _ hu)
      have comm : ∀ (us : List Nat) (e : DEnv) (x : Option D), v ∉ us → Fw.keepE e0 (e.set v x) us = (Fw.keepE e0 e us).set v x := by
        intro us
        induction us with
        | nil => intro e x _; rfl
        | cons u us ih2 =>
          intro e x hu
          have hne : u ≠ v := fun z => hu (by rw [z]; exact List.mem_cons_self)
          unfold Fw.keepE
          rw [ih2 e x fun z => hu (List.mem_cons_of_mem _ z)]
          exact List.set_comm _ _ (Ne.symm hne)
      rw [comm vs e _ hnv] at r2
      exact r2
  intro vs g r hs hv
  exact gen vs e σ r hs hv

/-! ### a list that is held is changed -/
theorem upd_tr {p : Addr} {o o' : HO} (h : H p = some o) (hm : fixd o = false) : Tr (fun a => if a = p then 1 else 0) S H S (upd H p o') ca ca where
  ex := fun _ _ h => h
  keep := fun a u ha hl => by
    by_cases e : a = p
    · rw [if_pos e] at hl; omega
    · rw [upd_ne e]; exact ha
  fix := fun a u ha hf => by
    by_cases e : a = p
    · subst e; rw [h] at ha; cases ha; rw [hm] at hf; cases hf
    · rw [upd_ne e]; exact ha
  dom := fun a ha => by
    by_cases e : a = p
    · subst e; rw [upd_same] at ha; cases ha
    · rw [upd_ne e] at ha; exact ha
  news := fun _ h n => absurd h n
  cs := fun _ _ h => h
/-- what stands at p, held by nobody else, is put otherwise -/
theorem Post.mut {p : Addr} {o o' : HO} (q : Post K cA σ S H ca ow A env1 st1 R S1 H1 ca1 ow1 A1 f) (h : H1 p = some o) (hm : fixd o = false) (hp : f p ≠ 0) (hS : S1 p = none) (hR : R' S1 (upd H1 p o') ca1 g) (hg : ∀ a, g a ≤ f a) :
    Post K cA σ S H ca ow A env1 st1 R' S1 (upd H1 p o') ca1 ow1 A1 g where
  tr := q.tr.trans (upd_tr h hm) fun a z => by
    by_cases e : a = p
    · subst e; exact q.fo a (by omega)
    · exact absurd (if_neg e) z
  st := by
    have z1 : ∀ a, ow1 a ≠ 0 → (if a = p then 1 else 0) = 0 := fun a w => by
      by_cases e : a = p
      · subst e; have := q.le a; omega
      · exact if_neg e
    have z2 : ∀ a, A1 a ≠ 0 → (if a = p then 1 else 0) = 0 := fun a w => by
      by_cases e : a = p
      · subst e; have := q.le a; omega
      · exact if_neg e
    refine ⟨q.st.e.keep (upd_tr (ca := ca1) h hm) z1, q.st.c.keep (upd_tr (ca := ca1) h hm) z2, fun a u ha => ?_, q.st.dis⟩
    by_cases e : a = p
    · subst e; rw [hS] at ha; cases ha
    · rw [upd_ne e]; exact q.st.sub a u ha
  rp := hR
  le := fun a => by have := q.le a; have := hg a; omega
  fo := fun a z => q.fo a (by have := hg a; omega)
/-- one more item -/
theorem Post.app {p : Addr} (q : Post K cA σ S H ca ow A env1 st1 (r2 (rD K cA (.lst true ds) (.ref p)) (rD K cA d v)) S1 H1 ca1 ow1 A1 f) :
    ∃ vs, H1 p = some (.lst vs) ∧ vs.length = ds.length ∧ Post K cA σ S H ca ow A env1 st1 (rD K cA (.lst true (ds ++ [d])) (.ref p)) S1 (upd H1 p (.lst (vs ++ [v]))) ca1 ow1 A1 f := by
  obtain ⟨f1, f2, hf, r1, r2⟩ := q.rp
  cases r1 with
  | @lstO _ vs _ _ g h hs r hf1 =>
    have fle : ∀ a, f a ≤ 1 := fun a => by have := q.le a; omega
    have hp : f p ≠ 0 := by rw [hf, hf1, if_pos rfl]; omega
    have z1 : ∀ a, g a ≠ 0 → (if a = p then 1 else 0) = 0 := fun a w => by
      by_cases e : a = p
      · have := fle a; rw [hf, hf1, if_pos e] at this; omega
      · exact if_neg e
    have z2 : ∀ a, f2 a ≠ 0 → (if a = p then 1 else 0) = 0 := fun a w => by
      by_cases e : a = p
      · have := fle a; rw [hf, hf1, if_pos e] at this; omega
      · exact if_neg e
    refine ⟨vs, h, r.length, q.mut h rfl hp hs (.lstO upd_same hs ((r.keep (upd_tr (ca := ca1) h rfl) z1).append (.cons (r2.keep (upd_tr (ca := ca1) h rfl) z2) (.nil (f := fun _ => 0) fun _ => rfl) (h := f2) fun _ => rfl)) fun a => ?_) fun _ => Nat.le_refl _⟩
    rw [hf, hf1]
    show _ = _ + (g a + f2 a)
    omega
end
section
variable {X : Cx} {cA : Str → Addr}
/-! ### list comprehensions -/
def lcL (vs : List Nat) (b : Bi) (c elt : Mo D) : List D → Mo (List D)
  | [], env, st => some ([], env, st)
  | d :: ds, env, st => match b d env with
    | some e1 => (match c e1 st with
      | some (.bl k, e2, s2) => if k = true then (match elt e2 s2 with
          | some (y, e3, s3) => (match lcL vs b c elt ds (wipeE e3 vs) s3 with
            | some (ys, e4, s4) => some (y :: ys, e4, s4)
            | none => none)
          | none => none)
        else lcL vs b c elt ds (wipeE e2 vs) s2
      | _ => none)
    | none => none
def mLc (m : Mo (List D)) (vs : List Nat) (b : Bi) (c elt : Mo D) : Mo D := fun env st => match m env st with
  | some (items, e1, s1) => if savedOk e1 vs = true then (match lcL vs b c elt items (wipeE e1 vs) s1 with
      | some (ds, e2, s2) => if szOk ds.length = true then some (.lst true ds, keepE e1 e2 vs, s2) else none
      | none => none)
    else none
  | none => none
/-- a clause's tests -/
abbrev PTBs (cA : Str → Addr) (X : Cx) (ifs : List Expr) (c : Mo D) : Prop := PTs X ifs (tTest (tE cA c X.K))
theorem ptbs_nil : PTBs cA X [] (mC (.bl true)) := ⟨fun pins s σ H Q I h => pts_nil.run pins s σ H Q I (by
  obtain ⟨S, ca, env, st, ow, A, d', env', st', t, hm, q⟩ := h
  obtain ⟨rfl, rfl, rfl⟩ := inj3 hm
  obtain ⟨k, e, w⟩ := q (.bl true) S H ca ow A (fun _ => 0) (t.self rp_bl0 fun _ => rfl)
  cases e
  exact w)⟩
theorem ptbs_one {e : Expr} {c : Mo D} (h : PB cA X e c) : PTBs cA X [e] c := pts_one h
/-- what a comprehension asks, its walk given -/
def LcB (J : It) (g : TG) (tt : TT) (te : TE) (vs : List Nat) (σ : L2.St) (H1 : Hp) (Q : VK) : Prop := ∀ D, H1 D = none → ∃ W : Nat → Nat → Hp → Prop, (∃ m, W 0 m (upd H1 D (.lst []))) ∧ ∀ i m H, W i m H →
  (J.stop i H ∧ Q (.ref D) H) ∨ (J.go i H ∧ ∃ Nx : Hp → Prop, (∀ H', Nx H' → ∃ m', m' < m ∧ W (i + 1) m' H') ∧ ∀ x H', J.yld i H x H' → g x (L2.wipe σ vs) H' fun σ2 H2 => L2.wipe σ2 vs = L2.wipe σ vs ∧ tt σ2 H2 fun b H3 =>
    if b = true then te σ2 H3 fun y H4 => ∃ acc, H4 D = some (.lst acc) ∧ acc.length < sizeLine ∧ Nx (upd H4 D (.lst (acc ++ [y]))) else Nx H3)
/-- the walk of a comprehension, from the state at its start -/
theorem lc_core {K : PySem.W.Frag} {σ : L2.St} {S H S0 H0 : Hp} {ca ca0 : List Addr} {ow A ow0 A0 : Fp} {e1 e2 : DEnv} {s1 s2 : Sto} {Q : VK} {vs : List Nat} {b : Bi} {c elt : Mo D} {items total : List D} {J : It}
    (p0 : Post K cA σ S H ca ow A e1 s1 r0 S0 H0 ca0 ow0 A0 (fun _ => 0)) (sv : Srv K cA J (fun a => ow0 a + A0 a) S0 H0 ca0 items) (hsv : savedOk e1 vs = true) (h2 : lcL vs b c elt items (wipeE e1 vs) s1 = some (total, e2, s2)) (hz : szOk total.length = true)
    (q : ∀ v S' H' ca' ow' A' f, Post K cA σ S H ca ow A (keepE e1 e2 vs) s2 (rD K cA (.lst true total) v) S' H' ca' ow' A' f → (∀ a, ow' a + A' a + f a ≠ 0 → ow0 a + A0 a ≠ 0 ∨ H0 a = none) → Tr (fun a => ow0 a + A0 a) S0 H0 S' H' ca0 ca' → Q v H') :
    LcB J (tGd cA b vs K) (tTest (tE cA c K)) (tE cA elt K) vs σ H0 Q := by
  intro Dl nD
  -- what the block's own names held
  have saved : ∀ v ∈ vs, ∀ d, e1[v]? = some (some d) → ∃ w, σ[v]? = some (some w) ∧ Rp K cA S0 H0 ca0 d w (fun _ => 0) := fun v hv d hd => by
    obtain ⟨w, f, g, h3, h4, _, _⟩ := p0.st.e.take hd
    have fr : d.fr = true := by
      have all : ∀ {us : List Nat}, savedOk e1 us = true → v ∈ us → (match e1[v]? with | some none => true | some (some d) => d.fr | none => false) = true := by
        intro us
        induction us with
        | nil => intro _ z; simp at z
        | cons u us ih =>
          intro z1 z2
          simp only [savedOk, Bool.and_eq_true] at z1
          rcases List.mem_cons.mp z2 with e | e
          · rw [e]; exact z1.1.1
          · exact ih z1.2 e
      have z := all hsv hv
      rw [hd] at z
      exact z
    exact ⟨w, h3, h4.f0 (h4.fr0 fr)⟩
  obtain ⟨gw, ew, lw⟩ := p0.st.e.wipe vs
  -- the state at the block's start, the new list held
  have pw : Post K cA (wipe σ vs) S H ca ow A (wipeE e1 vs) s1 (rDs K cA [] []) S0 H0 ca0 gw A0 (fun _ => 0) := ⟨p0.tr, ⟨ew, p0.st.c, p0.st.sub, fun a => by have := p0.st.dis a; have := lw a; omega⟩, .nil fun _ => rfl,
    fun a => by have := p0.st.dis a; have := lw a; show gw a + A0 a + 0 ≤ 1; omega, fun a z => by have := lw a; have z : gw a + A0 a + 0 ≠ 0 := z; exact p0.fo a (by show ow0 a + A0 a + 0 ≠ 0; omega)⟩
  have pn := pw.newL nD
  have own0 : ∀ a, gw a + A0 a ≠ 0 → ow0 a + A0 a ≠ 0 := fun a z => by have := lw a; omega
  refine ⟨fun i n H' => ∃ S' ca' env1 st1 ow' A' f' acc rest, Post K cA (wipe σ vs) S H ca ow A env1 st1 (rD K cA (.lst true acc) (.ref Dl)) S' H' ca' ow' A' f' ∧ Tr (fun a => ow0 a + A0 a) S0 H0 S' H' ca0 ca' ∧
    (∀ a, ow' a + A' a + f' a ≠ 0 → ow0 a + A0 a ≠ 0 ∨ H0 a = none) ∧ n = items.length - i ∧ i ≤ items.length ∧ lcL vs b c elt (items.drop i) env1 st1 = some (rest, e2, s2) ∧ acc ++ rest = total,
    ⟨items.length, S0, ca0, _, _, gw, A0, _, [], total, pn, (tr_grow (upd_gr nD)), fun a z => ?_, rfl, Nat.zero_le _, h2, rfl⟩, ?_⟩
  · by_cases w : gw a + A0 a = 0
    · by_cases e : a = Dl
      · exact .inr (by rw [e]; exact nD)
      · exfalso
        have z1 : fpNew Dl (fun _ => 0) a = 0 := by
          unfold fpNew
          rw [if_neg e]
          rfl
        have z2 : gw a + A0 a + fpNew Dl (fun _ => 0) a ≠ 0 := z
        omega
    · exact .inl (own0 a w)
  · rintro i n H' ⟨S', ca', env1, st1, ow', A', f', acc, rest, p, tr, fo, hn, hi, hl, hacc⟩
    by_cases hlt : i < items.length
    · have hget : items[i]? = some items[i] := List.getElem?_eq_getElem hlt
      rw [List.drop_eq_getElem_cons hlt] at hl
      unfold lcL at hl
      split at hl
      · rename_i eb heb
        refine .inr ⟨sv.go hget tr p.st.sub, fun H2 => ∃ S2 ca2 env2 st2 ow2 A2 f2 acc2 rest2, Post K cA (wipe σ vs) S H ca ow A env2 st2 (rD K cA (.lst true acc2) (.ref Dl)) S2 H2 ca2 ow2 A2 f2 ∧ Tr (fun a => ow0 a + A0 a) S0 H0 S2 H2 ca0 ca2 ∧
          (∀ a, ow2 a + A2 a + f2 a ≠ 0 → ow0 a + A0 a ≠ 0 ∨ H0 a = none) ∧ lcL vs b c elt (items.drop (i + 1)) env2 st2 = some (rest2, e2, s2) ∧ acc2 ++ rest2 = total,
          fun H2 ⟨S2, ca2, env2, st2, ow2, A2, f2, acc2, rest2, a1, a2, a3, a4, a5⟩ => ⟨items.length - (i + 1), by omega, S2, ca2, env2, st2, ow2, A2, f2, acc2, rest2, a1, a2, a3, rfl, hlt, a4, a5⟩, fun x H2 hy => ?_⟩
        obtain ⟨gr, rx⟩ := sv.yl hget tr p.st.sub hy
        have fo1 : ∀ a, f' a ≤ 1 := fun a => by have := p.le a; omega
        -- the item has come, the list is held
        have pg : Post K cA (wipe σ vs) S H ca ow A env1 st1 (rD K cA (.lst true acc) (.ref Dl)) S' H2 ca' ow' A' f' := p.grow gr (p.rp.keep (L := fun _ => 0) (tr_grow gr) fun _ _ => rfl) fo1 fun a z => .inl z
        have tg : Tr (fun a => ow0 a + A0 a) S0 H0 S' H2 ca0 ca' := tr.trans (L1 := fun _ => 0) (tr_grow gr) fun a z => absurd rfl z
        refine ⟨S', ca', env1, st1, ow', A', items[i], fun _ => 0, eb, pg.st, rx, fun a => by have := pg.le a; show ow' a + A' a + 0 ≤ 1; omega, heb, fun σ2 ow2 t2 l2 ch => ⟨(wipe_ext ch).trans wipe_wipe, ?_⟩⟩
        have l2' : ∀ a, ow2 a ≤ ow' a := fun a => l2 a
        -- from the state t2, the list held: a step q gives
        have hold : ∀ {σ3 : L2.St} {S3 H3 : Hp} {ca3 : List Addr} {ow3 A3 f3 : Fp} {e3 : DEnv} {s3 : Sto} {R3 : Hp → Hp → List Addr → Fp → Prop}, Post K cA σ3 S' H2 ca' ow2 A' e3 s3 R3 S3 H3 ca3 ow3 A3 f3 →
            Post K cA σ3 S H ca ow A e3 s3 (r2 (rD K cA (.lst true acc) (.ref Dl)) R3) S3 H3 ca3 ow3 A3 (fun a => f' a + f3 a) ∧ Tr (fun a => ow0 a + A0 a) S0 H0 S3 H3 ca0 ca3 ∧ (∀ a, ow3 a + A3 a + (f' a + f3 a) ≠ 0 → ow0 a + A0 a ≠ 0 ∨ H0 a = none) := by
          intro σ3 S3 H3 ca3 ow3 A3 f3 e3 s3 R3 q
          have q' : Post K cA σ3 S' H2 ca' ow' A' e3 s3 R3 S3 H3 ca3 ow3 A3 f3 := ⟨q.tr.weak fun a z => by have := l2' a; have z : ow2 a + A' a ≠ 0 := z; show ow' a + A' a ≠ 0; omega, q.st, q.rp, q.le, fun a z => by
            rcases q.fo a z with w | w
            · have := l2' a; exact .inl (by omega)
            · exact .inr w⟩
          have tr3 : Tr (fun a => ow0 a + A0 a) S0 H0 S3 H3 ca0 ca3 := tg.trans q'.tr fun a z => fo a (by have z : ow' a + A' a ≠ 0 := z; omega)
          have own : ∀ a, f' a ≠ 0 → H2 a ≠ none := fun a z => (pg.rp.own a z).1
          refine ⟨⟨pg.tr.trans q'.tr fun a z => pg.fo a (by have z : ow' a + A' a ≠ 0 := z; omega), q'.st, ⟨f', f3, fun _ => rfl, pg.rp.keep q'.tr fun a z => by have := pg.le a; show ow' a + A' a = 0; omega, q'.rp⟩, fun a => ?_, fun a z => ?_⟩, tr3, fun a z => ?_⟩
          · have h1 := pg.le a
            have h2 := q'.le a
            show ow3 a + A3 a + (f' a + f3 a) ≤ 1
            by_cases e : f' a = 0
            · omega
            · by_cases w : ow3 a + A3 a + f3 a = 0
              · omega
              · rcases q'.fo a w with u | u
                · omega
                · exact absurd u (own a e)
          · have z : ow3 a + A3 a + (f' a + f3 a) ≠ 0 := z
            by_cases e : f' a = 0
            · rcases q'.fo a (by omega) with w | w
              · exact pg.fo a (by omega)
              · exact .inr (pg.tr.dom a w)
            · exact pg.fo a (by omega)
          · by_cases e : f' a = 0
            · rcases q'.fo a (by omega) with w | w
              · exact fo a (by omega)
              · exact .inr (tg.dom a w)
            · exact fo a (by omega)
        -- the block's names are forgotten again
        have wiped : ∀ {σ3 : L2.St} {S3 H3 : Hp} {ca3 : List Addr} {ow3 A3 f3 : Fp} {e3 : DEnv} {s3 : Sto} {R3 : Hp → Hp → List Addr → Fp → Prop}, wipe σ3 vs = wipe σ vs → Post K cA σ3 S H ca ow A e3 s3 R3 S3 H3 ca3 ow3 A3 f3 →
            ∃ ow4 : Fp, Post K cA (wipe σ vs) S H ca ow A (wipeE e3 vs) s3 R3 S3 H3 ca3 ow4 A3 f3 ∧ ∀ a, ow4 a ≤ ow3 a := by
          intro σ3 S3 H3 ca3 ow3 A3 f3 e3 s3 R3 hw q
          obtain ⟨g4, r4, l4⟩ := q.st.e.wipe vs
          rw [hw] at r4
          exact ⟨g4, ⟨q.tr, ⟨r4, q.st.c, q.st.sub, fun a => by have := q.st.dis a; have := l4 a; omega⟩, q.rp, fun a => by have := q.le a; have := l4 a; omega, fun a z => q.fo a (by have := l4 a; omega)⟩, l4⟩
        have hw2 : wipe σ2 vs = wipe σ vs := (wipe_ext ch).trans wipe_wipe
        split at hl
        · rename_i k e3 s3 h3
          refine ⟨S', ca', eb, st1, ow2, A', _, e3, s3, t2, h3, fun kv S3 H3 ca3 ow3 A3 f3 p3 => ⟨k, p3.rp.b.1, ?_⟩⟩
          split at hl
          · rename_i hk
            rw [if_pos hk]
            split at hl
            · rename_i y e4 s4 h4
              split at hl
              · rename_i ys e5 s5 h5
                obtain ⟨rfl, rfl, rfl⟩ := inj3 hl
                refine ⟨S3, ca3, e3, s3, ow3, A3, y, e4, s4, p3.st, h4, fun yv S4 H4 ca4 ow4 A4 f4 p4 => ?_⟩
                obtain ⟨b1, b2, b3⟩ := hold (p3.next p4)
                obtain ⟨accV, hD, hlen, b4⟩ := b1.app
                obtain ⟨ow5, b5, l5⟩ := wiped hw2 b4
                have hzz : acc.length < sizeLine := by
                  have z := sz_of hz
                  rw [← hacc, List.length_append, List.length_cons] at z
                  omega
                refine ⟨accV, hD, by rw [hlen]; exact hzz, S4, ca4, _, _, ow5, A4, _, acc ++ [y], ys, b5, b2.trans (upd_tr hD rfl) fun a z => ?_, fun a z => b3 a ?_, h5, by rw [List.append_assoc]; exact hacc⟩
                · by_cases e : a = Dl
                  · refine b3 a ?_
                    obtain ⟨g1, g2, hg, r1, _⟩ := b1.rp
                    cases r1 with
                    | @lstO _ _ _ _ gg _ _ _ hf =>
                      have z2 : g1 a = 1 + gg a := by rw [hf, if_pos e]
                      have z3 : f' a + f4 a = g1 a + g2 a := hg a
                      show ow4 a + A4 a + (f' a + f4 a) ≠ 0
                      omega
                  · exact absurd (if_neg e) z
                · have := l5 a
                  have z : ow5 a + A4 a + (f' a + f4 a) ≠ 0 := z
                  omega
              · cases hl
            · cases hl
          · rename_i hk
            rw [if_neg hk]
            obtain ⟨b1, b2, b3⟩ := hold p3
            obtain ⟨ow5, b5, l5⟩ := wiped hw2 (b1.imp (R' := rD K cA (.lst true acc) (.ref Dl)) (g := f') (fun ⟨x, y, hh, r1, r2⟩ => by
              have z : ∀ a, x a = f' a := fun a => by
                have e0 := p3.rp.b.2 a
                have e1 : f' a + f3 a = x a + y a := hh a
                have e2 : y a = 0 := r2.b.2 a
                omega
              have e : x = f' := funext z
              rw [← e]; exact r1) fun a => by show f' a ≤ f' a + f3 a; omega)
            exact ⟨S3, ca3, _, _, ow5, A3, f', acc, rest, b5, b2, fun a z => b3 a (by have := l5 a; omega), hl, hacc⟩
        · cases hl
      · cases hl
    · have e : i = items.length := by omega
      subst e
      rw [List.drop_length] at hl
      unfold lcL at hl
      obtain ⟨rfl, rfl, rfl⟩ := inj3 hl
      rw [List.append_nil] at hacc
      subst hacc
      refine .inl ⟨sv.stop (Nat.le_refl _) tr p.st.sub, ?_⟩
      refine q (.ref Dl) S' H' ca' ow' A' f' ⟨p.tr, ⟨p.st.e.keepE hsv fun v hv d hd => ?_, p.st.c, p.st.sub, p.st.dis⟩, p.rp, p.le, p.fo⟩ fo tr
      obtain ⟨w, h3, h4⟩ := saved v hv d hd
      exact ⟨w, h3, h4.keep tr fun a z => absurd rfl z⟩
theorem lc_w {K : PySem.W.Frag} {σ : L2.St} {H : Hp} {Q : VK} {m : Mo (List D)} {vs : List Nat} {b : Bi} {c elt : Mo D} (h : tE cA (mLc m vs b c elt) K σ H Q) : tLc (tI cA m K) (tGd cA b vs K) (tTest (tE cA c K)) (tE cA elt K) vs σ H Q := by
  obtain ⟨S, ca, env, st, ow, A, d', env', st', t, hm, q⟩ := h
  unfold mLc at hm
  split at hm
  · rename_i items e1 s1 h1
    split at hm
    · rename_i hsv
      split at hm
      · rename_i total e2 s2 h2
        split at hm
        · rename_i hz
          obtain ⟨rfl, rfl, rfl⟩ := inj3 hm
          exact ⟨S, ca, env, st, ow, A, items, e1, s1, t, h1, fun J S0 H0 ca0 ow0 A0 p0 sv => lc_core p0 sv hsv h2 hz fun v S' H' ca' ow' A' f p _ _ => q v S' H' ca' ow' A' f p⟩
        · cases hm
      · cases hm
    · cases hm
  · cases hm
/-! ### over a list that a name holds, untouched on the way -/
def goneAt (e : DEnv) (i : Nat) : Bool := match e[i]? with
  | some none => true
  | _ => false
def mLcN (i : Nat) (vs : List Nat) (b : Bi) (c elt : Mo D) : Mo D := fun env st => match env[i]? with
  | some (some (.lst true ds)) => if D.frs ds = true ∧ savedOk (env.set i none) vs = true then (match lcL vs b c elt ds (wipeE (env.set i none) vs) st with
      | some (rs, e2, s2) => if szOk rs.length = true ∧ goneAt (keepE (env.set i none) e2 vs) i = true then some (.lst true rs, (keepE (env.set i none) e2 vs).set i (some (.lst true ds)), s2) else none
      | none => none)
    else none
  | _ => none
end
end Fw

set_option Elab.async false
set_option linter.all false
set_option maxRecDepth 100000
/-! a def's promise where nothing is being shown around it -/
namespace Fw
open PySem PySem.Spec PyProof.Rows L2

structure FnG (P : Program) (w : World) (K : PySem.W.Frag) (mg : Str → Option Value) (base : Heap) (CX : CXT) (k : Nat) (f : Addr) (fd : FuncData) (ps : List Str) (sp : Sp) : Prop where
  len : ∀ vs H Q E, sp vs H Q E → vs.length = ps.length
  run : ∀ (A : Around) (out : List Env) (s : Shared) (H : Hp) (ar : Args) (us : List Value) (vs : List V) (Q : VK) (E : XK), Room k A → A.guards = some [] → Env0 P w K mg base A out s H → BindsTo s fd ar (ps.zip us) → Vals vs us → sp vs H Q E →
    codeAny (model P w) A (.call (.ref f) ar) (CR CX out P w H s Q E) s
theorem FnG.imp {P : Program} {w : World} {K : PySem.W.Frag} {mg : Str → Option Value} {base : Heap} {CX : CXT} {k : Nat} {f : Addr} {fd : FuncData} {ps : List Str} {sp sp' : Sp} (F : FnG P w K mg base CX k f fd ps sp) (h : ∀ vs H Q E, sp' vs H Q E → sp vs H Q E) : FnG P w K mg base CX k f fd ps sp' :=
  ⟨fun vs H Q E q => F.len vs H Q E (h _ _ _ _ q), fun A out s H ar us vs Q E hr hg he hb hv hs => F.run A out s H ar us vs Q E hr hg he hb hv (h _ _ _ _ hs)⟩
/-- a def by its body -/
theorem fn_g {CX : CXT} {P : Program} {w : World} {K : PySem.W.Frag} {mg : Str → Option Value} {base : Heap} {k : Nat} {f : Addr} {nm ql : Str} {pars : Arguments} {body : List Stmt} {sc : Scope} {dV kV doc pm cdv ct oc : Value} {an od : Option Addr}
    {osl : Array (Option Value)} {N ps : List Str} {sp : Sp} (lk : K.lookup f = some ⟨oc, od, .func (PySem.W.fnOf nm ql pars body sc dV kV doc pm an cdv ct), osl⟩) (hcd : PySem.W.codeIn K cdv ql = true) (S : FnScope N ps sc) (len : ∀ vs H Q E, sp vs H Q E → vs.length = ps.length)
    (hb : ∀ (A : Around) (out : List Env) (s : Shared) (H : Hp) (vs : List V) (Q : VK) (E : XK), Room k (A.deeper (envOfC ql sc s.heap.objs.size f cdv)) → A.guards = some [] → sp vs H Q E →
      ∃ t, PSs (cxOf CX P w K mg base N ql sc f cdv A out s H E) body t ∧ t { nx := fun _ H' => Q .non H', rt := Q } (L2.start N vs) H) : FnG P w K mg base CX (k + 1) f (PySem.W.fnOf nm ql pars body sc dV kV doc pm an cdv ct) ps sp := by
  refine ⟨len, fun A out s H ar us vs Q E hr hgd e0 bnd rel hsp => ?_⟩
  have hlen := len _ _ _ _ hsp
  have hK : K.In s.heap := e0.mod.kin.keeps fun b o z => (e0.bs b o z).1
  have hlim : s.heap.NoLimit := e0.mod.nolimit.keeps fun b o z => (e0.bs b o z).1
  have kinds : ∀ y ∈ ps.zip us, sc.names.lookup y.1 = some .local ∨ (sc.names.lookup y.1 = some .cell ∧ ((cellsFrom (s.heap.objs.size + 1) sc.names []).lookup y.1).isSome = true) := fun ⟨n, v⟩ hy =>
    (S.par n (List.of_mem_zip hy).1).elim .inl fun q => .inr ⟨q, PySem.W.cellsFrom_some _ _ _ (.inl q)⟩
  refine codeAny_call_function hr.depth (hK _ _ lk) rfl S.co S.gen rfl (PySem.W.codeRec_of hK hcd) (bnd _ _ _ _ (wpAny_newFunctionEnv_cells S.kind kinds fun env he s1 x => ?_))
  subst he
  refine ⟨hlim.keeps x.toInCall.keep, codeAny_func ?_⟩
  obtain ⟨t, ht, hq⟩ := hb A out s H vs Q E (hr.deeper _) hgd hsp
  have I : Inv (cxOf CX P w K mg base N ql sc f cdv A out s H E) [] (L2.start N vs) H s1 := inv_start S hr.hd e0 hlen rel x
  have fin : ∀ {s' : Shared} {σ' : L2.St} {H' : Hp} {v : V} {u : Value}, Inv (cxOf CX P w K mg base N ql sc f cdv A out s H E) [] σ' H' s' → RelV v u → Q v H' → CE out P w H s Q u s' := fun J rv q => ⟨_, _, J.os, J.bare, J.base, J.hok, rv, q⟩
  refine wpAny_mono (ht.run [] s1 (L2.start N vs) H _ I hq) (fun fl s' hs => ?_) fun e s' hs => hs
  cases fl with
  | ret u => obtain ⟨v, σ', H', J, rv, q⟩ := hs; exact fin J rv q
  | next => obtain ⟨σ', H', J, q⟩ := hs; exact fin (v := V.non) (u := Value.none) J rfl q
  | brk => obtain ⟨_, _, _, q⟩ := hs; exact q.elim
  | cont => obtain ⟨_, _, _, q⟩ := hs; exact q.elim
section
variable {X : Cx} {CX : CXT} {k : Nat} {f C : Addr} {fd : FuncData} {ps : List Str} {sp : Sp} {dvs : List V} {ds : List Value} {E : XK} {x m : Str} {p pos apos : Pos} {e o : Expr} {es : List Expr} {ta : TE} {t : TA}
theorem run_g {pins : List (Addr × Obj)} {σ : L2.St} {H : Hp} {s : Shared} {Q : VK} {us : List Value} {vs : List V} (F : FnG X.prog X.w X.K X.mg X.base CX k f fd ps sp) (hr : Room k X.A) (hG : X.A.guards = some []) (hb : Binds X.K fd ps ds) (hd : Vals dvs ds) (hx : Passes CX X E)
    (I : Inv X pins σ H s) (rel : Vals vs us) (h : sp (vs ++ dvs) H Q E) : wpAny (model X.prog X.w) X.A (call (.ref f) us) (EP X pins σ Q) X.xe s := by
  have rel2 : Vals (vs ++ dvs) (us ++ ds) := rel.append hd
  have hl : (us ++ ds).length = ps.length := rel2.length.symm.trans (F.len _ _ _ _ h)
  refine wpAny_call (codeAny_mono (F.run X.A X.stack s H ⟨us, []⟩ (us ++ ds) (vs ++ dvs) Q E hr hG I.env0 (hb s us I.kIn hl) rel2 h) fun r s' hq => ?_)
  cases r with
  | error e => exact hx pins σ H s e s' I hq
  | ok fl => cases fl with
    | ret u => exact I.after hq
    | next => exact hq.elim
    | brk => exact hq.elim
    | cont => exact hq.elim
theorem pe_callG (F : FnG X.prog X.w X.K X.mg X.base CX k f fd ps sp) (hr : Room k X.A) (hG : X.A.guards = some []) (hg : Gl X x) (hm : X.mg x = some (.ref f)) (hk : PySem.W.keepIn X.K (.ref f) = true) (hb : Binds X.K fd ps ds) (hd : Vals dvs ds) (hx : Passes CX X E)
    (ha : PA X (e :: es) t) (hdb : (x == ("__debug__" : Str)) = false := by decide) (he : starEach (e :: es) X.env = (false, eval e X.env) :: starEach es X.env := by rfl) (hpl : (backTo pos (starEach es X.env)).any (·.1) = false := by rfl) : PE X (.Call (.Name x p) (e :: es) [] pos) (tCall sp dvs E t) := by
  refine ⟨fun pins s σ H Q I h => wpAny_Call_Name_kw (ld_glob I hg hm ?_ hdb)⟩
  exact PySem.W.callWith_K (h₀ := X.base) I.ok.mod.kin hk (thn (ha.run pos pins s σ H _ I h) fun us s1 ⟨vs, H1, I1, r, q⟩ => ⟨I1.kIn, run_g F hr hG hb hd hx I1 r q⟩) he hpl
end
/-- the law's call, at the heap behind the top -/
theorem law_g {P : Program} {w : World} {K : PySem.W.Frag} {mg mb : Str → Option Value} {k : Nat} {fa a : Addr} {fd : FuncData} {x : Str} {sp : Sp} {s : Shared} {us : List Value} {ns : List Int}
    (hK : K.In s.heap) (hns : s.heap.Ns mainGlobals mg) (hbn : s.heap.Ns builtinsNs mb) (hbb : ∀ x : Str, x ≠ "__name__" → mb x = bootBuiltins x) (hlim : s.heap.NoLimit) (hsy : ∃ m, s.heap.Ns sysModules m) (hgn : s.gens = #[])
    (ha : s.heap.get? a = some { cls := .type "list", data := .seq us.toArray }) (hi : IntsAre us ns) (hl : ns.length ≤ sizeLine) (hr : Room k callerA)
    (F : ∀ base : Heap, K.In base → base.Ns mainGlobals mg → (∃ m, base.Ns sysModules m) → FnG P w K mg base CX0 k fa fd [x] sp) (bnd : ∀ (s : Shared) (u : Value), BindsTo s fd ⟨[u], []⟩ [(x, u)])
    (hsp : ∀ H : Hp, Only H → SqL K H a (ns.map V.int) → sp [.ref a] H (fun v _ => v = .bl true) fun _ _ _ => False) :
    codeAny (model P w) callerA (.call (.ref fa) ⟨[.ref a], []⟩) (fun r s' => r = .ok (.ret (.bool true)) ∧ OldK s.heap s'.heap ∧ s'.os = s.os ∧ AllBare s'.gens) s := by
  have rel := vals_ints hi
  have core : ∀ H : Hp, Only H → SqL K H a (ns.map V.int) → HOk P w H s.heap → (∀ b, H b ≠ none → b = a ∧ K.lookup a = none) → codeAny (model P w) callerA (.call (.ref fa) ⟨[.ref a], []⟩) (fun r s' => r = .ok (.ret (.bool true)) ∧ OldK s.heap s'.heap ∧ s'.os = s.os ∧ AllBare s'.gens) s := by
    intro H hO hS hok hA
    have noD : ∀ {b : Addr} {ob : Obj} {es : Array DictEntry} {ep : Nat}, s.heap.get? b = some ob → ob.data = .dict es ep → H b = none := fun {b ob es ep} z zd => by
      cases q : H b with
      | none => rfl
      | some y =>
        obtain rfl := (hA b (by rw [q]; simp)).1
        rw [ha] at z; cases z
        have zd' : Data.seq us.toArray _ = Data.dict es ep := zd
        cases zd'
    have nsH : ∀ {b : Addr} {m : Str → Option Value}, s.heap.Ns b m → (hidT s.heap H).Ns b m := fun {b m} ⟨ob, es, ep, z, zd, r⟩ => ⟨ob, es, ep, hidT_get z (noD z zd), zd, r⟩
    have hKb : K.In (hidT s.heap H) := fun b ob z => hidT_get (hK b ob z) (by
      cases q : H b with
      | none => rfl
      | some y =>
        obtain ⟨rfl, z2⟩ := hA b (by rw [q]; simp)
        rw [z2] at z; cases z)
    have md : Mod K mg (hidT s.heap H) := ⟨hKb, nsH hns, ⟨mb, nsH hbn, hbb⟩, let ⟨mc, z1, z2⟩ := hlim; ⟨mc, nsH z1, z2⟩⟩
    have env0 : Env0 P w K mg (hidT s.heap H) callerA [] s H := ⟨rfl, md, fun b ob z => of_hidT z, Nat.le_of_eq (hidT_size _ _), trivial, fun b hb => absurd (show b ∈ ([] : List Addr) from hb) (by simp), hok, .of_eq hgn⟩
    refine codeAny_mono ((F _ hKb (nsH hns) (let ⟨m, z⟩ := hsy; ⟨m, nsH z⟩)).run callerA [] s H ⟨[.ref a], []⟩ [.ref a] [.ref a] _ _ hr rfl env0 (bnd s (.ref a)) (.cons rfl .nil) (hsp H hO hS)) fun r s' h => ?_
    cases r with
    | error e => exact (show False from h).elim
    | ok fl => cases fl with
      | next => exact h.elim
      | brk => exact h.elim
      | cont => exact h.elim
      | ret u =>
        obtain ⟨v, H', os, bare, un, hok', r', q⟩ := h
        obtain rfl : v = .bl true := q
        obtain rfl : u = Value.bool true := r'
        refine ⟨rfl, OldK.of_keep fun b ob z => ?_, os, bare⟩
        cases y : H b with
        | none => exact un.keep b ob z y (fun z => absurd (show b ∈ ([] : List Addr) from z) (by simp)) (by simp)
        | some u =>
          rcases hO b with w1 | ⟨ob1, xs, w1⟩
          · rw [y] at w1; cases w1
          · have w2 := un.frzs b ob1 _ w1
            have g1 := (hok b _ w1).1
            have g2 := (hok' b _ w2).1
            rw [z] at g1; cases g1
            exact g2
  cases hk : K.lookup a with
  | some ob =>
    have z := hK a ob hk
    rw [ha] at z
    cases z
    exact core (fun _ => none) (fun _ => .inl rfl) (.inr ⟨_, us.toArray, _, hk, rfl, rfl, rfl, by rw [List.size_toArray, hi.length]; exact hl, by simpa using rel⟩) (fun b u z => by have z' : (none : Option HO) = some u := z; cases z') fun b z => absurd rfl z
  | none =>
    have at1 : ∀ {b : Addr} {y : HO}, (if b = a then some (HO.frz { cls := .type "list", data := .seq us.toArray } (.lst (ns.map V.int))) else none) = some y → b = a ∧ y = .frz { cls := .type "list", data := .seq us.toArray } (.lst (ns.map V.int)) := fun {b y} z => by
      by_cases hb : b = a
      · rw [if_pos hb] at z; cases z; exact ⟨hb, rfl⟩
      · rw [if_neg hb] at z; cases z
    refine core (fun b => if b = a then some (.frz { cls := .type "list", data := .seq us.toArray } (.lst (ns.map V.int))) else none) (fun b => ?_) (.inl (.inr ⟨_, if_pos rfl⟩)) (fun b y z => ?_) fun b z => ⟨?_, hk⟩
    · by_cases hb : b = a
      · exact .inr ⟨_, _, if_pos hb⟩
      · exact .inl (if_neg hb)
    · obtain ⟨rfl, rfl⟩ := at1 z
      exact ⟨ha, by rw [List.length_map]; exact hl, us, _, rel, ha⟩
    · by_cases hb : b = a
      · exact hb
      · exact absurd (if_neg hb) z
/-- what is left behind the head -/
theorem walk_g {l : PySem.W.OpenLaw} {n k : Nat} {q : Program} {loose : List Str} {XP : (Str → Option Value) → Heap → Prop} {YP : World → Heap → Prop} {d : DefRec} {K : Params → PySem.W.Frag} {sp : World → Sp} {x : Str}
    (hn : l.most = some n) (hn2 : n ≤ sizeLine) (him : importsNone q = true) (hdf : d.params.defaults = []) (hr : Room k callerA) (hY : ∀ (w : World) (h : Heap), YP w h → (K w.params).In h)
    (F : ∀ (w : World) (mg : Str → Option Value) (fa : Addr) (h : Heap), (K w.params).In h → h.Ns mainGlobals mg → mg d.name = some (.ref fa) →
      ∃ fd : FuncData, (∀ (s : Shared) (u : Value), BindsTo s fd ⟨[u], []⟩ [(x, u)]) ∧ ∀ base : Heap, (K w.params).In base → base.Ns mainGlobals mg → (∃ m, base.Ns sysModules m) → FnG l.prog w (K w.params) mg base CX0 k fa fd [x] (sp w))
    (hsp : ∀ (w : World) (H : Hp) (a : Addr) (ns : List Int), ns.length ≤ n → Only H → SqL (K w.params) H a (ns.map V.int) → sp w [.ref a] H (fun v _ => v = .bl true) fun _ _ _ => False) : PySem.W.WalkO q loose XP YP l.row.toRowW d [] (fun f vs => PySem.call f vs) := by
  refine Att.attach_call hn hdf fun w s₀ s₁ mg mb fa o pm cd doc a vs ns G Y ho hd hcd hmg hobj hints hlen hg => ?_
  obtain ⟨fd, bnd, hF⟩ := F w mg fa _ (hY w _ Y) G.T.g hmg
  exact law_g (hY w _ Y) G.T.g G.T.b G.T.builtins G.T.nolimit (let ⟨m, z, _⟩ := (G.T.seer him).mods; ⟨m, z⟩) hg hobj hints (Nat.le_trans hlen hn2) hr hF bnd fun H hO hS => hsp w H a ns hlen hO hS
end Fw

set_option Elab.async false
set_option linter.all false
set_option maxRecDepth 100000
namespace Fw
open PySem PySem.Spec PyProof.Rows L2

section
variable {X : Cx} {cA : Str → Addr}
theorem pd_lc {elt tg iter : Expr} {ifs : List Expr} {scope : Scope} {own : List (Str × Nat)} {pos : Pos} {m : Mo (List D)} {b : Bi} {c me : Mo D} (hc : X.calm = true) (hN : X.N.Nodup) (hi : PId cA X tg iter m) (ok : BlkOk X.N X.env.scope scope own)
    (hg : ∀ (s : Shared) (H : Hp) (C : Addr) (cl : List (Str × Addr)) (fp : List Addr), PGd cA (X.blk s H scope (compEnvC scope cl C X.env) fp) tg b (own.map (·.2)))
    (ht : ∀ (s : Shared) (H : Hp) (C : Addr) (cl : List (Str × Addr)) (fp : List Addr), PTBs cA (X.blk s H scope (compEnvC scope cl C X.env) fp) ifs c)
    (he : ∀ (s : Shared) (H : Hp) (C : Addr) (cl : List (Str × Addr)) (fp : List Addr), PD cA (X.blk s H scope (compEnvC scope cl C X.env) fp) elt me) (hs : ∀ x, foldedSetIterable iter X.env x = pure x := by intro _; rfl) :
    PD cA X (.ListComp elt [⟨tg, iter, ifs, 0⟩] scope pos) (mLc m (own.map (·.2)) b c me) := pe_w (pe_lc hc hN hi ok hg ht he hs) fun σ H Q h => lc_w h
theorem pds_setLc {i : Nat} {y : Str} {py : Pos} {elt tg iter : Expr} {ifs : List Expr} {scope : Scope} {own : List (Str × Nat)} {pos spos : Pos} {m : Mo (List D)} {b : Bi} {c me : Mo D} (hc : X.calm = true) (hN : X.N.Nodup) (hy : X.N[i]? = some y) (hyl : X.env.scope.names.lookup y = some .local)
    (hsw : swapsWith (.ListComp elt [⟨tg, iter, ifs, 0⟩] scope pos) (some (.Name y py)) spos.line X.env = pure true) (hi : PId cA X tg iter m) (ok : BlkOk X.N X.env.scope scope own)
    (hg : ∀ (s : Shared) (H : Hp) (C : Addr) (cl : List (Str × Addr)) (fp : List Addr), PGd cA (X.blk s H scope (compEnvC scope cl C X.env) fp) tg b (own.map (·.2)))
    (ht : ∀ (s : Shared) (H : Hp) (C : Addr) (cl : List (Str × Addr)) (fp : List Addr), PTBs cA (X.blk s H scope (compEnvC scope cl C X.env) fp) ifs c)
    (he : ∀ (s : Shared) (H : Hp) (C : Addr) (cl : List (Str × Addr)) (fp : List Addr), PD cA (X.blk s H scope (compEnvC scope cl C X.env) fp) elt me) (hs : ∀ x, foldedSetIterable iter X.env x = pure x := by intro _; rfl) :
    PDS cA X (.Assign [.Name y py] (.ListComp elt [⟨tg, iter, ifs, 0⟩] scope pos) spos) (mSet i (mLc m (own.map (·.2)) b c me)) :=
  ps_w (ps_setLc hc hN hy hyl hsw hi ok hg ht he hs) fun D σ H ⟨S, ca, env, st, ow, A, fl, env', st', t, hm, k⟩ => by
    unfold mSet at hm
    split at hm
    · rename_i d e1 s1 h1
      split at hm
      · rename_i hl
        obtain ⟨rfl, rfl, rfl⟩ := inj3 hm
        refine lc_w (Q := fun x H1 => D.nx (σ.set i (some x)) H1) ⟨S, ca, env, st, ow, A, d, e1, _, t, h1, fun v S1 H1 ca1 ow1 A1 f1 p1 => ?_⟩
        obtain ⟨ow', p2⟩ := p1.store hl
        exact k _ _ _ _ _ _ p2
      · cases hm
    · cases hm
/-! ### defs -/
abbrev Fn := List D → Sto → Option (D × Sto)
/-- what a def promises in words of values -/
def spD (cA : Str → Addr) (K : PySem.W.Frag) (n : Nat) (m : Fn) : Sp := fun vs H Q _ => ∃ S ca st A ds d st', ds.length = n ∧ CellsR K cA S H ca st ca A ∧ (∀ a o, S a = some o → H a = some o) ∧ (∀ a, A a ≤ 1) ∧ Rps K cA S H ca ds vs (fun _ => 0) ∧ m ds st = some (d, st') ∧
  ∀ v S' H' ca' A' f, Tr A S H S' H' ca ca' → CellsR K cA S' H' ca' st' ca' A' → (∀ a o, S' a = some o → H' a = some o) → Rp K cA S' H' ca' d v f → (∀ a, A' a + f a ≤ 1) → (∀ a, A' a + f a ≠ 0 → A a ≠ 0 ∨ H a = none) → Q v H'
def mBody (n : Nat) (body : Ms) : Fn := fun ds st => match body (ds.map some ++ List.replicate (n - ds.length) none) st with
  | some (.rt d, _, s1) => some (d, s1)
  | some (.nx, _, s1) => some (.non, s1)
  | _ => none
theorem envR_none {K : PySem.W.Frag} {S H : Hp} {ca : List Addr} : ∀ n : Nat, EnvR K cA S H ca (List.replicate n none) (List.replicate n none) (fun _ => 0)
  | 0 => .nil fun _ => rfl
  | n + 1 => .no (envR_none n)
theorem envR_args {K : PySem.W.Frag} {S H : Hp} {ca : List Addr} {n : Nat} : ∀ {ds : List D} {vs : List V} {f : Fp}, Rps K cA S H ca ds vs f → (∀ a, f a = 0) → EnvR K cA S H ca (ds.map some ++ List.replicate n none) (vs.map some ++ List.replicate n none) (fun _ => 0)
  | _, _, _, .nil _, _ => envR_none n
  | _, _, _, .cons r t hh, z => .so r (envR_args t fun a => by have := z a; rw [hh] at this; omega) fun a => by
    have := z a
    rw [hh] at this
    show 0 = _ + 0
    omega
theorem fn_ok {P : Program} {w : World} {K : PySem.W.Frag} {mg : Str → Option Value} {base : Heap} {x qual : Str} {st : Stmt} {f : Addr} {fd : FuncData} {N ps : List Str} {k : Nat} {mb : Ms} (F : Fun K x qual st f fd) (S : FnScope N ps (defScope st))
    (hb : ∀ (cdv : Value) (A : Around) (outer : List Env) (s : Shared) (H : Hp) (E : XK), Room k (A.deeper (envOfC qual (defScope st) s.heap.objs.size f cdv)) → A.guards = some [] → PDSs cA (cxOf CX0 P w K mg base N qual (defScope st) f cdv A outer s H E).nox (defBody st) mb) :
    FnG P w K mg base CX0 (k + 1) f fd ps (spD cA K ps.length (mBody N.length mb)) := by
  obtain ⟨oc, od, kV, doc, pm, an, cdv, ct, osl, rfl, lk, hcd⟩ := F.ex
  refine fn_g lk hcd S (fun vs H Q E ⟨S, ca, st, A, ds, d, st', hl, _, _, _, r, _⟩ => by rw [r.length, hl]) fun A outer s H vs Q E hr hG h => ?_
  refine ⟨_, (hb cdv A outer s H E hr hG).nox, ?_⟩
  obtain ⟨S, ca, st, A, ds, d, st', hl, hc, sub, dis, r, hm, k⟩ := h
  unfold mBody at hm
  have sta : Sta K cA (L2.start N vs) S H (ds.map some ++ List.replicate (N.length - ds.length) none) st ca (fun _ => 0) A := by
    refine ⟨?_, hc, sub, fun a => by have := dis a; show 0 + A a ≤ 1; omega⟩
    have e := envR_args (n := N.length - ds.length) r fun _ => rfl
    unfold L2.start
    rw [r.length]
    exact e
  have fin : ∀ {v : V} {σ' : L2.St} {S' H' : Hp} {ca' : List Addr} {ow' A' f : Fp} {env' : DEnv} {s1 : Sto} {d1 : D}, s1 = st' → d1 = d → Post K cA σ' S H ca (fun _ => 0) A env' s1 (rD K cA d1 v) S' H' ca' ow' A' f → Q v H' := fun {v σ' S' H' ca' ow' A' f env' s1 d1} e1 e2 p => by
    subst e1; subst e2
    exact k v S' H' ca' A' f (p.tr.weak fun a h => by have h : 0 + A a ≠ 0 := h; omega) p.st.c p.st.sub p.rp (fun a => by have := p.le a; omega) fun a h => by
      rcases p.fo a (by omega) with w | w
      · have w : 0 + A a ≠ 0 := w
        exact .inl (by omega)
      · exact .inr w
  split at hm
  · rename_i d1 e1 s1 h1
    injection hm with hm
    injection hm with h2 h3
    exact ⟨S, ca, _, st, _, A, .rt d1, e1, s1, sta, h1, fun v σ' S' H' ca' ow' A' f p => fin h3 h2 p⟩
  · rename_i e1 s1 h1
    injection hm with hm
    injection hm with h2 h3
    exact ⟨S, ca, _, st, _, A, .nx, e1, s1, sta, h1, fun σ' S' H' ca' ow' A' p => fin (v := .non) h3 h2 (p.imp (g := fun _ => 0) (fun _ => .non fun _ => rfl) fun _ => Nat.le_refl _)⟩
  · cases hm
/-- a def that stands in the module and keeps its promise -/
structure Fnc (cA : Str → Addr) (P : Program) (w : World) (K : PySem.W.Frag) (mg : Str → Option Value) (base : Heap) (k : Nat) (x : Str) (n : Nat) (m : Fn) : Prop where
  ex : ∃ (f : Addr) (fd : FuncData) (ps : List Str), mg x = some (.ref f) ∧ PySem.W.keepIn K (.ref f) = true ∧ Binds K fd ps [] ∧ FnG P w K mg base CX0 k f fd ps (spD cA K n m)
def mCall (n : Nat) (m : Fn) (a : Mo (List D)) : Mo D := fun env st => match a env st with
  | some (ds, e1, s1) => if ds.length = n ∧ D.nobs ds = true then (match m (D.fzs ds) s1 with
      | some (d, s2) => some (d, e1, s2)
      | none => none)
    else none
  | none => none
theorem fzs_length : ∀ ds : List D, (D.fzs ds).length = ds.length
  | [] => by simp [D.fzs]
  | d :: r => by rw [D.fzs, List.length_cons, List.length_cons, fzs_length r]
/-- behind a call -/
theorem Post.called {K : PySem.W.Frag} {σ : L2.St} {S H S1 H1 S2 H2 : Hp} {ca ca1 ca2 : List Addr} {ow A ow1 A1 A2 f g : Fp} {env1 : DEnv} {st1 st2 : Sto} {R : Hp → Hp → List Addr → Fp → Prop} {d : D} {v : V} (p : Post K cA σ S H ca ow A env1 st1 R S1 H1 ca1 ow1 A1 f)
    (t : Tr A1 S1 H1 S2 H2 ca1 ca2) (hc : CellsR K cA S2 H2 ca2 st2 ca2 A2) (sub : ∀ a o, S2 a = some o → H2 a = some o) (r : Rp K cA S2 H2 ca2 d v g) (le : ∀ a, A2 a + g a ≤ 1) (fo : ∀ a, A2 a + g a ≠ 0 → A1 a ≠ 0 ∨ H1 a = none) :
    Post K cA σ S H ca ow A env1 st2 (rD K cA d v) S2 H2 ca2 ow1 A2 g := by
  have dj : ∀ a, ow1 a ≠ 0 → A1 a = 0 := fun a h => by have := p.st.dis a; omega
  have dj2 : ∀ a, ow1 a + A2 a + g a ≤ 1 := fun a => by
    have := le a
    by_cases e : ow1 a = 0
    · omega
    · by_cases z : A2 a + g a = 0
      · have := p.st.dis a; omega
      · rcases fo a z with w | w
        · exact absurd (dj a e) w
        · exact absurd w (p.st.e.own a e).1
  exact ⟨p.tr.trans t fun a h => p.fo a (by omega), ⟨p.st.e.keep t dj, hc, sub, fun a => by have := dj2 a; omega⟩, r, dj2, fun a h => by
    by_cases e : ow1 a = 0
    · rcases fo a (by omega) with w | w
      · exact p.fo a (by omega)
      · exact .inr (p.tr.dom a w)
    · exact p.fo a (by omega)⟩
theorem call_w {K : PySem.W.Frag} {σ : L2.St} {H : Hp} {Q : VK} {n : Nat} {m : Fn} {a : Mo (List D)} (h : tE cA (mCall n m a) K σ H Q) : tCall (spD cA K n m) [] E0 (tA cA a K) σ H Q := by
  obtain ⟨S, ca, env, st, ow, A, d', env', st', t, hm, q⟩ := h
  unfold mCall at hm
  split at hm
  · rename_i ds e1 s1 h1
    split at hm
    · rename_i hn
      split at hm
      · rename_i d s2 h2
        obtain ⟨rfl, rfl, rfl⟩ := inj3 hm
        refine ⟨S, ca, env, st, ow, A, ds, _, s1, t, h1, fun vs S1 H1 ca1 ow1 A1 f1 p1 => ?_⟩
        have p2 := p1.frzs hn.2
        show spD cA K n m (vs ++ []) H1 Q E0
        rw [List.append_nil]
        refine ⟨_, ca1, s1, A1, _, d, _, by rw [fzs_length]; exact hn.1, p2.st.c, p2.st.sub, fun a => by have := p2.st.dis a; omega, p2.rp, h2, fun v S' H' ca' A' f tr hc sub rp le fo => ?_⟩
        exact q v S' H' ca' ow1 A' f (p2.called tr hc sub rp le fo)
      · cases hm
    · cases hm
  · cases hm
theorem pd_call {k j n : Nat} {x : Str} {m : Fn} {e : Expr} {es : List Expr} {a : Mo (List D)} {p pos : Pos} (c : Fnc cA X.prog X.w X.K X.mg X.base k x n m) (hr : Room j X.A) (hG : X.A.guards = some []) (hk : k ≤ j) (hg : Gl X x) (ha : PDs cA X (e :: es) a)
    (hdb : (x == ("__debug__" : Str)) = false := by decide) (he : starEach (e :: es) X.env = (false, eval e X.env) :: starEach es X.env := by rfl) (hpl : (backTo pos (starEach es X.env)).any (·.1) = false := by rfl) : PD cA X (.Call (.Name x p) (e :: es) [] pos) (mCall n m a) := by
  obtain ⟨f, fd, ps, h1, h2, h3, F⟩ := c.ex
  exact pe_w (pe_callG F (hr.mono hk) hG hg h1 h2 h3 .nil pass0 ha hdb he hpl) fun σ H Q h => call_w h
/-! ### a value is put into a cell -/
theorem CellsR.len {K : PySem.W.Frag} {S H : Hp} {ca : List Addr} : ∀ {st : Sto} {ps : List Addr} {A : Fp}, CellsR K cA S H ca st ps A → st.length = ps.length
  | _, _, _, .nil _ => rfl
  | _, _, _, .gap u => by rw [List.length_cons, List.length_cons, u.len]
  | _, _, _, .cons _ _ u _ => by rw [List.length_cons, List.length_cons, u.len]
theorem CellsR.snoc {K : PySem.W.Frag} {S H : Hp} {ca : List Addr} {d : D} {p : Addr} {f : Fp} (r : Rp K cA S H ca d (.ref p) f) (hp : f p ≠ 0) : ∀ {st : Sto} {ps : List Addr} {A : Fp}, CellsR K cA S H ca st ps A → CellsR K cA S H ca (st ++ [d]) (ps ++ [p]) (fun a => A a + f a)
  | _, _, _, .nil h0 => .cons r hp (.nil (f := fun _ => 0) fun _ => rfl) fun a => by rw [h0]; omega
  | _, _, _, .gap u => .gap (u.snoc r hp)
  | _, _, _, .cons r' hp' u hh => .cons r' hp' (u.snoc r hp) fun a => by rw [hh]; omega
def mSetC (i : Nat) (m : Mo D) : Ms := fun env st => match m env st with
  | some (.lst true ds, e1, s1) => if i < e1.length ∧ D.nobs ds = true then some (.nx, e1.set i (some (.cel s1.length)), s1 ++ [.lst true (D.fzs ds)]) else none
  | _ => none
theorem cs_snoc {ca : List Addr} {p : Addr} {n : Nat} {a : Addr} (h : ca[n]? = some a) : (ca ++ [p])[n]? = some a := by
  rw [List.getElem?_append_left (List.getElem?_eq_some_iff.mp h).1]; exact h
theorem tr_snoc {S H : Hp} {ca : List Addr} {p : Addr} {L : Fp} : Tr L S H S H ca (ca ++ [p]) := ⟨fun _ _ h => h, fun _ _ h _ => h, fun _ _ h _ => h, fun _ h => h, fun _ h n => absurd h n, fun _ _ h => cs_snoc h⟩
theorem pds_setC {i : Nat} {x : Str} {e : Expr} {m : Mo D} {pos pos' : Pos} (hN : X.N.Nodup) (hi : X.N[i]? = some x) (hx : Loc X.env.scope x) (h : PD cA X e m) (hs : swapsWith e (some (.Name x pos')) pos.line X.env = pure false := by rfl)
    (hf : X.fn x = true ∨ X.env.scope.names.lookup x = some .local := by first | exact .inl rfl | exact .inr rfl | assumption) : PDS cA X (.Assign [.Name x pos'] e pos) (mSetC i m) :=
  ps_w (ps_set hN hi hx h hs hf) fun D σ H ⟨S, ca, env, st, ow, A, fl, env', st', t, hm, k⟩ => by
    unfold mSetC at hm
    split at hm
    · rename_i ds e1 s1 h1
      split at hm
      · rename_i hl
        obtain ⟨rfl, rfl, rfl⟩ := inj3 hm
        refine ⟨S, ca, env, st, ow, A, _, e1, s1, t, h1, fun v S1 H1 ca1 ow1 A1 f1 p1 => ?_⟩
        cases p1.rp with
        | @lstO p vs _ _ g hp hsp r hf1 =>
          have gle : ∀ a, g a ≤ f1 a := fun a => by rw [hf1]; omega
          have le1 := p1.le
          have g1 : ∀ a, g a ≠ 0 → ow1 a = 0 ∧ A1 a = 0 := fun a z => by have := le1 a; have := gle a; omega
          have tr : Tr g S1 H1 (frzS g S1 H1) H1 ca1 ca1 := frz_tr r.own
          have gp : g p = 0 := by have := le1 p; rw [hf1, if_pos rfl] at this; omega
          have tr2 : Tr g S1 H1 (frzS g S1 H1) H1 ca1 (ca1 ++ [p]) := ⟨tr.ex, tr.keep, tr.fix, tr.dom, tr.news, fun n a z => cs_snoc z⟩
          have rz : Rps X.K cA (frzS g S1 H1) H1 ca1 (Fw.D.fzs ds) vs (fun _ => 0) := r.frz tr.ex (frz_at g S1 H1) hl.2
          have rz2 : Rps X.K cA (frzS g S1 H1) H1 (ca1 ++ [p]) (Fw.D.fzs ds) vs (fun _ => 0) := rz.keep (L := fun _ => 0) tr_snoc fun _ _ => rfl
          have hsp2 : frzS g S1 H1 p = none := by unfold frzS; rw [if_pos gp]; exact hsp
          have new : Rp X.K cA (frzS g S1 H1) H1 (ca1 ++ [p]) (.lst true (Fw.D.fzs ds)) (.ref p) (fpNew p fun _ => 0) := .lstO hp hsp2 rz2 fun _ => rfl
          have c2 := (p1.st.c.keep tr2 fun a z => by cases Nat.eq_zero_or_pos (g a) with | inl y => exact y | inr y => exact absurd (g1 a (by omega)).2 z).snoc new (by unfold fpNew; rw [if_pos rfl]; omega)
          have e2 := p1.st.e.keep tr2 fun a z => by cases Nat.eq_zero_or_pos (g a) with | inl y => exact y | inr y => exact absurd (g1 a (by omega)).1 z
          have hn : (ca1 ++ [p])[s1.length]? = some p := by
            rw [p1.st.c.len, List.getElem?_append_right (Nat.le_refl _), Nat.sub_self]; rfl
          obtain ⟨gg, h3, h4⟩ := e2.store (i := i) (d := .cel s1.length) (v := .ref p) (f := fun _ => 0) hl.1 (.cel hn fun _ => rfl)
          have new1 : ∀ a, fpNew p (fun _ => 0) a ≤ f1 a := fun a => by
            unfold fpNew
            rw [hf1]
            show _ + 0 ≤ _
            omega
          have hdis : ∀ a, 0 + gg a + (A1 a + fpNew p (fun _ => 0) a) ≤ 1 := fun a => by
            have := le1 a; have := new1 a; have := h4 a
            omega
          refine k _ _ _ _ _ _ ⟨p1.tr.trans tr2 fun a z => p1.fo a (by have := gle a; omega), ⟨h3, c2, frz_sub p1.st.sub, hdis⟩, fun _ => rfl, fun a => hdis a, fun a z => ?_⟩
          have z : 0 + gg a + (A1 a + fpNew p (fun _ => 0) a) + 0 ≠ 0 := z
          refine p1.fo a ?_
          have := new1 a; have := h4 a
          omega
      · cases hm
    · cases hm
end
end Fw

set_option Elab.async false
set_option linter.all false
set_option maxRecDepth 100000
namespace Fw
open PySem PySem.Spec PyProof.Rows L2

section
variable {K : PySem.W.Frag} {cA : Str → Addr} {S H S1 H1 : Hp} {ca ca1 : List Addr} {ow A ow1 A1 f g : Fp} {d : D} {v : V} {ds : List D} {vs : List V} {σ : L2.St} {env1 : DEnv} {st1 : Sto} {R R' : Hp → Hp → List Addr → Fp → Prop}
theorem CellsR.split {ca : List Addr} : ∀ {st : Sto} {ps : List Addr} {A : Fp} {n : Nat} {d : D}, CellsR K cA S H ca st ps A → st[n]? = some d → d.isN' = false → ∃ (p : Addr) (f A2 : Fp), ps[n]? = some p ∧ Rp K cA S H ca d (.ref p) f ∧ f p ≠ 0 ∧ (∀ a, A a = f a + A2 a) ∧
    ∀ {L : Fp} {S' H' : Hp} {ca' : List Addr} {d' : D} {f' : Fp}, Tr L S H S' H' ca ca' → (∀ a, A2 a ≠ 0 → L a = 0) → Rp K cA S' H' ca' d' (.ref p) f' → f' p ≠ 0 → CellsR K cA S' H' ca' (st.set n d') ps (fun a => f' a + A2 a)
  | _, _, _, n, d, .nil _, h, _ => by simp at h
  | _, _, _, 0, d, .gap u, h, h3 => by
    simp only [List.getElem?_cons_zero, Option.some.injEq] at h
    subst h
    simp [D.isN'] at h3
  | _, _, _, n + 1, d, .gap u, h, h3 => by
    obtain ⟨p, f, A2, e1, e2, e3, e4, e5⟩ := u.split (by simpa using h) h3
    exact ⟨p, f, A2, by simpa using e1, e2, e3, e4, fun t l r q => .gap (e5 t l r q)⟩
  | _, _, _, 0, d, .cons (f := f0) (g := g0) r hp u hh, h, h3 => by
    simp only [List.getElem?_cons_zero, Option.some.injEq] at h
    subst h
    exact ⟨_, f0, g0, rfl, r, hp, hh, fun t l r q => .cons r q (u.keep t l) fun _ => rfl⟩
  | _, _, _, n + 1, d, .cons (f := f0) (g := g0) r hp u hh, h, h3 => by
    obtain ⟨p, f, A2, e1, e2, e3, e4, e5⟩ := u.split (by simpa using h) h3
    refine ⟨p, f, fun a => f0 a + A2 a, by simpa using e1, e2, e3, fun a => by
      show _ = f a + (f0 a + A2 a)
      rw [hh, e4]; omega, fun {L S' H' ca' d' f'} t l r' q => .cons (f := f0) (r.keep t fun a z => l a (by show f0 a + A2 a ≠ 0; omega)) hp (e5 t (fun a z => l a (by show f0 a + A2 a ≠ 0; omega)) r' q) fun a => ?_⟩
    show f' a + (f0 a + A2 a) = f0 a + (f' a + A2 a)
    omega
/-- a list that a name holds alone, or that a cell holds -/
def placeGet (i : Nat) (env : DEnv) (st : Sto) : Option (List D) := match peek i env with
  | some (.lst true ds) => some ds
  | some (.cel n) => (match st[n]? with
    | some (.lst true ds) => some ds
    | _ => none)
  | _ => none
def placeSet (i : Nat) (ds : List D) (env : DEnv) (st : Sto) : DEnv × Sto := match peek i env with
  | some (.cel n) => (env, st.set n (.lst true ds))
  | _ => (env.set i (some (.lst true ds)), st)
theorem Sta.place0 {env : DEnv} {st : Sto} (t : Sta K cA σ S H env st ca ow A) {i : Nat} (h : placeGet i env st = some ds) : ∃ p vs, σ[i]? = some (some (.ref p)) ∧ H p = some (.lst vs) := by
  unfold placeGet at h
  split at h
  · rename_i es e
    cases h
    obtain ⟨v, f, h1, r, _⟩ := t.peek e
    cases r with
    | lstO hp _ _ _ => exact ⟨_, _, h1, hp⟩
  · rename_i n e
    split at h
    · rename_i es e2
      cases h
      obtain ⟨v, f, h1, r, _⟩ := t.peek e
      cases r with
      | cel hc h0 =>
        obtain ⟨f', r, _⟩ := t.c.get e2 hc rfl
        cases r with
        | lstO hp _ _ _ => exact ⟨_, _, h1, hp⟩
    · cases h
  · cases h
theorem Post.place (p : Post K cA σ S H ca ow A env1 st1 R S1 H1 ca1 ow1 A1 f) {i : Nat} (h : placeGet i env1 st1 = some ds) : ∃ (q : Addr) (vs : List V) (g : Fp), σ[i]? = some (some (.ref q)) ∧ H1 q = some (.lst vs) ∧ S1 q = none ∧ Rps K cA S1 H1 ca1 ds vs g ∧
    (∀ a, (if a = q then 1 else 0) + g a + f a ≤ 1) ∧ ∀ {ds' : List D} {vs' : List V} {g' fr : Fp} {R' : Hp → Hp → List Addr → Fp → Prop}, Rps K cA S1 (upd H1 q (.lst vs')) ca1 ds' vs' g' → R' S1 (upd H1 q (.lst vs')) ca1 fr → (∀ a, g' a + fr a ≤ g a + f a) →
      ∃ ow2 A2, Post K cA σ S H ca ow A (placeSet i ds' env1 st1).1 (placeSet i ds' env1 st1).2 R' S1 (upd H1 q (.lst vs')) ca1 ow2 A2 fr := by
  unfold placeGet at h
  split at h
  · rename_i es e
    cases h
    obtain ⟨v, f0, g0, h1, r, he, hw⟩ := p.st.e.take (peek_of e)
    cases r with
    | @lstO q vs _ _ g hp hs r hf =>
      have dis : ∀ a, (if a = q then 1 else 0) + g a + g0 a + A1 a + f a ≤ 1 := fun a => by have := p.le a; rw [hw, hf] at this; omega
      refine ⟨q, vs, g, h1, hp, hs, r, fun a => by have := dis a; omega, fun {ds' vs' g' fr R'} r1 r2 le => ?_⟩
      have ps : placeSet i ds' env1 st1 = (env1.set i (some (.lst true ds')), st1) := by unfold placeSet; rw [e]
      rw [ps]
      have u : Tr (fun a => if a = q then 1 else 0) S1 H1 S1 (upd H1 q (.lst vs')) ca1 ca1 := upd_tr hp rfl
      have k0 : ∀ a, g0 a ≠ 0 → (if a = q then 1 else 0) = 0 := fun a z => by have := dis a; omega
      have kA : ∀ a, A1 a ≠ 0 → (if a = q then 1 else 0) = 0 := fun a z => by have := dis a; omega
      have nr : Rp K cA S1 (upd H1 q (.lst vs')) ca1 (.lst true ds') (.ref q) (fpNew q g') := .lstO upd_same hs r1 fun _ => rfl
      have e2 := (he.keep u k0).put h1 nr
      have bd : ∀ a, fpNew q g' a + g0 a + A1 a + fr a ≤ 1 := fun a => by have := dis a; have := le a; unfold fpNew; omega
      refine ⟨fun a => fpNew q g' a + g0 a, A1, p.tr.trans u fun a z => ?_, ⟨e2, p.st.c.keep u kA, fun a o z => ?_, fun a => by have := bd a; show fpNew q g' a + g0 a + A1 a ≤ 1; omega⟩, r2, fun a => by have := bd a; show fpNew q g' a + g0 a + A1 a + fr a ≤ 1; omega, fun a z => ?_⟩
      · refine p.fo a ?_
        rw [hw, hf]
        have z : (if a = q then 1 else 0) ≠ 0 := z
        omega
      · by_cases y : a = q
        · subst y; rw [hs] at z; cases z
        · rw [upd_ne y]; exact p.st.sub a o z
      · have z : fpNew q g' a + g0 a + A1 a + fr a ≠ 0 := z
        unfold fpNew at z
        have := le a
        refine p.fo a ?_
        rw [hw, hf]
        omega
  · rename_i n e
    split at h
    · rename_i es e2
      cases h
      obtain ⟨v, f0, h1, r, _⟩ := p.st.peek e
      cases r with
      | @cel q0 _ _ hc h0 =>
        obtain ⟨q, f2, A2, hq, r, hne, hA, back⟩ := p.st.c.split e2 rfl
        have : q0 = q := by rw [hc] at hq; exact Option.some.inj hq
        subst this
        cases r with
        | @lstO _ vs _ _ g hp hs r hf =>
          have dis : ∀ a, (if a = q0 then 1 else 0) + g a + A2 a + ow1 a + f a ≤ 1 := fun a => by have := p.le a; rw [hA, hf] at this; omega
          refine ⟨q0, vs, g, h1, hp, hs, r, fun a => by have := dis a; omega, fun {ds' vs' g' fr R'} r1 r2 le => ?_⟩
          have ps : placeSet i ds' env1 st1 = (env1, st1.set n (.lst true ds')) := by unfold placeSet; rw [e]
          rw [ps]
          have u : Tr (fun a => if a = q0 then 1 else 0) S1 H1 S1 (upd H1 q0 (.lst vs')) ca1 ca1 := upd_tr hp rfl
          have k0 : ∀ a, ow1 a ≠ 0 → (if a = q0 then 1 else 0) = 0 := fun a z => by have := dis a; omega
          have kA : ∀ a, A2 a ≠ 0 → (if a = q0 then 1 else 0) = 0 := fun a z => by have := dis a; omega
          have nr : Rp K cA S1 (upd H1 q0 (.lst vs')) ca1 (.lst true ds') (.ref q0) (fpNew q0 g') := .lstO upd_same hs r1 fun _ => rfl
          have c2 := back u kA nr (by unfold fpNew; rw [if_pos rfl]; omega)
          have bd : ∀ a, fpNew q0 g' a + A2 a + ow1 a + fr a ≤ 1 := fun a => by have := dis a; have := le a; unfold fpNew; omega
          refine ⟨ow1, fun a => fpNew q0 g' a + A2 a, p.tr.trans u fun a z => ?_, ⟨p.st.e.keep u k0, c2, fun a o z => ?_, fun a => by have := bd a; show ow1 a + (fpNew q0 g' a + A2 a) ≤ 1; omega⟩, r2, fun a => by have := bd a; show ow1 a + (fpNew q0 g' a + A2 a) + fr a ≤ 1; omega, fun a z => ?_⟩
          · refine p.fo a ?_
            rw [hA, hf]
            have z : (if a = q0 then 1 else 0) ≠ 0 := z
            omega
          · by_cases y : a = q0
            · subst y; rw [hs] at z; cases z
            · rw [upd_ne y]; exact p.st.sub a o z
          · have z : ow1 a + (fpNew q0 g' a + A2 a) + fr a ≠ 0 := z
            unfold fpNew at z
            have := le a
            refine p.fo a ?_
            rw [hA, hf]
            omega
    · cases h
  · cases h
theorem Rps.set : ∀ {ds : List D} {vs : List V} {g : Fp} (j : Nat), Rps K cA S H ca ds vs g → Rp K cA S H ca d v f → j < ds.length → ∃ g' : Fp, Rps K cA S H ca (ds.set j d) (vs.set j v) g' ∧ ∀ a, g' a ≤ g a + f a
  | _, _, _, j, .nil _, _, h => by simp at h
  | _, _, _, 0, .cons (g := g0) r t hh, q, _ => ⟨fun a => f a + g0 a, .cons q t fun _ => rfl, fun a => by show f a + g0 a ≤ _; rw [hh]; omega⟩
  | _, _, _, j + 1, .cons (f := f0) r t hh, q, h => by
    obtain ⟨g', h1, h2⟩ := t.set j q (by simpa using h)
    exact ⟨fun a => f0 a + g' a, .cons r h1 fun _ => rfl, fun a => by have := h2 a; show f0 a + g' a ≤ _; rw [hh]; omega⟩
theorem Rps.erase : ∀ {ds : List D} {vs : List V} {g : Fp} (j : Nat), Rps K cA S H ca ds vs g → ds[j]? = some d → ∃ (v : V) (f g' : Fp), vs[j]? = some v ∧ Rp K cA S H ca d v f ∧ Rps K cA S H ca (ds.eraseIdx j) (vs.eraseIdx j) g' ∧ ∀ a, g a = f a + g' a
  | _, _, _, j, .nil _, h => by simp at h
  | _, _, _, 0, .cons (f := f0) (g := g0) r t hh, h => by
    simp only [List.getElem?_cons_zero, Option.some.injEq] at h
    subst h
    exact ⟨_, f0, g0, rfl, r, t, hh⟩
  | _, _, _, j + 1, .cons (f := f0) r t hh, h => by
    obtain ⟨v, f, g', h1, h2, h3, h4⟩ := t.erase j (by simpa using h)
    refine ⟨v, f, fun a => f0 a + g' a, by simpa using h1, h2, .cons r h3 fun _ => rfl, fun a => ?_⟩
    show _ = f a + (f0 a + g' a)
    rw [hh, h4]; omega
end
section
variable {X : Cx} {cA : Str → Addr}
/-- a method that changes its list -/
def MtD (cA : Str → Addr) (X : Cx) (id : String) (g : List D → List D → Option (D × List D)) : Prop :=
  MtR X id (fun x xs H Q => ∃ p S ca ds es vs g1 f1 d ds', x = .ref p ∧ H p = some (.lst vs) ∧ (∀ a o, S a = some o → H a = some o) ∧ S p = none ∧ Rps X.K cA S H ca ds vs g1 ∧ Rps X.K cA S H ca es xs f1 ∧ (∀ a, (if a = p then 1 else 0) + g1 a + f1 a ≤ 1) ∧
    g ds es = some (d, ds') ∧ ∀ v vs' g' fr, Rps X.K cA S (upd H p (.lst vs')) ca ds' vs' g' → Rp X.K cA S (upd H p (.lst vs')) ca d v fr → (∀ a, g' a + fr a ≤ g1 a + f1 a) → Q v (upd H p (.lst vs')))
def mMt (i : Nat) (g : List D → List D → Option (D × List D)) (a : Mo (List D)) : Mo D := fun env st => match placeGet i env st with
  | some _ => (match a env st with
    | some (es, e1, s1) => (match placeGet i e1 s1 with
      | some ds => (match g ds es with
        | some (d, ds') => some (d, (placeSet i ds' e1 s1).1, (placeSet i ds' e1 s1).2)
        | none => none)
      | none => none)
    | none => none)
  | none => none
theorem mt_w {K : PySem.W.Frag} {σ : L2.St} {H : Hp} {Q : VK} {i : Nat} {g : List D → List D → Option (D × List D)} {a : Mo (List D)} (h : tE cA (mMt i g a) K σ H Q) :
    tBM K "list" (fun x xs H Q => ∃ p S ca ds es vs g1 f1 d ds', x = .ref p ∧ H p = some (.lst vs) ∧ (∀ a o, S a = some o → H a = some o) ∧ S p = none ∧ Rps K cA S H ca ds vs g1 ∧ Rps K cA S H ca es xs f1 ∧ (∀ a, (if a = p then 1 else 0) + g1 a + f1 a ≤ 1) ∧
      g ds es = some (d, ds') ∧ ∀ v vs' g' fr, Rps K cA S (upd H p (.lst vs')) ca ds' vs' g' → Rp K cA S (upd H p (.lst vs')) ca d v fr → (∀ a, g' a + fr a ≤ g1 a + f1 a) → Q v (upd H p (.lst vs'))) (tVar i) (tA cA a K) σ H Q := by
  obtain ⟨S, ca, env, st, ow, A, d', env', st', t, hm, q⟩ := h
  unfold mMt at hm
  split at hm
  · rename_i ds0 h0
    obtain ⟨p0, vs0, hσ0, hp0⟩ := t.place0 h0
    split at hm
    · rename_i es e1 s1 h1
      split at hm
      · rename_i ds h2
        split at hm
        · rename_i d ds' h3
          obtain ⟨rfl, rfl, rfl⟩ := inj3 hm
          refine ⟨.ref p0, hσ0, .inl ⟨rfl, vs0, SqL.of hp0⟩, S, ca, env, st, ow, A, es, e1, s1, t, h1, fun xs S1 H1 ca1 ow1 A1 f1 p1 => ?_⟩
          obtain ⟨p, vs, g1, hσ, hp, hs, r, dis, back⟩ := p1.place h2
          rw [hσ0] at hσ
          cases hσ
          refine ⟨p0, S1, ca1, ds, es, vs, g1, f1, d, ds', rfl, hp, p1.st.sub, hs, r, p1.rp, dis, h3, fun v vs' g' fr r1 r2 le => ?_⟩
          obtain ⟨ow2, A2, p2⟩ := back (R' := rD K cA d v) r1 r2 le
          exact q v S1 _ ca1 ow2 A2 fr p2
        · cases hm
      · cases hm
    · cases hm
  · cases hm
theorem pd_mt {i : Nat} {id : String} {x name : Str} {g : List D → List D → Option (D × List D)} {e : Expr} {es : List Expr} {a : Mo (List D)} {p apos cpos : Pos} (slot : Slot "list" name id) (hty : typeOf (.builtin id) = pure (.type "method_descriptor")) (hm : MtD cA X id g) (ho : PE X (.Name x p) (tVar i)) (ha : PDs cA X (e :: es) a)
    (hbase : attributeBase (.Name x p) name X.env (eval (.Name x p) X.env) = eval (.Name x p) X.env := by rfl)
    (hfew : ((backTo cpos (starEach (e :: es) X.env)).all (fun x => !x.1) && (backToKw cpos (keywordEach [] X.env)).all (fun x => x.1.isSome) && decide ((e :: es).length + ([] : List Keyword).length + (if ([] : List Keyword).isEmpty then 0 else 1) < 30)) = true := by rfl)
    (hline : (apos.endLine == cpos.line) = true := by rfl) (hs : starEach (e :: es) X.env = (false, eval e X.env) :: starEach es X.env := by rfl) (hplain : (backTo cpos (starEach es X.env)).any (·.1) = false := by rfl) :
    PD cA X (.Call (.Attribute (.Name x p) name apos) (e :: es) [] cpos) (mMt i g a) :=
  pe_w (pe_bm PySem.F.plainAttrs_list slot hty hm ho ha hbase hfew hline hs hplain) fun σ H Q h => mt_w h
def gAppend : List D → List D → Option (D × List D)
  | ds, [d] => if szOk (ds.length + 1) = true then some (.non, ds ++ [d]) else none
  | _, _ => none
theorem keep1 {K : PySem.W.Frag} {S H : Hp} {ca : List Addr} {ds : List D} {vs ws : List V} {us : List V} {g : Fp} {p : Addr} (hp : H p = some (.lst us)) (r : Rps K cA S H ca ds vs g) (z : ∀ a, g a ≠ 0 → (if a = p then 1 else 0) = 0) : Rps K cA S (upd H p (.lst ws)) ca ds vs g := r.keep (upd_tr hp rfl) z
theorem md_append : MtD cA X "list.append" gAppend := by
  rintro pins s σ H x xs v us Q I rx rv ⟨p, S, ca, ds, es, vs, g1, f1, d, ds', rfl, hp, sub, hs, r, re, dis, hg, k⟩
  unfold gAppend at hg
  split at hg
  · rename_i d0
    split at hg
    · rename_i hz
      cases hg
      have hz := sz_of hz
      have hl := r.length
      cases re with
      | @cons _ y _ ys fa fb _ ra rb hh =>
        cases rb with
        | nil h0 =>
          refine mt_append pins s σ H _ _ v us Q I rx rv ⟨p, vs, y, rfl, rfl, hp, by omega, ?_⟩
          refine k .non _ (fun a => g1 a + fa a) (fun _ => 0) ?_ (.non fun _ => rfl) fun a => by rw [hh]; show g1 a + fa a + 0 ≤ _; omega
          exact (keep1 hp r fun a z => by have := dis a; omega).append (keep1 hp (.cons ra (.nil (f := fun _ => 0) fun _ => rfl) (h := fa) fun _ => rfl) fun a z => by have := dis a; rw [hh] at this; omega)
    · cases hg
  · cases hg
def gInsert : List D → List D → Option (D × List D)
  | ds, [.int i, d] => if szOk (ds.length + 1) = true ∧ 0 ≤ i ∧ i < 2 ^ 63 then some (.non, ds.take i.toNat ++ [d] ++ ds.drop i.toNat) else none
  | _, _ => none
theorem Rps.cutAt {K : PySem.W.Frag} {S H : Hp} {ca : List Addr} : ∀ {ds : List D} {vs : List V} {g : Fp} (n : Nat), Rps K cA S H ca ds vs g → ∃ a b : Fp, Rps K cA S H ca (ds.take n) (vs.take n) a ∧ Rps K cA S H ca (ds.drop n) (vs.drop n) b ∧ ∀ x, g x = a x + b x
  | _, _, g, 0, r => ⟨fun _ => 0, g, .nil fun _ => rfl, r, fun x => by show g x = 0 + g x; omega⟩
  | _, _, g, n + 1, .nil h => ⟨g, fun _ => 0, .nil h, .nil fun _ => rfl, fun x => rfl⟩
  | _, _, _, n + 1, .cons (f := f0) r t hh => by
    obtain ⟨a, b, h1, h2, h3⟩ := t.cutAt n
    exact ⟨fun x => f0 x + a x, b, .cons r h1 fun _ => rfl, h2, fun x => by rw [hh, h3]; show _ = f0 x + a x + b x; omega⟩
theorem md_insert : MtD cA X "list.insert" gInsert := by
  rintro pins s σ H x xs v us Q I rx rv ⟨p, S, ca, ds, es, vs, g1, f1, d, ds', rfl, hp, sub, hs, r, re, dis, hg, k⟩
  unfold gInsert at hg
  split at hg
  · rename_i i d0
    split at hg
    · rename_i hz
      cases hg
      have hz' := sz_of hz.1
      have hl := r.length
      obtain ⟨w1, w2, fa, fb, rfl, ra, rb, hh⟩ := re.two
      obtain ⟨rfl, fa0⟩ := ra.i
      refine mt_insert pins s σ H _ _ v us Q I rx rv ⟨p, vs, i, w2, rfl, rfl, hp, by omega, hz.2.1, hz.2.2, ?_⟩
      obtain ⟨a1, b1, t1, t2, hab⟩ := (keep1 (ws := vs.take i.toNat ++ [w2] ++ vs.drop i.toNat) hp r fun a z => by have := dis a; omega).cutAt i.toNat
      refine k .non _ (fun a => a1 a + fb a + b1 a) (fun _ => 0) ?_ (.non fun _ => rfl) fun a => by rw [hab, hh]; show a1 a + fb a + b1 a + 0 ≤ _; omega
      exact (t1.append (keep1 hp (.cons rb (.nil (f := fun _ => 0) fun _ => rfl) (h := fb) fun _ => rfl) fun a z => by have := dis a; rw [hh] at this; omega)).append t2
    · cases hg
  · cases hg
def gPop : List D → List D → Option (D × List D)
  | ds, [.int i] => if -(2 ^ 63) ≤ i ∧ i < 2 ^ 63 then (match seqIndex? i ds.length with
    | some k => (match ds[k]? with
      | some d => some (d, ds.eraseIdx k)
      | none => none)
    | none => none) else none
  | _, _ => none
theorem md_pop : MtD cA X "list.pop" gPop := by
  rintro pins s σ H x xs v us Q I rx rv ⟨p, S, ca, ds, es, vs, g1, f1, d, ds', rfl, hp, sub, hs, r, re, dis, hg, k⟩
  unfold gPop at hg
  split at hg
  · rename_i i
    split at hg
    · rename_i hi
      split at hg
      · rename_i j hj
        split at hg
        · rename_i d0 hd
          cases hg
          obtain ⟨w, fa, rfl, ra, _⟩ := re.one
          obtain ⟨rfl, fa0⟩ := ra.i
          obtain ⟨y, fy, gy, hy, ry, r2, hsum⟩ := r.erase j hd
          refine mt_popAt pins s σ H _ _ v us Q I rx rv ⟨p, vs, i, j, y, rfl, rfl, hp, hi.1, hi.2, by rw [r.length]; exact hj, hy, ?_⟩
          refine k y _ gy fy (keep1 hp r2 fun a z => ?_) (ry.keep (upd_tr hp rfl) fun a z => ?_) fun a => by rw [hsum]; omega
          · have := dis a; rw [hsum] at this; omega
          · have := dis a; rw [hsum] at this; omega
        · cases hg
      · cases hg
    · cases hg
  · cases hg
def gPop0 : List D → List D → Option (D × List D)
  | ds, [] => (match ds[ds.length - 1]? with
    | some d => some (d, ds.eraseIdx (ds.length - 1))
    | none => none)
  | _, _ => none
def gClear : List D → List D → Option (D × List D)
  | _, [] => some (.non, [])
  | _, _ => none
def gRev : List D → List D → Option (D × List D)
  | ds, [] => some (.non, ds.reverse)
  | _, _ => none
/-! ### x[k] = v, x[k] op= v, x op= v -/
def gSet (k : D) (d : D) (ds : List D) : Option (List D) := match k with
  | .int i => (match ixN ds.length i with
    | some j => some (ds.set j d)
    | none => none)
  | _ => none
def mStoreI (i : Nat) (b : Od) (m : Mo D) : Ms := fun env st => match m env st with
  | some (d, e1, s1) => (match placeGet i e1 s1 with
    | some _ => (match od1 b e1 s1 with
      | some (k, e2, s2) => (match placeGet i e2 s2 with
        | some ds => (match gSet k d ds with
          | some ds' => some (.nx, (placeSet i ds' e2 s2).1, (placeSet i ds' e2 s2).2)
          | none => none)
        | none => none)
      | none => none)
    | none => none)
  | none => none
theorem pds_storeI {i : Nat} {x : Str} {ek ev : Expr} {b : Od} {m : Mo D} {p tpos pos : Pos} (hx : PE X (.Name x p) (tVar i)) (hk : PO' cA X ek b) (hv : PD cA X ev m)
    (ha : ∀ v, assign (.Subscript (.Name x p) ek tpos) X.env v = (do
      let ov ← holding [v] (eval (.Name x p) X.env); let iv ← holding [v, ov] (eval ek X.env); standAt tpos; holding [v, ov, iv] (setItem ov iv v); release [v, ov, iv] []) := by intro _; rfl)
    (hs : swapsWithSole [.Subscript (.Name x p) ek tpos] ev pos.line X.env = pure false := by rfl) (hw : swappedStores [.Subscript (.Name x p) ek tpos] ev X.env = pure none := by rfl) (h1 : (assignEach [.Subscript (.Name x p) ek tpos] X.env).map (·.2) = [assign (.Subscript (.Name x p) ek tpos) X.env] := by rfl) :
    PDS cA X (.Assign [.Subscript (.Name x p) ek tpos] ev pos) (mStoreI i b m) :=
  ps_w (ps_asg hv (pg_sub hx hk set_list ha) hs hw h1) fun D σ H ⟨S, ca, env, st, ow, A, fl, env', st', t, hm, k⟩ => by
    unfold mStoreI at hm
    split at hm
    · rename_i d e1 s1 h1
      split at hm
      · rename_i ds0 h0
        split at hm
        · rename_i kk e2 s2 h2
          split at hm
          · rename_i ds h3
            split at hm
            · rename_i ds' h4
              obtain ⟨rfl, rfl, rfl⟩ := inj3 hm
              refine ⟨S, ca, env, st, ow, A, d, e1, s1, t, h1, fun v S1 H1 ca1 ow1 A1 f1 p1 => ?_⟩
              obtain ⟨p0, vs0, hσ0, hp0⟩ := p1.st.place0 h0
              refine ⟨.ref p0, hσ0, od1_w p1.st h2 fun u S2 H2 ca2 ow2 A2 f2 fk p2 rk => ?_⟩
              have p := p1.both kp_d p2
              obtain ⟨q, vs, g1, hσ, hp, hs, r, dis, back⟩ := p.place h3
              rw [hσ0] at hσ
              cases hσ
              obtain ⟨ga, gb, hg, ra, _⟩ := p.rp
              unfold gSet at h4
              split at h4
              · rename_i ii
                split at h4
                · rename_i j hj
                  cases h4
                  obtain ⟨rfl, _⟩ := rk.i
                  refine ⟨p0, vs, ii, j, rfl, rfl, hp, by rw [r.length]; exact hj, ?_⟩
                  have u : Tr (fun a => if a = p0 then 1 else 0) S2 H2 S2 (upd H2 p0 (.lst (vs.set j v))) ca2 ca2 := upd_tr hp rfl
                  have dis2 : ∀ a, (if a = p0 then 1 else 0) + g1 a + (f1 a + f2 a) ≤ 1 := dis
                  have hg2 : ∀ a, f1 a + f2 a = ga a + gb a := hg
                  have jl : j < ds.length := (ixN_seq hj).2.1
                  obtain ⟨g', r', l'⟩ := (r.keep u fun a z => by have := dis2 a; omega).set j (ra.keep u fun a z => by have := dis2 a; have := hg2 a; omega) jl
                  obtain ⟨ow3, A3, p3⟩ := back (fr := fun _ => 0) (R' := r0) r' (fun _ => rfl) fun a => by have := l' a; have := hg2 a; show g' a + 0 ≤ g1 a + (f1 a + f2 a); omega
                  exact k _ _ _ _ _ _ p3
                · cases h4
              · cases h4
            · cases hm
          · cases hm
        · cases hm
      · cases hm
    · cases hm
/-- x op= e, the value a number, a text -/
def IpD (cA : Str → Addr) (X : Cx) (op : Operator) (g : D → D → Option D) : Prop :=
  PIp X op (fun x y H Q => ∃ S ca d1 d2 f1 f2 d, (∀ a o, S a = some o → H a = some o) ∧ Rp X.K cA S H ca d1 x f1 ∧ Rp X.K cA S H ca d2 y f2 ∧ g d1 d2 = some d ∧ Res X.K cA S H ca d Q)
def addI : D → D → Option D
  | .int i, .int j => some (.int (i + j))
  | _, _ => none
theorem id_add : IpD cA X .Add addI := by
  rintro pins s σ H x y v u Q I rx ry ⟨S, ca, d1, d2, f1, f2, d, sub, r1, r2, hg, k⟩
  unfold addI at hg
  split at hg
  · obtain ⟨rfl, _⟩ := r1.i
    obtain ⟨rfl, _⟩ := r2.i
    cases hg
    exact ip_add pins s σ H _ _ v u Q I rx ry ⟨_, _, rfl, rfl, k.at rp_int0⟩
  · cases hg
/-! ### while -/
def whileL (c : Mo D) (body : Ms) : Nat → Ms
  | 0, _, _ => none
  | n + 1, env, st => match c env st with
    | some (.bl k, e1, s1) => if k = true then (match body e1 s1 with
        | some (.nx, e2, s2) => whileL c body n e2 s2
        | some (.ct, e2, s2) => whileL c body n e2 s2
        | some (.bk, e2, s2) => some (.nx, e2, s2)
        | some (.rt r, e2, s2) => some (.rt r, e2, s2)
        | none => none)
      else some (.nx, e1, s1)
    | _ => none
theorem pds_while {ec : Expr} {body : List Stmt} {c : Mo D} {mb : Ms} {pos : Pos} (N : Nat) (hp : PassesOwn (model X.prog X.w) X.A X.env X.xe) (hc : PB cA X ec c) (hb : PDSs cA X body mb) : PDS cA X (.While ec body [] pos) (whileL c mb N) :=
  ps_w (ps_while hp hc hb) fun D σ H ⟨S, ca, env, st, ow, A, fl, env', st', t, hm, k⟩ => by
    refine ⟨fun n σ' H' => ∃ S' ca' env1 st1 ow' A', Post X.K cA σ' S H ca ow A env1 st1 r0 S' H' ca' ow' A' (fun _ => 0) ∧ whileL c mb n env1 st1 = some (fl, env', st'), ⟨N, S, ca, env, st, ow, A, t.z0, hm⟩, ?_⟩
    rintro n σ1 H1 ⟨S1, ca1, e1, s1, ow1, A1, p, hw⟩
    cases n with
    | zero => cases hw
    | succ n =>
      unfold whileL at hw
      split at hw
      · rename_i b e2 s2 h1
        refine ⟨S1, ca1, e1, s1, ow1, A1, _, e2, s2, p.st, h1, fun v S2 H2 ca2 ow2 A2 f2 p2 => ⟨b, p2.rp.b.1, ?_⟩⟩
        have p3 := p.then p2
        split at hw
        · rename_i hb
          dsimp only
          rw [if_pos hb]
          refine ⟨fun σ' H' => ∃ S' ca' env1 st1 ow' A', Post X.K cA σ' S H ca ow A env1 st1 r0 S' H' ca' ow' A' (fun _ => 0) ∧ whileL c mb n env1 st1 = some (fl, env', st'), fun σ' H' ⟨S', ca', env1, st1, ow', A', q1, q2⟩ => ⟨n, Nat.lt_succ_self n, S', ca', env1, st1, ow', A', q1, q2⟩, ?_⟩
          split at hw
          · rename_i e3 s3 h3
            exact ⟨S2, ca2, e2, s2, ow2, A2, .nx, e3, s3, p2.st, h3, fun σ4 S4 H4 ca4 ow4 A4 q => ⟨S4, ca4, e3, s3, ow4, A4, p3.then q, hw⟩⟩
          · rename_i e3 s3 h3
            exact ⟨S2, ca2, e2, s2, ow2, A2, .ct, e3, s3, p2.st, h3, fun σ4 S4 H4 ca4 ow4 A4 q => ⟨S4, ca4, e3, s3, ow4, A4, p3.then q, hw⟩⟩
          · rename_i e3 s3 h3
            obtain ⟨rfl, rfl, rfl⟩ := inj3 hw
            exact ⟨S2, ca2, e2, s2, ow2, A2, .bk, _, _, p2.st, h3, fun σ4 S4 H4 ca4 ow4 A4 q => k _ _ _ _ _ _ (p3.then q)⟩
          · rename_i r e3 s3 h3
            obtain ⟨rfl, rfl, rfl⟩ := inj3 hw
            exact ⟨S2, ca2, e2, s2, ow2, A2, .rt r, _, _, p2.st, h3, fun v σ4 S4 H4 ca4 ow4 A4 f4 q => k _ _ _ _ _ _ _ _ (p3.then q)⟩
          · cases hw
        · rename_i hb
          obtain ⟨rfl, rfl, rfl⟩ := inj3 hw
          dsimp only
          rw [if_neg hb]
          exact k _ _ _ _ _ _ p3.z0
      · cases hw
end
end Fw

set_option Elab.async false
set_option linter.all false
set_option maxRecDepth 100000
namespace Fw
open PySem PySem.Spec PyProof.Rows L2

section
variable {X : Cx} {cA : Str → Addr}
/-! ### isinstance(x, T), T a built-in type -/
def D.ty : D → Option String
  | .non => some "NoneType"
  | .bl _ => some "bool"
  | .int _ => some "int"
  | .str _ => some "str"
  | .lst _ _ => some "list"
  | .tup _ => some "tuple"
  | .dic _ _ => some "dict"
  | _ => none
theorem Rp.tyx {K : PySem.W.Frag} {S H : Hp} {ca : List Addr} {d : D} {v : V} {f : Fp} {T : String} (sub : ∀ a u, S a = some u → H a = some u) (r : Rp K cA S H ca d v f) (h : d.ty = some T) : TyX K H v (.type T) := by
  cases r with
  | non _ => cases h; exact .base .non
  | unk _ => cases h
  | bl b _ => cases h; exact .base (.bl b)
  | int i _ => cases h; exact .base (.int i)
  | str x _ => cases h; exact .base (.str x)
  | lstO h1 _ _ _ => cases h; exact .base (.lst h1)
  | lstS h1 _ _ _ => cases h; exact .base (.lst (sub _ _ h1))
  | tup h1 _ =>
    cases h
    rcases h1 with (h1 | ⟨o, h1⟩) | ⟨o, its, n, hk, hc, _⟩
    · exact .base (.tup h1)
    · exact .fTuple h1
    · exact .kTuple hk hc
  | dicO h1 _ _ _ => cases h; exact .base (.dK h1)
  | dicS h1 _ _ _ => cases h; exact .base (.dK (sub _ _ h1))
  | objO _ _ _ _ => cases h
  | objS _ _ _ _ => cases h
  | cel _ _ => cases h
  | scr _ _ => cases h
/-- which of the built-in types are which others -/
def subTy (a b : String) : Option Bool := kitB a b
def isiD (T : String) (x : D) : Option D := match x.ty with
  | some a => (kitB a T).map .bl
  | none => none
theorem pd_isi {T : String} {xt : Str} {e : Expr} {a : Od} {p pt pos : Pos} (hg : Gl X "isinstance") (hm : X.mg "isinstance" = none) (hgt : Gl X xt) (hmt : X.mg xt = none) (hvt : bootBuiltins xt = some (.type T)) (ha : PO' cA X e a)
    (hs : starEach [e, .Name xt pt] X.env = (false, eval e X.env) :: starEach [.Name xt pt] X.env := by rfl) (hs2 : starEach [.Name xt pt] X.env = (false, eval (.Name xt pt) X.env) :: starEach [] X.env := by rfl) (hpl : (backTo pos (starEach [.Name xt pt] X.env)).any (·.1) = false := by rfl)
    (hn : xt ≠ "__name__" := by decide) (hdb : (xt == ("__debug__" : Str)) = false := by decide) : PD cA X (.Call (.Name "isinstance" p) [e, .Name xt pt] [] pos) (mUn (isiD T) a) :=
  pe_w (pe_callB call_isi hg hm (by decide +kernel) (pa_cons ha (pa_cons (pe_bltn hgt hmt hvt (show RelV (.ty T) (.type T) from rfl) hn hdb) pa_nil hs2) hs) (by decide) (by decide) hs hpl) fun σ H Q h =>
    un_w (r := fun x H1 => rIsi X.K [x, .ty T] H1 Q) h fun x H1 ⟨S, ca, d1, f1, d, sub, r, hg, k⟩ => by
      unfold isiD at hg
      split at hg
      · rename_i ta ht
        cases q : kitB ta T with
        | none => rw [q] at hg; cases hg
        | some b =>
          rw [q] at hg
          cases hg
          exact ⟨x, .ty T, .type ta, .type T, b, rfl, .ty T, r.tyx sub ht, kit_ty q, k.at rp_bl0⟩
      · cases hg
/-! ### x in y -/
def inD (x y : D) : Option Bool := match y with
  | .str z => (match x with
    | .str s => if s.length = 1 then (s.cps[0]?).map fun c => decide (c ∈ z.cps.toList) else none
    | _ => none)
  | .lst _ ys => (match x.pd, D.pds ys with
    | some a, some bs => if SeqAt.shaped a = true ∧ SeqAt.shaped (.list bs) = true then some (bs.any fun z => PyData.eqv z a) else none
    | _, _ => none)
  | _ => none
theorem one_sign {s : Str} {c : Nat} (h : s.length = 1) (e : s.cps[0]? = some c) : s = ⟨#[c]⟩ := by
  obtain ⟨a⟩ := s
  have h : a.size = 1 := h
  have e : a[0]? = some c := e
  congr
  apply Array.ext
  · rw [h]; rfl
  · intro i h1 h2
    have : i = 0 := by omega
    subst this
    have := Array.getElem?_eq_some_iff.mp e
    exact this.2
theorem od_in (hu : X.A.units + 65 < cLine) : OpD cA X (compareOp .In) (fun x y => (inD x y).map .bl) := by
  rintro pins s σ H x y v u Q I rx ry ⟨S, ca, d1, d2, f1, f2, d, sub, r1, r2, hg, k⟩
  dsimp only at hg
  cases e : inD d1 d2 with
  | none => rw [e] at hg; cases hg
  | some b =>
    rw [e] at hg
    cases hg
    unfold inD at e
    split at e
    · rename_i z
      split at e
      · rename_i s0
        split at e
        · rename_i hl
          cases q : s0.cps[0]? with
          | none => rw [q] at e; cases e
          | some c =>
            rw [q] at e
            cases e
            obtain ⟨rfl, _⟩ := r1.s
            obtain ⟨rfl, _⟩ := r2.s
            exact op_in_sign pins s σ H _ _ v u Q I rx ry ⟨c, z, by rw [one_sign hl q], rfl, k.at rp_bl0⟩
        · cases e
      · cases e
    · rename_i o ys
      split at e
      · rename_i a bs ha hb
        split at e
        · rename_i hs
          cases e
          exact op_inD hu pins s σ H _ _ v u Q I rx ry ⟨a, bs, r1.dp sub ha, r2.dp sub (by simp only [D.pd, hb, Option.map_some]), hs.1, hs.2, k.at rp_bl0⟩
        · cases e
      · cases e
    · cases e
/-! ### products, powers -/
/-- a text, so many times -/
def repS (x : Str) (k : Int) : Str := ⟨((List.replicate k.toNat x.cps.toList).flatten).toArray⟩
theorem foldl_rep (a : Array Nat) : ∀ (n : Nat) (acc : Array Nat), (List.replicate n a).foldl (· ++ ·) acc = ⟨acc.toList ++ (List.replicate n a.toList).flatten⟩
  | 0, acc => by simp
  | n + 1, acc => by
    rw [List.replicate_succ, List.foldl_cons, foldl_rep a n, List.replicate_succ, List.flatten_cons]
    simp
theorem op_repS : OpR X (binaryOp .Mult) (fun x y H Q => ∃ z k, x = .str z ∧ y = .int k ∧ 0 ≤ k ∧ k ≤ 1000 ∧ z.length ≤ 1000 ∧ Q (.str (repS z k)) H) := by
  intro pins s σ H x y v u Q I rx ry h
  obtain ⟨z, k, rfl, rfl, h0, h1, hz, q⟩ := h
  obtain ⟨t, rfl⟩ := rx
  obtain ⟨t', rfl⟩ := ry
  have hf : ((List.replicate k.toNat z.cps).foldl (· ++ ·) #[] : Array Nat) = (repS z k).cps := by
    rw [foldl_rep]; simp [repS]
  have hsmall : z.length * k.toNat ≤ 1000000 := by
    have : k.toNat ≤ 1000 := by omega
    exact Nat.mul_le_mul hz this
  refine P.mul_str ?_ ?_ ?_ ?_
  · rw [decide_eq_false (by omega), decide_eq_false (by omega)]; rfl
  · intro a b
    have hk : 0 < k := by omega
    have e1 : (1000 : Int) ≤ (2 ^ 63 - 1) / k := by
      rw [Int.le_ediv_iff_mul_le hk]
      have : (1000 : Int) * k ≤ 1000 * 1000 := by omega
      omega
    omega
  · intro a b
    unfold Builtin.Str.tooLong
    refine decide_eq_false ?_
    rw [sizeLine_eq]
    omega
  · split
    · rename_i hk
      have e : repS z k = Str.empty := by
        have : k.toNat = 0 := by omega
        simp [repS, this, Str.empty]
      refine ⟨by decide, ?_⟩
      rw [e] at q
      exact ⟨.str Str.empty, H, I.tok _, ⟨_, rfl⟩, q⟩
    · split
      · rename_i hk hb
        have e : repS z k = z := by
          rw [Bool.or_eq_true] at hb
          rcases hb with w | w
          · have : k = 1 := by simpa using w
            subst this
            simp [repS]
          · have hl : z.cps.toList = [] := by
              have : z.cps.size = 0 := by simpa [Str.length] using w
              simpa [List.eq_nil_iff_length_eq_zero] using this
            have hzz : z = ⟨#[]⟩ := by
              cases z with
              | mk c =>
                have : c.toList = [] := hl
                have : c = #[] := by simpa using this
                rw [this]
            rw [hzz]
            have gen : ∀ n : Nat, ((List.replicate n ([] : List Nat)).flatten) = [] := fun n => by
              induction n with
              | zero => rfl
              | succ n ih => rw [List.replicate_succ, List.flatten_cons, ih]; rfl
            show (⟨((List.replicate k.toNat ([] : List Nat)).flatten).toArray⟩ : Str) = ⟨#[]⟩
            rw [gen]
        rw [e] at q
        exact ⟨.str z, H, I, ⟨_, rfl⟩, q⟩
      · refine ⟨?_, ?_⟩
        · rw [hf]
          have : (repS z k).cps.size = z.length * k.toNat := by
            simp [repS, Str.length, Nat.mul_comm]
          show (repS z k).cps.size ≤ sizeLine
          rw [this, sizeLine_eq]; omega
        · rw [hf]
          exact ⟨.str (repS z k), H, I.tok _, ⟨_, rfl⟩, q⟩
def mulOk (i j : Int) : Bool := decide ((-(2 ^ 64) < i ∧ i < 2 ^ 64) ∨ (-(2 ^ 64) < j ∧ j < 2 ^ 64)) || decide (i.natAbs.log2 + j.natAbs.log2 < 1000000)
def repL (k : Int) (xs : List D) : List D := (List.replicate k.toNat xs).flatten
def mulD : D → D → Option D
  | .int i, .int j => if mulOk i j = true then some (.int (i * j)) else none
  | .lst _ xs, .int k => if -(2 ^ 63) ≤ k ∧ k < 2 ^ 63 ∧ szOk (xs.length * k.toNat) = true ∧ D.frs xs = true then some (.lst true (repL k xs)) else none
  | .str z, .int k => if 0 ≤ k ∧ k ≤ 1000 ∧ z.length ≤ 1000 then some (.str (repS z k)) else none
  | _, _ => none
theorem Rps.rep {K : PySem.W.Frag} {S H : Hp} {ca : List Addr} {ds : List D} {vs : List V} (r : Rps K cA S H ca ds vs (fun _ => 0)) : ∀ n : Nat, Rps K cA S H ca (List.replicate n ds).flatten (List.replicate n vs).flatten (fun _ => 0)
  | 0 => .nil fun _ => rfl
  | n + 1 => by
    rw [List.replicate_succ, List.replicate_succ, List.flatten_cons, List.flatten_cons]
    exact r.append (r.rep n)
theorem cmul_of {i j : Int} (h : decide ((-(2 ^ 64) < i ∧ i < 2 ^ 64) ∨ (-(2 ^ 64) < j ∧ j < 2 ^ 64)) = true) : CMul i j := by simpa [CMul] using h
theorem cmulw_of {i j : Int} (h : decide (i.natAbs.log2 + j.natAbs.log2 < 1000000) = true) : CMulW i j := by simpa [CMulW] using h
theorem od_mul : OpD cA X (binaryOp .Mult) mulD := by
  rintro pins s σ H x y v u Q I rx ry ⟨S, ca, d1, d2, f1, f2, d, sub, r1, r2, hg, k⟩
  unfold mulD at hg
  split at hg
  · rename_i i j
    split at hg
    · rename_i hz
      cases hg
      obtain ⟨rfl, _⟩ := r1.i
      obtain ⟨rfl, _⟩ := r2.i
      have q := k.at (rp_int0 (i := i * j))
      unfold mulOk at hz
      rw [Bool.or_eq_true] at hz
      rcases hz with hz | hz
      · exact op_mul pins s σ H _ _ v u Q I rx ry ⟨i, j, rfl, rfl, cmul_of hz, q⟩
      · exact op_mulW pins s σ H _ _ v u Q I rx ry ⟨i, j, rfl, rfl, cmulw_of hz, q⟩
    · cases hg
  · rename_i o xs kk
    split at hg
    · rename_i hz
      cases hg
      obtain ⟨p, vs, g, rfl, h1, q, _⟩ := r1.l sub
      obtain ⟨rfl, _⟩ := r2.i
      exact op_rep pins s σ H _ _ v u Q I rx ry ⟨p, kk, vs, rfl, rfl, h1, hz.1, hz.2.1, by rw [q.length]; exact sz_of hz.2.2.1, fun p np => k.lst sub np ((q.f0 (q.fr0 hz.2.2.2)).rep _)⟩
    · cases hg
  · rename_i z kk
    split at hg
    · rename_i hz
      cases hg
      obtain ⟨rfl, _⟩ := r1.s
      obtain ⟨rfl, _⟩ := r2.i
      exact op_repS pins s σ H _ _ v u Q I rx ry ⟨z, kk, rfl, rfl, hz.1, hz.2.1, hz.2.2, k.at rp_str0⟩
    · cases hg
  · cases hg
def powD : D → D → Option D
  | .int i, .int j => if 0 ≤ j ∧ j ≤ 1000000 ∧ i.natAbs < 2 ^ 64 then some (.int (i ^ j.toNat)) else none
  | _, _ => none
theorem od_pow : OpD cA X (binaryOp .Pow) powD := fun pins s σ H x y v u Q I rx ry ⟨S, ca, d1, d2, f1, f2, d, sub, r1, r2, hg, k⟩ =>
  od_ints (C := fun i j => 0 ≤ j ∧ j ≤ 1000000 ∧ i.natAbs < 2 ^ 64) op_pow pins s σ H x y v u Q I rx ry ⟨S, ca, d1, d2, f1, f2, d, sub, r1, r2, hg, k⟩
/-! ### join -/
def strsOf : List D → Option (List Str)
  | [] => some []
  | .str b :: r => (strsOf r).map (b :: ·)
  | _ => none
theorem strsOf_eq : ∀ {xs : List D} {bs : List Str}, strsOf xs = some bs → xs = bs.map D.str
  | [], bs, h => by simp only [strsOf, Option.some.injEq] at h; subst h; rfl
  | .str b :: r, bs, h => by
    simp only [strsOf] at h
    cases e : strsOf r with
    | none => rw [e] at h; cases h
    | some cs =>
      rw [e] at h
      simp only [Option.map_some, Option.some.injEq] at h
      subst h
      rw [List.map_cons, strsOf_eq e]
  | .non :: r, bs, h => by simp [strsOf] at h
  | .unk :: r, bs, h => by simp [strsOf] at h
  | .int _ :: r, bs, h => by simp [strsOf] at h
  | .bl _ :: r, bs, h => by simp [strsOf] at h
  | .lst _ _ :: r, bs, h => by simp [strsOf] at h
  | .tup _ :: r, bs, h => by simp [strsOf] at h
  | .dic _ _ :: r, bs, h => by simp [strsOf] at h
  | .obj _ _ _ :: r, bs, h => by simp [strsOf] at h
  | .cel _ :: r, bs, h => by simp [strsOf] at h
  | .scr _ :: r, bs, h => by simp [strsOf] at h
def joinD : D → D → Option D
  | .str a, .lst _ xs => (match strsOf xs with
    | some ys => if (ys.map (·.length)).sum + ys.length * a.length ≤ 16777216 then some (.str (Txt.join a ys)) else none
    | none => none)
  | _, _ => none
/-- 'sep'.join(..), the separator written -/
def mJoin (sep : Str) (b : Od) : Mo D := mUn (fun y => joinD (.str sep) y) b
theorem pd_join {sep : Str} {j : Nat} {e : Expr} {b : Od} {p1 apos pos : Pos} (hb : PO' cA X e b) (hs : starEach [e] X.env = [(false, eval e X.env)] := by rfl)
    (hbase : attributeBase (.Constant (.str sep) j p1) "join" X.env (eval (.Constant (.str sep) j p1) X.env) = eval (.Constant (.str sep) j p1) X.env := by rfl) (hline : (apos.endLine == pos.line) = true := by rfl) :
    PD cA X (.Call (.Attribute (.Constant (.str sep) j p1) "join" apos) [e] [] pos) (mJoin sep b) :=
  pe_w (pe_join pe_str hb hs hbase hline) fun σ H Q h => ⟨⟨sep, rfl⟩, un_w h fun y H1 ⟨S, ca, d1, f1, d, sub, r, hg, k⟩ => by
    unfold joinD at hg
    split at hg
    · rename_i a o xs e1
      cases e1
      split at hg
      · rename_i ys hy
        split at hg
        · rename_i hz
          cases hg
          obtain ⟨p, vs, g, rfl, h1, q, _⟩ := r.l sub
          rw [strsOf_eq hy] at q
          rw [q.strs] at h1
          exact ⟨sep, p, ys, rfl, rfl, .inl (SqL.of h1), hz, k.at rp_str0⟩
        · cases hg
      · cases hg
    · cases hg⟩
/-! ### min, max of two numbers -/
def mFn2 (g : List D → Option D) (a : Mo (List D)) : Mo D := fun env st => match a env st with
  | some (ds, e1, s1) => (match g ds with
    | some d => some (d, e1, s1)
    | none => none)
  | none => none
def FnDs (cA : Str → Addr) (X : Cx) (fn : Value) (g : List D → Option D) : Prop :=
  CallR X fn (fun xs H Q => ∃ S ca ds fs d, (∀ a o, S a = some o → H a = some o) ∧ Rps X.K cA S H ca ds xs fs ∧ g ds = some d ∧ Res X.K cA S H ca d Q)
theorem fns_w {a : Mo (List D)} {g : List D → Option D} {K : PySem.W.Frag} {σ : L2.St} {H : Hp} {Q : VK} (h : tE cA (mFn2 g a) K σ H Q) :
    tCB (fun xs H Q => ∃ S ca ds fs d, (∀ a o, S a = some o → H a = some o) ∧ Rps K cA S H ca ds xs fs ∧ g ds = some d ∧ Res K cA S H ca d Q) (tA cA a K) σ H Q := by
  obtain ⟨S, ca, env, st, ow, A, d', env', st', t, hm, q⟩ := h
  unfold mFn2 at hm
  split at hm
  · rename_i ds e1 s1 h1
    split at hm
    · rename_i d hd
      obtain ⟨rfl, rfl, rfl⟩ := inj3 hm
      exact ⟨S, ca, env, st, ow, A, ds, _, _, t, h1, fun vs S1 H1 ca1 ow1 A1 f1 p1 => ⟨S1, ca1, ds, f1, d, p1.st.sub, p1.rp, hd, p1.res q⟩⟩
    · cases hm
  · cases hm
theorem pd_fns {id : String} {x : Str} {e : Expr} {es : List Expr} {a : Mo (List D)} {g : List D → Option D} {p pos : Pos} (hc : FnDs cA X (.builtin id) g) (hg : Gl X x) (hm : X.mg x = none) (hv : bootBuiltins x = some (.builtin id)) (ha : PDs cA X (e :: es) a)
    (he : starEach (e :: es) X.env = (false, eval e X.env) :: starEach es X.env := by rfl) (hpl : (backTo pos (starEach es X.env)).any (·.1) = false := by rfl) (hn : x ≠ "__name__" := by decide) (hdb : (x == ("__debug__" : Str)) = false := by decide) : PD cA X (.Call (.Name x p) (e :: es) [] pos) (mFn2 g a) :=
  pe_w (pe_callB hc hg hm hv ha hn hdb he hpl) fun σ H Q h => fns_w h
def min2D : List D → Option D
  | [.int i, .int j] => some (.int (if j < i then j else i))
  | _ => none
def max2D : List D → Option D
  | [.int i, .int j] => some (.int (if j > i then j else i))
  | _ => none
theorem fds_min (hc : X.calm = true) : FnDs cA X (.builtin "min") min2D := by
  rintro pins s σ H xs us Q I rv ⟨S, ca, ds, fs, d, sub, r, hg, k⟩
  unfold min2D at hg
  split at hg
  · cases hg
    obtain ⟨v, w, g, h, rfl, r1, r2, _⟩ := r.two
    obtain ⟨rfl, _⟩ := r1.i
    obtain ⟨rfl, _⟩ := r2.i
    exact call_min2 hc pins s σ H _ us Q I rv ⟨_, _, rfl, k.at rp_int0⟩
  · cases hg
/-- a chain of two comparisons -/
def mChain (g h : D → D → Option D) (a b c : Mo D) : Mo D := fun env st => match a env st with
  | some (x, e1, s1) => (match b e1 s1 with
    | some (y, e2, s2) => (match g x y with
      | some (.bl k) => if k = true then (match c e2 s2 with
          | some (z, e3, s3) => (match h y z with
            | some w => some (w, e3, s3)
            | none => none)
          | none => none)
        else some (.bl false, e2, s2)
      | _ => none)
    | none => none)
  | none => none
theorem chain_w {a b c : Mo D} {g h : D → D → Option D} {r r' : R2} {K : PySem.W.Frag} {σ : L2.St} {H : Hp} {Q : VK} (hh : tE cA (mChain g h a b c) K σ H Q)
    (hr : ∀ x y H Q, (∃ S ca d1 d2 f1 f2 d, (∀ a o, S a = some o → H a = some o) ∧ Rp K cA S H ca d1 x f1 ∧ Rp K cA S H ca d2 y f2 ∧ g d1 d2 = some d ∧ Res K cA S H ca d Q) → r x y H Q)
    (hr' : ∀ x y H Q, (∃ S ca d1 d2 f1 f2 d, (∀ a o, S a = some o → H a = some o) ∧ Rp K cA S H ca d1 x f1 ∧ Rp K cA S H ca d2 y f2 ∧ h d1 d2 = some d ∧ Res K cA S H ca d Q) → r' x y H Q) : tChain r r' (tE cA a K) (tE cA b K) (tE cA c K) σ H Q := by
  obtain ⟨S, ca, env, st, ow, A, d', env', st', t, hm, q⟩ := hh
  unfold mChain at hm
  split at hm
  · rename_i x e1 s1 h1
    split at hm
    · rename_i y e2 s2 h2
      split at hm
      · rename_i k hk
        refine ⟨S, ca, env, st, ow, A, x, e1, s1, t, h1, fun v1 S1 H1 ca1 ow1 A1 f1 p1 => ⟨S1, ca1, e1, s1, ow1, A1, y, e2, s2, p1.st, h2, fun v2 S2 H2 ca2 ow2 A2 f2 p2 => ?_⟩⟩
        have p := p1.both kp_d p2
        obtain ⟨g1, g2, hg, r1, r2⟩ := p.rp
        refine hr _ _ _ _ ⟨S2, ca2, x, y, g1, g2, _, p.st.sub, r1, r2, hk, fun v H' fv gr rv l1 l2 => ?_⟩
        obtain ⟨rfl, fv0⟩ := rv.b
        refine ⟨k, rfl, ?_⟩
        have tg : Tr (fun _ => 0) S2 H2 S2 H' ca2 ca2 := tr_grow gr
        have p4 : Post K cA σ S H ca ow A e2 s2 (Fw.r2 (rD K cA x v1) (rD K cA y v2)) S2 H' ca2 ow2 A2 (fun a => f1 a + f2 a) := p.grow gr ((kp_2 kp_d kp_d).keep tg p.rp fun _ _ => rfl) (fun a => by have := p.le a; omega) fun a z => .inl z
        split at hm
        · rename_i hkt
          rw [if_pos hkt]
          split at hm
          · rename_i z e3 s3 h3
            split at hm
            · rename_i w hw
              obtain ⟨rfl, rfl, rfl⟩ := inj3 hm
              refine ⟨S2, ca2, e2, s2, ow2, A2, z, _, _, p4.st, h3, fun v3 S3 H3 ca3 ow3 A3 f3 p3 => ?_⟩
              have p5 := p4.both (kp_2 kp_d kp_d) p3
              obtain ⟨ga, gb, hg', ⟨gc, gd, hg2, rx, ry⟩, rz⟩ := p5.rp
              exact hr' _ _ _ _ ⟨S3, ca3, y, z, gd, gb, w, p5.st.sub, ry, rz, hw, p5.res q⟩
            · cases hm
          · cases hm
        · rename_i hkf
          rw [if_neg hkf]
          obtain ⟨rfl, rfl, rfl⟩ := inj3 hm
          exact q _ _ _ _ _ _ _ (p4.imp (g := fun _ => 0) (fun _ => rp_bl0) fun _ => Nat.zero_le _)
      · cases hm
    · cases hm
  · cases hm
theorem pd_chain {op op' : CmpOp} {g h : D → D → Option D} {a b c : Mo D} {ea eb ec : Expr} {pos : Pos} (ho : OpD cA X (compareOp op) g) (ho' : OpD cA X (compareOp op') h) (ha : PD cA X ea a) (hb : PD cA X eb b) (hc : PD cA X ec c) (hm : lastMarks [op, op'] [eb, ec] = false := by with_unfolding_all rfl) :
    PD cA X (.Compare ea [op, op'] [eb, ec] pos) (mChain g h a b c) := pe_w (pe_chain ho ho' ha hb hc hm) fun σ H Q z => chain_w z (fun _ _ _ _ w => w) fun _ _ _ _ w => w
theorem pb_chain {op op' : CmpOp} {g h : D → D → Option D} {a b c : Mo D} {ea eb ec : Expr} {pos : Pos} (ho : OpD cA X (compareOp op) g) (ho' : OpD cA X (compareOp op') h) (ha : PD cA X ea a) (hb : PD cA X eb b) (hc : PD cA X ec c) (hm : lastMarks [op, op'] [eb, ec] = false := by with_unfolding_all rfl) :
    PB cA X (.Compare ea [op, op'] [eb, ec] pos) (mChain g h a b c) := pt_w (pt_chain ho ho' ha hb hc hm) fun σ H Q z => chain_w z (fun _ _ _ _ w => w) fun _ _ _ _ w => w
end
end Fw

set_option Elab.async false
set_option linter.all false
set_option maxRecDepth 100000
/-! repr of what a law draws, dicts too -/
namespace Fw
open PySem PySem.Spec PyProof.Rows L2
def keyPD : Key → PyData
  | .inl i => .int i
  | .inr x => .str x
mutual
def D.sh : D → Option PyData
  | .non => some .none
  | .bl b => some (.bool b)
  | .int i => some (.int i)
  | .str x => some (.str x)
  | .lst _ xs => (D.shs xs).map .list
  | .tup xs => (D.shs xs).map .tuple
  | .dic _ kvs => (D.shk kvs).map .dict
  | _ => none
def D.shs : List D → Option (List PyData)
  | [] => some []
  | d :: r => match d.sh, D.shs r with
    | some x, some xs => some (x :: xs)
    | _, _ => none
def D.shk : List (Key × D) → Option (List (PyData × PyData))
  | [] => some []
  | (k, d) :: r => match d.sh, D.shk r with
    | some x, some xs => some ((keyPD k, x) :: xs)
    | _, _ => none
end
theorem reads_key {h : Heap} (k : Key) (v : Value) (q : keyIs k v = true) : Reads h v (keyPD k) [] := by
  rcases keyIs_shape q with ⟨i, t, rfl, rfl⟩ | ⟨x, t, rfl, rfl⟩
  · exact .int i t
  · exact .str x t
section
variable {X : Cx} {cA : Str → Addr} {pins : List (Addr × Obj)} {σ : L2.St} {S H : Hp} {s : Shared} {ca : List Addr}
theorem notSys (I : Inv X pins σ H s) (sy : ∃ m, X.base.Ns sysModules m) {p : Addr} {o : Obj} {vs : Array Value} {n : Nat} (ho : s.heap.get? p = some o) (hd : o.data = .seq vs n) : p ≠ sysModules := fun e => by
  subst e
  obtain ⟨m, ob, es, ep, h1, h2, _⟩ := sy
  rw [I.bk _ _ h1] at ho
  cases ho
  rw [h2] at hd
  cases hd
mutual
theorem Rp.rd (I : Inv X pins σ H s) (sy : ∃ m, X.base.Ns sysModules m) (sub : ∀ a o, S a = some o → H a = some o) : ∀ {d : D} {v : V} {f : Fp} {e : PyData} {u : Value}, Rp X.K cA S H ca d v f → d.sh = some e → RelV v u → ∃ as, Reads s.heap u e as ∧ sysModules ∉ as
  | _, _, _, e, u, .unk hf, h, r => by simp [D.sh] at h
  | _, _, _, e, u, .non hf, h, r => by
    simp only [D.sh, Option.some.injEq] at h; subst h; cases r; exact ⟨_, .none, by simp⟩
  | _, _, _, e, u, .bl b hf, h, r => by
    simp only [D.sh, Option.some.injEq] at h; subst h; cases r; exact ⟨_, .bool b, by simp⟩
  | _, _, _, e, u, .int i hf, h, r => by
    simp only [D.sh, Option.some.injEq] at h; subst h; obtain ⟨t, rfl⟩ := r; exact ⟨_, .int i t, by simp⟩
  | _, _, _, e, u, .str i hf, h, r => by
    simp only [D.sh, Option.some.injEq] at h; subst h; obtain ⟨t, rfl⟩ := r; exact ⟨_, .str i t, by simp⟩
  | _, _, _, e, u, .lstO (ds := ds) h1 hs q hf, h, r => by
    simp only [D.sh] at h
    cases y : D.shs ds with
    | none => rw [y] at h; cases h
    | some es =>
      rw [y] at h
      simp only [Option.map_some, Option.some.injEq] at h
      subst h
      cases r
      obtain ⟨its, rv, ⟨o, n, ho, hc, _, hd⟩, _⟩ := I.list (SqL.of h1)
      obtain ⟨as, hr, ns⟩ := Rps.rd I sy sub q y rv
      refine ⟨_, Reads.list ho hc hd hr, fun hm => ?_⟩
      rcases List.mem_cons.mp hm with e | e
      · exact notSys I sy ho hd e.symm
      · exact ns e
  | _, _, _, e, u, .lstS (ds := ds) h1 q hg hf, h, r => by
    simp only [D.sh] at h
    cases y : D.shs ds with
    | none => rw [y] at h; cases h
    | some es =>
      rw [y] at h
      simp only [Option.map_some, Option.some.injEq] at h
      subst h
      cases r
      obtain ⟨its, rv, ⟨o, n, ho, hc, _, hd⟩, _⟩ := I.list (SqL.of (sub _ _ h1))
      obtain ⟨as, hr, ns⟩ := Rps.rd I sy sub q y rv
      refine ⟨_, Reads.list ho hc hd hr, fun hm => ?_⟩
      rcases List.mem_cons.mp hm with e | e
      · exact notSys I sy ho hd e.symm
      · exact ns e
  | _, _, _, e, u, .tup (ds := ds) h1 q, h, r => by
    simp only [D.sh] at h
    cases y : D.shs ds with
    | none => rw [y] at h; cases h
    | some es =>
      rw [y] at h
      simp only [Option.map_some, Option.some.injEq] at h
      subst h
      cases r
      obtain ⟨its, rv, ⟨o, ho, hc, n, hd⟩, _⟩ := I.tuple h1
      obtain ⟨as, hr, ns⟩ := Rps.rd I sy sub q y rv
      exact ⟨_, Reads.tuple ho hc hd hr, ns⟩
  | _, _, _, e, u, .dicO (ds := ds) h1 hs q hf, h, r => by
    simp only [D.sh] at h
    cases y : D.shk ds with
    | none => rw [y] at h; cases h
    | some es =>
      rw [y] at h
      simp only [Option.map_some, Option.some.injEq] at h
      subst h
      cases r
      obtain ⟨_, hs, us, rv, dd⟩ := dk_of I.hok h1
      obtain ⟨bs, hr, ns⟩ := Rks.rd I sy sub q y rv
      refine ⟨_, PyProof.V.reads_dictOf (fun k v q => reads_key k v q) dd hr, fun hm => ?_⟩
      rcases List.mem_cons.mp hm with e | e
      · rw [← e] at hs; cases hs
      · exact ns e
  | _, _, _, e, u, .dicS (ds := ds) h1 q hg hf, h, r => by
    simp only [D.sh] at h
    cases y : D.shk ds with
    | none => rw [y] at h; cases h
    | some es =>
      rw [y] at h
      simp only [Option.map_some, Option.some.injEq] at h
      subst h
      cases r
      obtain ⟨_, hs, us, rv, dd⟩ := dk_of I.hok (sub _ _ h1)
      obtain ⟨bs, hr, ns⟩ := Rks.rd I sy sub q y rv
      refine ⟨_, PyProof.V.reads_dictOf (fun k v q => reads_key k v q) dd hr, fun hm => ?_⟩
      rcases List.mem_cons.mp hm with e | e
      · rw [← e] at hs; cases hs
      · exact ns e
  | _, _, _, e, u, .objO _ _ _ _, h, r => by simp [D.sh] at h
  | _, _, _, e, u, .objS _ _ _ _, h, r => by simp [D.sh] at h
  | _, _, _, e, u, .cel _ _, h, r => by simp [D.sh] at h
  | _, _, _, e, u, .scr _ _, h, r => by simp [D.sh] at h
theorem Rps.rd (I : Inv X pins σ H s) (sy : ∃ m, X.base.Ns sysModules m) (sub : ∀ a o, S a = some o → H a = some o) : ∀ {ds : List D} {vs : List V} {f : Fp} {es : List PyData} {us : List Value}, Rps X.K cA S H ca ds vs f → D.shs ds = some es → Vals vs us → ∃ as, ReadsAll s.heap us es as ∧ sysModules ∉ as
  | _, _, _, es, us, .nil hf, h, r => by
    simp only [D.shs, Option.some.injEq] at h; subst h; cases r; exact ⟨_, .nil, by simp⟩
  | _, _, _, es, us, .cons (d := d) (ds := ds) r t hh, h, q => by
    simp only [D.shs] at h
    split at h
    · rename_i x xs h1 h2
      simp only [Option.some.injEq] at h
      subst h
      cases q with
      | cons q1 q2 =>
        obtain ⟨as, a1, a2⟩ := Rp.rd I sy sub r h1 q1
        obtain ⟨bs, b1, b2⟩ := Rps.rd I sy sub t h2 q2
        exact ⟨_, .cons a1 b1, fun hm => (List.mem_append.mp hm).elim a2 b2⟩
    · cases h
theorem Rks.rd (I : Inv X pins σ H s) (sy : ∃ m, X.base.Ns sysModules m) (sub : ∀ a o, S a = some o → H a = some o) : ∀ {ds : List (Key × D)} {vs : List (Key × V)} {f : Fp} {es : List (PyData × PyData)} {us : List (Key × Value)}, Rks X.K cA S H ca ds vs f → D.shk ds = some es → KV vs us → ∃ as, PyProof.V.PairsRead s.heap keyPD us es as ∧ sysModules ∉ as
  | _, _, _, es, us, .nil hf, h, r => by
    simp only [D.shk, Option.some.injEq] at h; subst h; cases r; exact ⟨_, .nil, by simp⟩
  | _, _, _, es, us, .cons (k := k) (d := d) (ds := ds) r t hh, h, q => by
    simp only [D.shk] at h
    split at h
    · rename_i x xs h1 h2
      simp only [Option.some.injEq] at h
      subst h
      cases q with
      | @cons _ b _ l2 q1 q2 =>
        obtain ⟨k2, u⟩ := b
        obtain ⟨e1, e2⟩ := q1
        cases (show k = k2 from e1)
        obtain ⟨as, a1, a2⟩ := Rp.rd I sy sub r h1 e2
        obtain ⟨bs, b1, b2⟩ := Rks.rd I sy sub t h2 q2
        exact ⟨_, .cons a1 b1, fun hm => (List.mem_append.mp hm).elim a2 b2⟩
    · cases h
end
end
section
variable {X : Cx} {cA : Str → Addr}
def reprD (x : D) : Option D := match x.sh with
  | some e => if PyData.showable e = true ∧ szOk e.shown.length = true ∧ e.depth ≤ 60 then some (.str e.shown) else none
  | none => none
theorem ep_str {pins : List (Addr × Obj)} {σ : L2.St} {H : Hp} {s : Shared} {Q : VK} {x : Str} {h' : Heap} {u : Tok} {tk : Nat} (I : Inv X pins σ H s) (k : ∀ b o, s.heap.get? b = some o → h'.get? b = some o) (q : Q (.str x) H) : EP X pins σ Q (.str x u) { s with heap := h', toks := tk } :=
  ⟨.str x, H, I.kept k, ⟨u, rfl⟩, q⟩
theorem fd_repr (sy : ∃ m, X.base.Ns sysModules m) (hu : X.A.units + 64 < cLine) (hG : X.A.guards = some []) : FnD cA X (.builtin "repr") reprD := by
  rintro pins s σ H xs us Q I rv ⟨x, S, ca, d1, f1, d, rfl, sub, r, hg, k⟩
  unfold reprD at hg
  split at hg
  · rename_i e he
    split at hg
    · rename_i hz
      cases hg
      obtain ⟨u, rfl, ru⟩ := vals1 rv
      have q := k.at rp_str0
      obtain ⟨as, rd, ns⟩ := Rp.rd I sy sub r he ru
      have hsz : e.shown.length ≤ sizeLine := sz_of hz.2.1
      cases rd with
      | none => exact P.repr_of_none (ep_str (h' := s.heap) I (fun _ _ h => h) q)
      | bool b => exact P.repr_of_bool (ep_str (h' := s.heap) I (fun _ _ h => h) (by simpa [PyData.shown] using q))
      | int i t => exact P.repr_of_int (by simpa [PyData.showable] using hz.1) (ep_str (h' := s.heap) I (fun _ _ h => h) (by simpa [PyData.shown] using q))
      | str y t => exact P.repr_of_str (ep_str (h' := s.heap) I (fun _ _ h => h) (by simpa [PyData.shown] using q)) (by simpa [PyData.shown] using hsz)
      | list h1 h2 h3 h4 => exact repr_of_reads' (.list h1 h2 h3 h4) hz.1 (fun _ => ns) hG (by have := hz.2.2; omega) (fun _ _ h => h) (fun h' u tk kp => ep_str I kp q) hsz
      | tuple h1 h2 h3 h4 => exact repr_of_reads' (.tuple h1 h2 h3 h4) hz.1 (fun _ => ns) hG (by have := hz.2.2; omega) (fun _ _ h => h) (fun h' u tk kp => ep_str I kp q) hsz
      | dict h1 h2 h3 h4 h5 => exact repr_of_reads' (.dict h1 h2 h3 h4 h5) hz.1 (fun _ => ns) hG (by have := hz.2.2; omega) (fun _ _ h => h) (fun h' u tk kp => ep_str I kp q) hsz
    · cases hg
  · cases hg
end
end Fw

set_option Elab.async false
set_option linter.all false
set_option maxRecDepth 100000
namespace Fw
open PySem PySem.Spec PyProof.Rows L2
section
variable {X : Cx} {cA : Str → Addr}
theorem get_lst : PGet X (rIxL X.K) := by
  intro pins s σ H x y v u Q I rx ry h
  obtain ⟨p, xs, i, z, rfl, rfl, hq, he, q⟩ := h
  cases rx
  obtain ⟨t, rfl⟩ := ry
  obtain ⟨its, r, pl, hz⟩ := I.list hq
  obtain ⟨j, h1, h2, h3, h4, h5⟩ := atI_get he
  obtain ⟨w, ew, rw'⟩ := r.get h2
  have hl := r.length
  have hn := line63
  have fin : EP X pins σ Q w s := ⟨z, H, I, rw', q⟩
  by_cases h0 : 0 ≤ i
  · have hj : i.toNat = j := by
      rw [seqIndex_of h0 h5] at h1
      exact Option.some.inj h1
    exact wpAny_getItem_list pl.isList h0 (by omega) (by rw [hj]; simpa using ew) fin
  · have hj : (i + (its.toArray.size : Int)).toNat = j := by
      rw [seqIndex_neg (by omega) h4] at h1
      rw [List.size_toArray, ← hl]
      exact Option.some.inj h1
    exact wpAny_getItem_list_neg pl.isList (by omega) (by rw [List.size_toArray] <;> omega) (by omega) (by rw [hj]; simpa using ew) fin
/-- what stands at an index, nobody's -/
def rdI (k : D) (ds : List D) : Option D := match k with
  | .int i => (match atD ds i with
    | some x => if x.fr = true then some x else none
    | none => none)
  | _ => none
def mAugI (i : Nat) (b : Od) (g : D → D → Option D) (m : Mo D) : Ms := fun env st => match placeGet i env st with
  | some _ => (match od1 b env st with
    | some (k, e1, s1) => (match placeGet i e1 s1 with
      | some ds => (match rdI k ds with
        | some x => (match m e1 s1 with
          | some (y, e2, s2) => (match g x y with
            | some z => (match placeGet i e2 s2 with
              | some ds2 => (match gSet k z ds2 with
                | some ds' => some (.nx, (placeSet i ds' e2 s2).1, (placeSet i ds' e2 s2).2)
                | none => none)
              | none => none)
            | none => none)
          | none => none)
        | none => none)
      | none => none)
    | none => none)
  | none => none
theorem pds_augI {i : Nat} {x : Str} {ek ev : Expr} {b : Od} {g : D → D → Option D} {m : Mo D} {op : Operator} {p tpos pos : Pos} (hx : PE X (.Name x p) (tVar i)) (hk : PO' cA X ek b) (hv : PD cA X ev m) (ho : IpD cA X op g)
    (ha : ∀ ov iv new, augStore ek ov iv new = (do holding [new, ov, iv] (setItem ov iv new); release [new, ov, iv] []; pure .next) := by intros; rfl) :
    PDS cA X (.AugAssign (.Subscript (.Name x p) ek tpos) op ev pos) (mAugI i b g m) :=
  ps_w (ps_augS hx hk get_lst hv ho set_list ha) fun D σ H ⟨S, ca, env, st, ow, A, fl, env', st', t, hm, k⟩ => by
    unfold mAugI at hm
    split at hm
    · rename_i ds0 h0
      split at hm
      · rename_i kk e1 s1 h1
        split at hm
        · rename_i ds h2
          split at hm
          · rename_i x0 h3
            split at hm
            · rename_i y e2 s2 h4
              split at hm
              · rename_i z h5
                split at hm
                · rename_i ds2 h6
                  split at hm
                  · rename_i ds' h7
                    obtain ⟨rfl, rfl, rfl⟩ := inj3 hm
                    obtain ⟨p0, vs0, hσ0, hp0⟩ := t.place0 h0
                    refine ⟨.ref p0, hσ0, od1_w t h1 fun u S1 H1 ca1 ow1 A1 f1 fk p1 rk => ?_⟩
                    obtain ⟨q, vs, g1, hσ, hp, hs, r, dis, _⟩ := p1.place h2
                    rw [hσ0] at hσ
                    cases hσ
                    unfold rdI at h3
                    split at h3
                    · rename_i ii
                      split at h3
                      · rename_i x1 hx1
                        split at h3
                        · rename_i hfr
                          cases h3
                          obtain ⟨rfl, _⟩ := rk.i
                          obtain ⟨v, gv, hv, rv, lv⟩ := r.at hx1
                          have f0 := rv.fr0 hfr
                          refine ⟨p0, vs, ii, v, rfl, rfl, SqL.of hp, hv, S1, ca1, e1, s1, ow1, A1, y, e2, s2, p1.st, h4, fun w S2 H2 ca2 ow2 A2 f2 p2 => ?_⟩
                          refine ⟨S2, ca2, x0, y, gv, f2, z, p2.st.sub, rv.keep p2.tr fun a q => absurd (f0 a) q, p2.rp, h5, fun u H3 fv gr ru l1 l2 => ?_⟩
                          have p3 := p1.next (p2.grow (R' := rD X.K cA z u) gr ru l1 fun a h => .inr (l2 a h))
                          obtain ⟨q2, vs2, g2, hσ2, hp2, hs2, r2, dis2, back⟩ := p3.place h6
                          rw [hσ0] at hσ2
                          cases hσ2
                          unfold gSet at h7
                          simp only at h7
                          split at h7
                          · rename_i j hj
                            cases h7
                            refine ⟨p0, vs2, ii, j, rfl, rfl, hp2, by rw [r2.length]; exact hj, ?_⟩
                            have u2 : Tr (fun a => if a = p0 then 1 else 0) S2 H3 S2 (upd H3 p0 (.lst (vs2.set j u))) ca2 ca2 := upd_tr hp2 rfl
                            have jl : j < ds2.length := (ixN_seq hj).2.1
                            obtain ⟨g', r', l'⟩ := (r2.keep u2 fun a z => by have := dis2 a; omega).set j (ru.keep u2 fun a z => by have := dis2 a; omega) jl
                            obtain ⟨ow3, A3, p4⟩ := back (fr := fun _ => 0) (R' := r0) r' (fun _ => rfl) fun a => by have := l' a; show g' a + 0 ≤ g2 a + fv a; omega
                            exact k _ _ _ _ _ _ p4
                          · cases h7
                        · cases h3
                      · cases h3
                    · cases h3
                  · cases hm
                · cases hm
              · cases hm
            · cases hm
          · cases hm
        · cases hm
      · cases hm
    · cases hm
end
end Fw

set_option Elab.async false
set_option linter.all false
set_option maxRecDepth 100000
/-! dict displays -/
namespace Fw
open PySem PySem.Spec PyProof.Rows L2
def pairsM : List (Key × Mo D) → Mo (List (Key × D))
  | [], env, st => some ([], env, st)
  | (k, m) :: r, env, st => match m env st with
    | some (d, e1, s1) => (match pairsM r e1 s1 with
      | some (ds, e2, s2) => some ((k, d) :: ds, e2, s2)
      | none => none)
    | none => none
def nodK : List Key → Bool
  | [] => true
  | k :: r => !(r.any fun x => decide (x = k)) && nodK r
def mDisp (ms : List (Key × Mo D)) : Mo D := fun env st => if ms.length ≤ 15 ∧ nodK (ms.map (·.1)) = true then (match pairsM ms env st with
    | some (kvs, e1, s1) => some (.dic true kvs, e1, s1)
    | none => none) else none
def mDnew : Mo D := fun env st => some (.dic true [], env, st)
section
variable {X : Cx} {cA : Str → Addr}
abbrev rKs (K : PySem.W.Frag) (cA : Str → Addr) (kvs : List (Key × D)) (ps : List (V × V)) : Hp → Hp → List Addr → Fp → Prop := fun S H ca f => ∃ vs : List (Key × V), ps = vs.map (fun kv => (kV kv.1, kv.2)) ∧ vs.map (·.1) = kvs.map (·.1) ∧ Rks K cA S H ca kvs vs f
inductive PKs (cA : Str → Addr) (X : Cx) : List (Option Expr) → List Expr → List (Key × Mo D) → Prop
  | nil : PKs cA X [] [] []
  | cons {k : Key} {ek ev : Expr} {m : Mo D} {ks : List (Option Expr)} {vs : List Expr} {ms : List (Key × Mo D)} (hk : PE X ek (tC (kV k))) (hv : PD cA X ev m) (r : PKs cA X ks vs ms) : PKs cA X (some ek :: ks) (ev :: vs) ((k, m) :: ms)
abbrev trsOf (cA : Str → Addr) (K : PySem.W.Frag) (ms : List (Key × Mo D)) : List (TE × TE) := ms.map fun km => (tC (kV km.1), tE cA km.2 K)
theorem PKs.pps {pos : Pos} {ks : List (Option Expr)} {vs : List Expr} {ms : List (Key × Mo D)} (h : PKs cA X ks vs ms) : PPs X pos ks vs (trsOf cA X.K ms) := by
  induction h with
  | nil => exact pps_nil
  | cons hk hv r ih => exact pps_cons hk hv ih
theorem PKs.all {ks : List (Option Expr)} {vs : List Expr} {ms : List (Key × Mo D)} (h : PKs cA X ks vs ms) : ks.all (·.isSome) = true ∧ ks.length = vs.length ∧ ks.length = ms.length := by
  induction h with
  | nil => exact ⟨rfl, rfl, rfl⟩
  | cons hk hv r ih => exact ⟨by simpa using ih.1, by simp [ih.2.1], by simp [ih.2.2]⟩
theorem pairs_w {K : PySem.W.Frag} {σ : L2.St} : ∀ {ms : List (Key × Mo D)} {S H : Hp} {env env' : DEnv} {st st' : Sto} {ca : List Addr} {ow A : Fp} {kvs : List (Key × D)} {Q : List (V × V) → Hp → Prop}, Sta K cA σ S H env st ca ow A → pairsM ms env st = some (kvs, env', st') →
    (∀ ps S' H' ca' ow' A' f, Post K cA σ S H ca ow A env' st' (rKs K cA kvs ps) S' H' ca' ow' A' f → Q ps H') → tPairs (trsOf cA K ms) σ H Q
  | [], S, H, env, env', st, st', ca, ow, A, kvs, Q, t, hm, q => by
    simp only [pairsM] at hm
    obtain ⟨rfl, rfl, rfl⟩ := inj3 hm
    exact q [] _ _ _ _ _ (fun _ => 0) (t.self ⟨[], rfl, rfl, .nil fun _ => rfl⟩ fun _ => rfl)
  | (k, m) :: r, S, H, env, env', st, st', ca, ow, A, kvs, Q, t, hm, q => by
    simp only [pairsM] at hm
    split at hm
    · rename_i d e1 s1 h1
      split at hm
      · rename_i ds e2 s2 h2
        obtain ⟨rfl, rfl, rfl⟩ := inj3 hm
        refine ⟨S, ca, env, st, ow, A, d, e1, s1, t, h1, fun v S1 H1 ca1 ow1 A1 f1 p1 => ?_⟩
        refine pairs_w (ms := r) p1.st h2 fun ps S2 H2 ca2 ow2 A2 f2 p2 => ?_
        have p := p1.both kp_d p2
        refine q _ _ _ _ _ _ _ (p.imp (g := fun a => f1 a + f2 a) (fun ⟨fa, fb, hf, ra, vs, e, e2, rb⟩ => ⟨(k, v) :: vs, by rw [e]; rfl, by rw [List.map_cons, List.map_cons, e2], .cons ra rb hf⟩) fun _ => Nat.le_refl _)
      · cases hm
    · cases hm
theorem putK_new {kvs : List (Key × V)} {k : Key} {v : V} (h : k ∉ kvs.map (·.1)) : putK kvs k v = kvs ++ [(k, v)] := by
  unfold putK
  rw [if_neg]
  intro z
  obtain ⟨p, hp, e⟩ := List.any_eq_true.mp z
  have e' : p.1 = k := by simpa using e
  exact h (List.mem_map.mpr ⟨p, hp, e'⟩)
theorem merge_nod : ∀ (more kvs : List (Key × V)), nodK (more.map (·.1)) = true → (∀ k ∈ more.map (·.1), k ∉ kvs.map (·.1)) → mergeK kvs more = kvs ++ more
  | [], kvs, _, _ => by simp [mergeK]
  | p :: r, kvs, h, h2 => by
    rw [List.map_cons] at h
    simp only [nodK, Bool.and_eq_true, Bool.not_eq_true'] at h
    have h1 : p.1 ∉ r.map (·.1) := fun z => by
      have y : ((r.map (·.1)).any fun x => decide (x = p.1)) = true := List.any_eq_true.mpr ⟨p.1, z, by simp⟩
      rw [y] at h
      cases h.1
    show mergeK (putK kvs p.1 p.2) r = _
    rw [putK_new (h2 p.1 (by simp)), merge_nod r _ h.2 fun k hk => ?_]
    · simp
    · have a := h2 k (by rw [List.map_cons]; exact List.mem_cons_of_mem _ hk)
      rw [List.map_append, List.map_cons, List.map_nil]
      intro e
      rcases List.mem_append.mp e with e | e
      · exact a e
      · have e := List.mem_singleton.mp e
        subst e
        exact h1 hk
theorem new_dic {K : PySem.W.Frag} {σ : L2.St} {S H : Hp} {env : DEnv} {st : Sto} {ca : List Addr} {ow A : Fp} {p : Addr} (t : Sta K cA σ S H env st ca ow A) (np : H p = none) :
    Post K cA σ S H ca ow A env st (rD K cA (.dic true []) (.ref p)) S (upd H p (.dK [])) ca ow A (fpNew p fun _ => 0) := by
  have p0 : Post K cA σ S H ca ow A env st r0 S H ca ow A (fun _ => 0) := t.self (fun _ => rfl) fun _ => rfl
  refine p0.grow (upd_gr np) (.dicO (g := fun _ => 0) upd_same ?_ (.nil fun _ => rfl) fun _ => rfl) (fun a => by show (if a = p then 1 else 0) + 0 ≤ 1; split <;> omega) fun a z => .inr ?_
  · cases e : S p with
    | none => rfl
    | some u => rw [t.sub p u e] at np; cases np
  · unfold fpNew at z
    by_cases e : a = p
    · subst e; exact np
    · rw [if_neg e] at z; exact absurd rfl z
theorem pd_dnew {pos : Pos} : PD cA X (.Dict [] [] pos) mDnew := pe_w pe_dnewK fun σ H Q ⟨S, ca, env, st, ow, A, d', env', st', t, hm, q⟩ p np => by
  obtain ⟨rfl, rfl, rfl⟩ := inj3 hm
  exact q _ _ _ _ _ _ _ (new_dic t np)
theorem pd_disp {pos : Pos} {k0 : Option Expr} {keys : List (Option Expr)} {values : List Expr} {ms : List (Key × Mo D)} (h : PKs cA X (k0 :: keys) values ms) (h15 : (k0 :: keys).length ≤ 15) : PD cA X (.Dict (k0 :: keys) values pos) (mDisp ms) :=
  pe_w (pe_disp h.pps h.all.1 h.all.2.1 (by simp) h15) fun σ H Q ⟨S, ca, env, st, ow, A, d', env', st', t, hm, q⟩ p np => by
    unfold mDisp at hm
    split at hm
    · rename_i hz
      split at hm
      · rename_i kvs e1 s1 h1
        obtain ⟨rfl, rfl, rfl⟩ := inj3 hm
        have p0 := new_dic (cA := cA) t np
        refine pairs_w p0.st h1 fun ps S1 H1 ca1 ow1 A1 f1 p1 => ?_
        have pp := p0.both kp_d p1
        obtain ⟨fa, fb, hf, ra, vs, e, e2, rb⟩ := pp.rp
        cases ra with
        | @dicO _ vs0 _ _ g hp hs r0' hf1 =>
          cases r0' with
          | nil hg0 =>
            have hf' : ∀ a, fpNew p (fun _ => 0) a + f1 a = fa a + fb a := hf
            have fle : ∀ a, fa a + fb a ≤ 1 := fun a => by have : ow1 a + A1 a + (fpNew p (fun _ => 0) a + f1 a) ≤ 1 := pp.le a; have := hf' a; omega
            have hlen : vs.length = ms.length := by
              have e3 : ∀ {ms : List (Key × Mo D)} {env env' : DEnv} {st st' : Sto} {kvs : List (Key × D)}, pairsM ms env st = some (kvs, env', st') → kvs.map (·.1) = ms.map (·.1) := by
                intro ms
                induction ms with
                | nil => intro env env' st st' kvs h; simp only [pairsM] at h; obtain ⟨rfl, _, _⟩ := inj3 h; rfl
                | cons km r ih =>
                  intro env env' st st' kvs h
                  simp only [pairsM] at h
                  split at h
                  · split at h
                    · rename_i h2
                      obtain ⟨rfl, _, _⟩ := inj3 h
                      rw [List.map_cons, List.map_cons, ih h2]
                    · cases h
                  · cases h
              have := congrArg List.length (e2.trans (e3 h1))
              simpa using this
            have e3' : vs.map (·.1) = ms.map (·.1) := by
              have e3 : ∀ {ms : List (Key × Mo D)} {env env' : DEnv} {st st' : Sto} {kvs : List (Key × D)}, pairsM ms env st = some (kvs, env', st') → kvs.map (·.1) = ms.map (·.1) := by
                intro ms
                induction ms with
                | nil => intro env env' st st' kvs h; simp only [pairsM] at h; obtain ⟨rfl, _, _⟩ := inj3 h; rfl
                | cons km r ih =>
                  intro env env' st st' kvs h
                  simp only [pairsM] at h
                  split at h
                  · split at h
                    · rename_i h2
                      obtain ⟨rfl, _, _⟩ := inj3 h
                      rw [List.map_cons, List.map_cons, ih h2]
                    · cases h
                  · cases h
              exact e2.trans (e3 h1)
            refine ⟨hp, vs, e, by rw [hlen]; exact hz.1, ?_⟩
            have em : mergeK [] vs = vs := by
              rw [merge_nod vs [] (by rw [e3']; exact hz.2) (fun _ _ z => by simp at z)]
              rfl
            rw [em]
            have hpf : fa p ≠ 0 := by rw [hf1, if_pos rfl]; omega
            refine q _ _ _ _ _ _ _ (pp.mut (g := fun a => fpNew p (fun _ => 0) a + f1 a) (R' := rD X.K cA (.dic true kvs) (.ref p)) hp rfl (by show fpNew p (fun _ => 0) p + f1 p ≠ 0; have := hf' p; omega) hs (.dicO (g := fb) upd_same hs (rb.keep (L := fun a => if a = p then 1 else 0) (upd_tr hp rfl) fun a z => ?_) fun a => ?_) fun _ => Nat.le_refl _)
            · by_cases y : a = p
              · subst y; have := fle a; omega
              · exact if_neg y
            · show fpNew p (fun _ => 0) a + f1 a = _
              rw [hf', hf1, hg0, Nat.add_zero]
      · cases hm
    · cases hm
end
end Fw

set_option Elab.async false
set_option linter.all false
set_option maxRecDepth 100000
/-! two or three names at once -/
namespace Fw
open PySem PySem.Spec PyProof.Rows L2
theorem Post.store2 {K : PySem.W.Frag} {cA : Str → Addr} {S H S1 H1 : Hp} {ca ca1 : List Addr} {ow A ow1 A1 f : Fp} {σ : L2.St} {env1 : DEnv} {st1 : Sto} {d : D} {v : V} {i : Nat} {ds : List D} {vs : List V} (p : Post K cA σ S H ca ow A env1 st1 (rDs K cA (d :: ds) (v :: vs)) S1 H1 ca1 ow1 A1 f) (hi : i < env1.length) :
    ∃ ow' g, Post K cA (σ.set i (some v)) S H ca ow A (env1.set i (some d)) st1 (rDs K cA ds vs) S1 H1 ca1 ow' A1 g := by
  have rp := p.rp
  cases rp with
  | @cons _ _ _ _ f1 f2 _ r t hh =>
    obtain ⟨g, h1, h2⟩ := p.st.e.store (i := i) hi r
    refine ⟨_, f2, p.tr, ⟨h1, p.st.c, p.st.sub, fun a => ?_⟩, t, fun a => ?_, fun a q => ?_⟩
    · have := p.le a; have := h2 a; have := hh a; show f1 a + g a + A1 a ≤ 1; omega
    · have := p.le a; have := h2 a; have := hh a; show f1 a + g a + A1 a + f2 a ≤ 1; omega
    · have q : f1 a + g a + A1 a + f2 a ≠ 0 := q
      have := h2 a
      have := hh a
      exact p.fo a (by omega)
def setAll : List Nat → List D → DEnv → DEnv
  | i :: is, d :: ds, env => setAll is ds (env.set i (some d))
  | _, _, env => env
def mPar (is : List Nat) (m : Mo (List D)) : Ms := fun env st => match m env st with
  | some (ds, e1, s1) => if ds.length = is.length ∧ is.all (fun i => decide (i < e1.length)) = true then some (.nx, setAll is ds e1, s1) else none
  | none => none
section
variable {X : Cx} {cA : Str → Addr}
theorem pds_par2 {i j : Nat} {x y : Str} {a b : Expr} {m : Mo (List D)} {px py pt pos : Pos} {kt k2 pt2} (hc : X.calm = true) (hN : X.N.Nodup) (hi : X.N[i]? = some x) (hj : X.N[j]? = some y) (hij : i ≠ j)
    (hx : X.env.scope.names.lookup x = some .local) (hy : X.env.scope.names.lookup y = some .local) (ha : PDs cA X [a, b] m)
    (hw : swappedStores [.Tuple [.Name x px, .Name y py] kt pt] (.Tuple [a, b] k2 pt2) X.env = pure (some [x, y]))
    (hs : swapsWithSole [.Tuple [.Name x px, .Name y py] kt pt] (.Tuple [a, b] k2 pt2) pos.line X.env = pure false := by rfl) :
    PDS cA X (.Assign [.Tuple [.Name x px, .Name y py] kt pt] (.Tuple [a, b] k2 pt2) pos) (mPar [i, j] m) :=
  ps_w (ps_par hc hN hi hj hij hx hy ha hw hs) fun D σ H ⟨S, ca, env, st, ow, A, fl, env', st', t, hm, k⟩ => by
    unfold mPar at hm
    split at hm
    · rename_i ds e1 s1 h1
      split at hm
      · rename_i hz
        obtain ⟨rfl, rfl, rfl⟩ := inj3 hm
        obtain ⟨hl, hb⟩ := hz
        match ds, hl with
        | [d1, d2], _ =>
          simp only [List.all_cons, List.all_nil, Bool.and_true, Bool.and_eq_true, decide_eq_true_eq] at hb
          refine ⟨S, ca, env, st, ow, A, _, e1, _, t, h1, fun vs S1 H1 ca1 ow1 A1 f1 p1 => ?_⟩
          obtain ⟨v, w, rfl⟩ : ∃ v w, vs = [v, w] := by
            have := p1.rp.length
            match vs, this with
            | [v, w], _ => exact ⟨v, w, rfl⟩
          obtain ⟨ow2, g2, p2⟩ := p1.store2 hb.1
          obtain ⟨ow3, g3, p3⟩ := p2.store2 (i := j) (by rw [List.length_set]; exact hb.2)
          exact ⟨v, w, rfl, k _ _ _ _ _ _ p3.z0⟩
      · cases hm
    · cases hm
theorem pds_par3 {i j l : Nat} {x y z : Str} {a b c : Expr} {m : Mo (List D)} {px py pz pt pos : Pos} {kt k2 pt2} (hc : X.calm = true) (hN : X.N.Nodup) (hi : X.N[i]? = some x) (hj : X.N[j]? = some y) (hl : X.N[l]? = some z) (hij : i ≠ j) (hil : i ≠ l) (hjl : j ≠ l)
    (hx : X.env.scope.names.lookup x = some .local) (hy : X.env.scope.names.lookup y = some .local) (hz : X.env.scope.names.lookup z = some .local) (ha : PDs cA X [a, b, c] m)
    (hw : swappedStores [.Tuple [.Name x px, .Name y py, .Name z pz] kt pt] (.Tuple [a, b, c] k2 pt2) X.env = pure (some [x, y, z]))
    (hs : swapsWithSole [.Tuple [.Name x px, .Name y py, .Name z pz] kt pt] (.Tuple [a, b, c] k2 pt2) pos.line X.env = pure false := by rfl) :
    PDS cA X (.Assign [.Tuple [.Name x px, .Name y py, .Name z pz] kt pt] (.Tuple [a, b, c] k2 pt2) pos) (mPar [i, j, l] m) :=
  ps_w (ps_par3 hc hN hi hj hl hij hil hjl hx hy hz ha hw hs) fun D σ H ⟨S, ca, env, st, ow, A, fl, env', st', t, hm, k⟩ => by
    unfold mPar at hm
    split at hm
    · rename_i ds e1 s1 h1
      split at hm
      · rename_i hz
        obtain ⟨rfl, rfl, rfl⟩ := inj3 hm
        obtain ⟨hl, hb⟩ := hz
        match ds, hl with
        | [d1, d2, d3], _ =>
          simp only [List.all_cons, List.all_nil, Bool.and_true, Bool.and_eq_true, decide_eq_true_eq] at hb
          refine ⟨S, ca, env, st, ow, A, _, e1, _, t, h1, fun vs S1 H1 ca1 ow1 A1 f1 p1 => ?_⟩
          obtain ⟨v, w, u, rfl⟩ : ∃ v w u, vs = [v, w, u] := by
            have := p1.rp.length
            match vs, this with
            | [v, w, u], _ => exact ⟨v, w, u, rfl⟩
          obtain ⟨ow2, g2, p2⟩ := p1.store2 hb.1
          obtain ⟨ow3, g3, p3⟩ := p2.store2 (i := j) (by rw [List.length_set]; exact hb.2.1)
          obtain ⟨ow4, g4, p4⟩ := p3.store2 (i := l) (by rw [List.length_set, List.length_set]; exact hb.2.2)
          exact ⟨v, w, u, rfl, k _ _ _ _ _ _ p4.z0⟩
      · cases hm
    · cases hm
end
end Fw

set_option Elab.async false
set_option linter.all false
set_option maxRecDepth 100000
/-! words in short, for texts that are written from the program's -/
namespace Fw
open PySem PySem.Spec PyProof.Rows L2
def eqD2 (x y : D) : Option Bool := match eqD x y with
  | some b => some b
  | none => (match x, y with
    | .lst _ xs, .lst _ ys => if xs.length = ys.length then none else some false
    | .str x, .str y => some (decide (x = y))
    | _, _ => none)
def eqB (x y : D) : Option D := (eqD2 x y).map .bl
def neB (x y : D) : Option D := match eqD x y with
  | some b => some (.bl (!b))
  | none => (match x, y with
    | .str x, .str y => some (.bl (!decide (x = y)))
    | _, _ => none)
def inB (x y : D) : Option D := (inD x y).map .bl
def niB (x y : D) : Option D := (inD x y).map fun b => .bl (!b)
section
variable {X : Cx} {cA : Str → Addr}
theorem _root_.L2.Room.u64 {k : Nat} {A : Around} (h : Room k A) : A.units + 64 < cLine := by have := h.un; omega
theorem _root_.L2.Room.u65 {k : Nat} {A : Around} (h : Room k A) : A.units + 65 < cLine := by have := h.un; omega
theorem _root_.L2.Room.u1 {k : Nat} {A : Around} (h : Room k A) : A.units + 1 < cLine := by have := h.un; omega
theorem od_eqB (hu : X.A.units + 64 < cLine) : OpD cA X (compareOp .Eq) eqB := by
  rintro pins s σ H x y v u Q I rx ry ⟨S, ca, d1, d2, f1, f2, d, sub, r1, r2, hg, k⟩
  unfold eqB eqD2 at hg
  split at hg
  · rename_i b hb
    exact od_eq hu pins s σ H x y v u Q I rx ry ⟨S, ca, d1, d2, f1, f2, d, sub, r1, r2, by show (eqD d1 d2).map D.bl = _; rw [hb]; exact hg, k⟩
  · split at hg
    · split at hg
      · cases hg
      · rename_i xs _ ys hb ne
        cases hg
        obtain ⟨p, vs, g, rfl, h1, q1, _⟩ := r1.l sub
        obtain ⟨p', ws, g', rfl, h2, q2, _⟩ := r2.l sub
        cases rx
        cases ry
        obtain ⟨us, rv, p1, _⟩ := I.list (SqL.of h1)
        obtain ⟨us', rv', p2, _⟩ := I.list (SqL.of h2)
        refine SeqAt.eq_list_lengthsAt p1.isList p2.isList ?_ (by omega) ⟨.bl false, H, I, rfl, k.at rp_bl0⟩
        rw [List.size_toArray, List.size_toArray, ← rv.length, ← rv'.length, q1.length, q2.length]
        exact bne_iff_ne.mpr ne
    · rename_i a b hb
      cases hg
      obtain ⟨rfl, _⟩ := r1.s
      obtain ⟨rfl, _⟩ := r2.s
      refine op_eq pins s σ H _ _ v u Q I rx ry ⟨rfl, ?_⟩
      have e : decide (V.str a = V.str b) = decide (a = b) := by
        rw [Bool.eq_iff_iff]
        simp
      rw [e]
      exact k.at rp_bl0
    · cases hg
theorem od_neB (hu : X.A.units + 64 < cLine) : OpD cA X (compareOp .NotEq) neB := by
  rintro pins s σ H x y v u Q I rx ry ⟨S, ca, d1, d2, f1, f2, d, sub, r1, r2, hg, k⟩
  unfold neB at hg
  split at hg
  · rename_i b hb
    exact od_ne hu pins s σ H x y v u Q I rx ry ⟨S, ca, d1, d2, f1, f2, d, sub, r1, r2, by show (eqD d1 d2).map _ = _; rw [hb]; exact hg, k⟩
  · split at hg
    · rename_i a b hb
      cases hg
      obtain ⟨rfl, _⟩ := r1.s
      obtain ⟨rfl, _⟩ := r2.s
      refine op_ne pins s σ H _ _ v u Q I rx ry ⟨rfl, ?_⟩
      have e : decide (V.str a = V.str b) = decide (a = b) := by
        rw [Bool.eq_iff_iff]
        simp
      rw [e]
      exact k.at rp_bl0
    · cases hg
theorem od_inB (hu : X.A.units + 65 < cLine) : OpD cA X (compareOp .In) inB := od_in hu
def mAlt (a b : Mo D) : Mo D := fun env st => match a env st with
  | some r => some r
  | none => b env st
theorem pd_alt {e : Expr} {a b : Mo D} (ha : PD cA X e a) (hb : PD cA X e b) : PD cA X e (mAlt a b) := ⟨fun pins s σ H Q I ⟨S, ca, env, st, ow, A, d', env', st', t, hm, q⟩ => by
  unfold mAlt at hm
  split at hm
  · rename_i r hr
    exact ha.run pins s σ H Q I ⟨S, ca, env, st, ow, A, d', env', st', t, hr.trans hm, q⟩
  · exact hb.run pins s σ H Q I ⟨S, ca, env, st, ow, A, d', env', st', t, hm, q⟩⟩
end
end Fw

set_option Elab.async false
set_option linter.all false
set_option maxRecDepth 100000
/-! a run that comes through, rule by rule -/
namespace Fw
open PySem PySem.Spec PyProof.Rows L2
def W {α : Type} (m : DEnv → Sto → Option (α × DEnv × Sto)) (env : DEnv) (st : Sto) (Q : α → DEnv → Sto → Prop) : Prop := ∃ a e s, m env st = some (a, e, s) ∧ Q a e s
/-- a def's answer -/
def WF (f : Fn) (ds : List D) (st : Sto) (Q : D → Sto → Prop) : Prop := ∃ d s, f ds st = some (d, s) ∧ Q d s
section
variable {α : Type} {env : DEnv} {st : Sto} {i j : Nat} {d x y : D} {a b c : Mo D} {ma mb : Ms} {g h : D → D → Option D} {o o' : Od}
theorem W.imp {m : DEnv → Sto → Option (α × DEnv × Sto)} {Q Q' : α → DEnv → Sto → Prop} (w : W m env st Q) (k : ∀ a e s, Q a e s → Q' a e s) : W m env st Q' := let ⟨a, e, s, h, q⟩ := w; ⟨a, e, s, h, k _ _ _ q⟩
theorem W_of {m : DEnv → Sto → Option (α × DEnv × Sto)} {Q : α → DEnv → Sto → Prop} {a : α} {e : DEnv} {s : Sto} (h : m env st = some (a, e, s)) (q : Q a e s) : W m env st Q := ⟨a, e, s, h, q⟩
section
variable {Q : Fl → DEnv → Sto → Prop}
/-- what is behind a statement -/
def Nx (b : Ms) (Q : Fl → DEnv → Sto → Prop) (f : Fl) (e : DEnv) (s : Sto) : Prop := match f with
  | .nx => W b e s Q
  | f => Q f e s
theorem W_seq (w : W ma env st (Nx mb Q)) : W (mSeq ma mb) env st Q := by
  obtain ⟨f, e, s, h, q⟩ := w
  unfold W mSeq
  rw [h]
  cases f with
  | nx => exact q
  | bk => exact ⟨_, _, _, rfl, q⟩
  | ct => exact ⟨_, _, _, rfl, q⟩
  | rt d => exact ⟨_, _, _, rfl, q⟩
theorem Nx_nx {e : DEnv} {s : Sto} (w : W mb e s Q) : Nx mb Q .nx e s := w
theorem Nx_rt {e : DEnv} {s : Sto} (w : Q (.rt d) e s) : Nx mb Q (.rt d) e s := w
theorem W_skip (q : Q .nx env st) : W mSkip env st Q := ⟨_, _, _, rfl, q⟩
/-- on a test's answer -/
def Br (A B : DEnv → Sto → Prop) (d : D) (e : DEnv) (s : Sto) : Prop := ∃ k, d = .bl k ∧ if k = true then A e s else B e s
theorem Br_t {A B : DEnv → Sto → Prop} {e : DEnv} {s : Sto} (q : A e s) : Br A B (.bl true) e s := ⟨true, rfl, q⟩
theorem Br_f {A B : DEnv → Sto → Prop} {e : DEnv} {s : Sto} (q : B e s) : Br A B (.bl false) e s := ⟨false, rfl, by rw [if_neg (by decide)]; exact q⟩
theorem Br_b {A B : DEnv → Sto → Prop} {e : DEnv} {s : Sto} {k : Bool} (q : k = true → A e s) (q' : k = false → B e s) : Br A B (.bl k) e s := by
  cases k with
  | true => exact Br_t (q rfl)
  | false => exact Br_f (q' rfl)
theorem W_ite (w : W c env st (Br (fun e s => W ma e s Q) (fun e s => W mb e s Q))) : W (mIte c ma mb) env st Q := by
  obtain ⟨d, e, s, h, k, rfl, q⟩ := w
  unfold W mIte
  rw [h]
  cases k with
  | true => exact q
  | false => rw [if_neg (by decide)] at q; exact q
theorem W_ret (w : W a env st (fun d e s => Q (.rt d) e s)) : W (mRet a) env st Q := by
  obtain ⟨d, e, s, h, q⟩ := w
  unfold W mRet
  rw [h]
  exact ⟨_, _, _, rfl, q⟩
theorem W_expr (w : W a env st (fun d e s => Q .nx e s)) : W (mExpr a) env st Q := by
  obtain ⟨d, e, s, h, q⟩ := w
  unfold W mExpr
  rw [h]
  exact ⟨_, _, _, rfl, q⟩
theorem W_set (w : W a env st (fun d e s => i < e.length ∧ Q .nx (e.set i (some d)) s)) : W (mSet i a) env st Q := by
  obtain ⟨d, e, s, h, hl, q⟩ := w
  unfold W mSet
  rw [h]
  exact ⟨_, _, _, if_pos hl, q⟩
theorem W_setC (w : W a env st (fun d e s => ∃ ds, d = .lst true ds ∧ i < e.length ∧ D.nobs ds = true ∧ Q .nx (e.set i (some (.cel s.length))) (s ++ [.lst true (D.fzs ds)]))) : W (mSetC i a) env st Q := by
  obtain ⟨d, e, s, h, ds, rfl, h1, h2, q⟩ := w
  unfold W mSetC
  rw [h]
  exact ⟨_, _, _, if_pos ⟨h1, h2⟩, q⟩
theorem W_asg {bi : Bi} (w : W a env st (fun d e s => ∃ e', bi d e = some e' ∧ Q .nx e' s)) : W (mAsg bi a) env st Q := by
  obtain ⟨d, e, s, h, e', h1, q⟩ := w
  unfold W mAsg
  rw [h]
  dsimp only
  rw [h1]
  exact ⟨_, _, _, rfl, q⟩
theorem W_par {is : List Nat} {m : Mo (List D)} (w : W m env st (fun ds e s => ds.length = is.length ∧ is.all (fun i => decide (i < e.length)) = true ∧ Q .nx (setAll is ds e) s)) : W (mPar is m) env st Q := by
  obtain ⟨ds, e, s, h, h1, h2, q⟩ := w
  unfold W mPar
  rw [h]
  exact ⟨_, _, _, if_pos ⟨h1, h2⟩, q⟩
theorem W_storeI (w : W a env st (fun d e s => ∃ ds0, placeGet i e s = some ds0 ∧ W (od1 o) e s (fun k e2 s2 => ∃ ds, placeGet i e2 s2 = some ds ∧ ∃ ds', gSet k d ds = some ds' ∧ Q .nx (placeSet i ds' e2 s2).1 (placeSet i ds' e2 s2).2))) : W (mStoreI i o a) env st Q := by
  obtain ⟨d, e, s, h, ds0, h0, k, e2, s2, h2, ds, h3, ds', h4, q⟩ := w
  unfold W mStoreI
  rw [h]
  dsimp only
  rw [h0]
  dsimp only
  rw [h2]
  dsimp only
  rw [h3]
  dsimp only
  rw [h4]
  exact ⟨_, _, _, rfl, q⟩
theorem W_augI {ds0 : List D} (h0 : placeGet i env st = some ds0) (w : W (od1 o) env st (fun k e s => ∃ ds, placeGet i e s = some ds ∧ ∃ x, rdI k ds = some x ∧ W a e s (fun y e2 s2 => ∃ z, g x y = some z ∧ ∃ ds2, placeGet i e2 s2 = some ds2 ∧ ∃ ds', gSet k z ds2 = some ds' ∧
    Q .nx (placeSet i ds' e2 s2).1 (placeSet i ds' e2 s2).2))) : W (mAugI i o g a) env st Q := by
  obtain ⟨k, e, s, h, ds, h1, x, h2, y, e2, s2, h3, z, h4, ds2, h5, ds', h6, q⟩ := w
  unfold W mAugI
  rw [h0]
  dsimp only
  rw [h]
  dsimp only
  rw [h1]
  dsimp only
  rw [h2]
  dsimp only
  rw [h3]
  dsimp only
  rw [h4]
  dsimp only
  rw [h5]
  dsimp only
  rw [h6]
  exact ⟨_, _, _, rfl, q⟩
/-- a loop: what holds between two turns, by what is left -/
theorem forL_inv {bi : Bi} (J : List D → DEnv → Sto → Prop) (step : ∀ d ds e s, J (d :: ds) e s → ∃ e1, bi d e = some e1 ∧ W mb e1 s (fun f e2 s2 => match f with | .nx => J ds e2 s2 | .ct => J ds e2 s2 | .bk => Q .nx e2 s2 | .rt r => Q (.rt r) e2 s2))
    (fin : ∀ e s, J [] e s → Q .nx e s) : ∀ (ds : List D) (e : DEnv) (s : Sto), J ds e s → W (forL bi mb ds) e s Q
  | [], e, s, h => ⟨_, _, _, rfl, fin e s h⟩
  | d :: ds, e, s, h => by
    obtain ⟨e1, h1, f, e2, s2, h2, q⟩ := step d ds e s h
    unfold W forL
    rw [h1]
    dsimp only
    rw [h2]
    cases f with
    | nx => exact forL_inv J step fin ds e2 s2 q
    | ct => exact forL_inv J step fin ds e2 s2 q
    | bk => exact ⟨_, _, _, rfl, q⟩
    | rt r => exact ⟨_, _, _, rfl, q⟩
theorem W_for {bi : Bi} {m : Mo (List D)} (w : W m env st (fun ds e s => W (forL bi mb ds) e s Q)) : W (mFor m bi mb) env st Q := by
  obtain ⟨ds, e, s, h, q⟩ := w
  unfold W mFor
  rw [h]
  exact q
end
section
variable {Q : D → DEnv → Sto → Prop}
theorem W_c (q : Q d env st) : W (mC d) env st Q := ⟨_, _, _, rfl, q⟩
theorem W_var (h : env[i]? = some (some d)) (hf : d.fr = true) (q : Q d env st) : W (mVar i) env st Q := by
  unfold W mVar
  rw [h]
  exact ⟨_, _, _, if_pos hf, q⟩
theorem W_varz (h : env[i]? = some (some d)) (hf : d.fr = false) (hn : d.nob = true) (q : Q d.fz (env.set i (some d.fz)) st) : W (mVar i) env st Q := by
  unfold W mVar
  rw [h]
  dsimp only
  rw [if_neg (by rw [hf]; decide), if_pos hn]
  exact ⟨_, _, _, rfl, q⟩
theorem W_mv (h : env[i]? = some (some d)) (q : Q d (env.set i none) st) : W (mMv i) env st Q := by
  unfold W mMv
  rw [h]
  exact ⟨_, _, _, rfl, q⟩
theorem W_ox (w : W a env st Q) : W (od1 (.ex a)) env st Q := w
theorem W_on (h : look i env st = some x) (q : Q x env st) : W (od1 (.nm i)) env st Q := by
  unfold W od1
  dsimp only
  rw [h]
  exact ⟨_, _, _, rfl, q⟩
theorem W_xx {Q : D × D → DEnv → Sto → Prop} (w : W a env st (fun x e s => W b e s (fun y e2 s2 => Q (x, y) e2 s2))) : W (od2 (.ex a) (.ex b)) env st Q := by
  obtain ⟨x, e, s, h, y, e2, s2, h2, q⟩ := w
  unfold W od2
  dsimp only
  rw [h]
  dsimp only
  rw [h2]
  exact ⟨_, _, _, rfl, q⟩
theorem W_nx {Q : D × D → DEnv → Sto → Prop} {x0 : D} (h0 : peek i env = some x0) (w : W b env st (fun y e s => ∃ x, look i e s = some x ∧ Q (x, y) e s)) : W (od2 (.nm i) (.ex b)) env st Q := by
  obtain ⟨y, e, s, h, x, h2, q⟩ := w
  unfold W od2
  dsimp only
  rw [h0]
  dsimp only
  rw [h]
  dsimp only
  rw [h2]
  exact ⟨_, _, _, rfl, q⟩
theorem W_xn {Q : D × D → DEnv → Sto → Prop} (w : W a env st (fun x e s => ∃ y, look j e s = some y ∧ Q (x, y) e s)) : W (od2 (.ex a) (.nm j)) env st Q := by
  obtain ⟨x, e, s, h, y, h2, q⟩ := w
  unfold W od2
  dsimp only
  rw [h]
  dsimp only
  rw [h2]
  exact ⟨_, _, _, rfl, q⟩
theorem W_nn {Q : D × D → DEnv → Sto → Prop} (h : look i env st = some x) (h2 : look j env st = some y) (q : Q (x, y) env st) : W (od2 (.nm i) (.nm j)) env st Q := by
  unfold W od2
  dsimp only
  rw [h]
  dsimp only
  rw [h2]
  exact ⟨_, _, _, rfl, q⟩
theorem W_bin (w : W (od2 o o') env st (fun p e s => ∃ z, g p.1 p.2 = some z ∧ Q z e s)) : W (mBin g o o') env st Q := by
  obtain ⟨⟨x, y⟩, e, s, h, z, h2, q⟩ := w
  unfold W mBin
  rw [h]
  dsimp only
  dsimp only at h2
  rw [h2]
  exact ⟨_, _, _, rfl, q⟩
theorem W_un {g : D → Option D} (w : W (od1 o) env st (fun x e s => ∃ z, g x = some z ∧ Q z e s)) : W (mUn g o) env st Q := by
  obtain ⟨x, e, s, h, z, h2, q⟩ := w
  unfold W mUn
  rw [h]
  dsimp only
  rw [h2]
  exact ⟨_, _, _, rfl, q⟩
theorem W_tru (w : W (od1 o) env st (fun x e s => ∃ k, x.tru = some k ∧ Q (.bl k) e s)) : W (mTru o) env st Q := by
  obtain ⟨x, e, s, h, z, h2, q⟩ := w
  unfold W mTru
  rw [h]
  dsimp only
  rw [h2]
  exact ⟨_, _, _, rfl, q⟩
theorem W_not (w : W a env st (fun d e s => ∃ k, d = .bl k ∧ Q (.bl (!k)) e s)) : W (mNot a) env st Q := by
  obtain ⟨x, e, s, h, k, rfl, q⟩ := w
  unfold W mNot
  rw [h]
  exact ⟨_, _, _, rfl, q⟩
theorem W_and (w : W a env st (Br (fun e s => W b e s Q) (fun e s => Q (.bl false) e s))) : W (mAnd a b) env st Q := by
  obtain ⟨x, e, s, h, k, rfl, q⟩ := w
  unfold W mAnd
  rw [h]
  cases k with
  | true => exact q
  | false => rw [if_neg (by decide)] at q; exact ⟨_, _, _, rfl, q⟩
theorem W_or (w : W a env st (Br (fun e s => Q (.bl true) e s) (fun e s => W b e s Q))) : W (mOr a b) env st Q := by
  obtain ⟨x, e, s, h, k, rfl, q⟩ := w
  unfold W mOr
  rw [h]
  cases k with
  | true => exact ⟨_, _, _, rfl, q⟩
  | false => rw [if_neg (by decide)] at q; exact q
theorem W_if (w : W c env st (Br (fun e s => W a e s Q) (fun e s => W b e s Q))) : W (mIf c a b) env st Q := by
  obtain ⟨x, e, s, h, k, rfl, q⟩ := w
  unfold W mIf
  rw [h]
  cases k with
  | true => exact q
  | false => rw [if_neg (by decide)] at q; exact q
theorem W_nil {Q : List D → DEnv → Sto → Prop} (q : Q [] env st) : W mNil env st Q := ⟨_, _, _, rfl, q⟩
theorem W_cons {Q : List D → DEnv → Sto → Prop} {r : Mo (List D)} (w : W a env st (fun d e s => W r e s (fun ds e2 s2 => Q (d :: ds) e2 s2))) : W (mCons a r) env st Q := by
  obtain ⟨x, e, s, h, y, e2, s2, h2, q⟩ := w
  unfold W mCons
  rw [h]
  dsimp only
  rw [h2]
  exact ⟨_, _, _, rfl, q⟩
theorem W_lst {m : Mo (List D)} (w : W m env st (fun ds e s => szOk ds.length = true ∧ Q (.lst true ds) e s)) : W (mLst m) env st Q := by
  obtain ⟨x, e, s, h, h2, q⟩ := w
  unfold W mLst
  rw [h]
  exact ⟨_, _, _, if_pos h2, q⟩
theorem W_tup {m : Mo (List D)} (w : W m env st (fun ds e s => szOk ds.length = true ∧ Q (.tup ds) e s)) : W (mTup m) env st Q := by
  obtain ⟨x, e, s, h, h2, q⟩ := w
  unfold W mTup
  rw [h]
  exact ⟨_, _, _, if_pos h2, q⟩
theorem W_ixx (w : W a env st (fun x e s => W b e s (fun y e2 s2 => ∃ z, ixD x y = some z ∧ Q z e2 s2))) : W (mIx (.ex a) (.ex b)) env st Q := by
  obtain ⟨x, e, s, h, y, e2, s2, h2, z, h3, q⟩ := w
  unfold W mIx
  dsimp only
  rw [h]
  dsimp only
  rw [h2]
  dsimp only
  rw [h3]
  exact ⟨_, _, _, rfl, q⟩
theorem W_ixn (w : W a env st (fun x e s => ∃ y, look j e s = some y ∧ ∃ z, ixD x y = some z ∧ Q z e s)) : W (mIx (.ex a) (.nm j)) env st Q := by
  obtain ⟨x, e, s, h, y, h2, z, h3, q⟩ := w
  unfold W mIx
  dsimp only
  rw [h]
  dsimp only
  rw [h2]
  dsimp only
  rw [h3]
  exact ⟨_, _, _, rfl, q⟩
theorem W_nix (w : W (od2 (.nm i) o) env st (fun p e s => ∃ z, ixD p.1 p.2 = some z ∧ z.fr = true ∧ Q z e s)) : W (mIx (.nm i) o) env st Q := by
  obtain ⟨⟨x, y⟩, e, s, h, z, h2, h3, q⟩ := w
  unfold W mIx
  dsimp only
  rw [h]
  dsimp only
  dsimp only at h2
  rw [h2]
  exact ⟨_, _, _, if_pos h3, q⟩
theorem W_alt (w : W a env st Q) : W (mAlt a b) env st Q := by
  obtain ⟨x, e, s, h, q⟩ := w
  unfold W mAlt
  rw [h]
  exact ⟨_, _, _, rfl, q⟩
theorem W_p0 {Q : Option Int → DEnv → Sto → Prop} (q : Q none env st) : W (mPart none) env st Q := ⟨_, _, _, rfl, q⟩
theorem W_p1 {Q : Option Int → DEnv → Sto → Prop} (w : W a env st (fun d e s => ∃ k, d = .int k ∧ Q (some k) e s)) : W (mPart (some a)) env st Q := by
  obtain ⟨x, e, s, h, k, rfl, q⟩ := w
  unfold W mPart
  dsimp only
  rw [h]
  exact ⟨_, _, _, rfl, q⟩
theorem W_slx {l u : Option (Mo D)} (w : W a env st (fun x e s => W (mPart l) e s (fun p e2 s2 => W (mPart u) e2 s2 (fun q e3 s3 => ∃ z, slD x p q = some z ∧ Q z e3 s3)))) : W (mSl (.ex a) l u) env st Q := by
  obtain ⟨x, e, s, h, p, e2, s2, h2, p', e3, s3, h3, z, h4, q⟩ := w
  unfold W mSl
  dsimp only
  rw [h]
  dsimp only
  rw [h2]
  dsimp only
  rw [h3]
  dsimp only
  rw [h4]
  exact ⟨_, _, _, rfl, q⟩
theorem W_sln {l u : Option (Mo D)} {x0 : D} (h0 : peek i env = some x0) (w : W (mPart l) env st (fun p e2 s2 => W (mPart u) e2 s2 (fun q e3 s3 => ∃ x, look i e3 s3 = some x ∧ ∃ z, slD x p q = some z ∧ Q z e3 s3))) : W (mSl (.nm i) l u) env st Q := by
  obtain ⟨p, e2, s2, h2, p', e3, s3, h3, x, h4, z, h5, q⟩ := w
  unfold W mSl
  dsimp only
  rw [h0]
  dsimp only
  rw [h2]
  dsimp only
  rw [h3]
  dsimp only
  rw [h4]
  dsimp only
  rw [h5]
  exact ⟨_, _, _, rfl, q⟩
theorem W_dnew (q : Q (.dic true []) env st) : W mDnew env st Q := ⟨_, _, _, rfl, q⟩
theorem W_ps0 {Q : List (Key × D) → DEnv → Sto → Prop} (q : Q [] env st) : W (pairsM []) env st Q := ⟨_, _, _, rfl, q⟩
theorem W_ps1 {Q : List (Key × D) → DEnv → Sto → Prop} {k : Key} {r : List (Key × Mo D)} (w : W a env st (fun d e s => W (pairsM r) e s (fun ds e2 s2 => Q ((k, d) :: ds) e2 s2))) : W (pairsM ((k, a) :: r)) env st Q := by
  obtain ⟨d, e, s, h, ds, e2, s2, h2, q⟩ := w
  unfold W pairsM
  rw [h]
  dsimp only
  rw [h2]
  exact ⟨_, _, _, rfl, q⟩
theorem W_disp {ms : List (Key × Mo D)} (h1 : ms.length ≤ 15) (h2 : nodK (ms.map (·.1)) = true) (w : W (pairsM ms) env st (fun kvs e s => Q (.dic true kvs) e s)) : W (mDisp ms) env st Q := by
  obtain ⟨kvs, e, s, h, q⟩ := w
  unfold W mDisp
  rw [if_pos ⟨h1, h2⟩, h]
  exact ⟨_, _, _, rfl, q⟩
theorem W_call {n : Nat} {f : Fn} {m : Mo (List D)} (w : W m env st (fun ds e s => ds.length = n ∧ D.nobs ds = true ∧ WF f (D.fzs ds) s (fun d s' => Q d e s'))) : W (mCall n f m) env st Q := by
  obtain ⟨ds, e, s, h, h1, h2, d, s', h3, q⟩ := w
  unfold W mCall
  rw [h]
  dsimp only
  rw [if_pos ⟨h1, h2⟩, h3]
  exact ⟨_, _, _, rfl, q⟩
theorem W_it {Q : List D → DEnv → Sto → Prop} (w : W a env st (fun d e s => d.nob = true ∧ ∃ xs, itemsD d.fz = some xs ∧ Q xs e s)) : W (mIt a) env st Q := by
  obtain ⟨d, e, s, h, h1, xs, h2, q⟩ := w
  unfold W mIt
  rw [h]
  dsimp only
  rw [if_pos h1, h2]
  exact ⟨_, _, _, rfl, q⟩
theorem W_rng1 {Q : List D → DEnv → Sto → Prop} {m : Mo (List D)} (w : W m env st (fun ds e s => ∃ j : Int, ds = [.int j] ∧ smallI j = true ∧ Q (rangeOf 0 j.toNat) e s)) : W (mRng1 m) env st Q := by
  obtain ⟨d, e, s, h, j, rfl, h1, q⟩ := w
  unfold W mRng1
  rw [h]
  dsimp only
  rw [if_pos h1]
  exact ⟨_, _, _, rfl, q⟩
theorem W_chain (w : W a env st (fun x e s => W b e s (fun y e2 s2 => ∃ k, g x y = some (.bl k) ∧ if k = true then W c e2 s2 (fun z e3 s3 => ∃ r, h y z = some r ∧ Q r e3 s3) else Q (.bl false) e2 s2))) : W (mChain g h a b c) env st Q := by
  obtain ⟨x, e, s, h1, y, e2, s2, h2, k, h3, q⟩ := w
  unfold W mChain
  rw [h1]
  dsimp only
  rw [h2]
  dsimp only
  rw [h3]
  cases k with
  | true =>
    obtain ⟨z, e3, s3, h4, r, h5, q⟩ := q
    dsimp only
    rw [if_pos rfl, h4]
    dsimp only
    rw [h5]
    exact ⟨_, _, _, rfl, q⟩
  | false =>
    rw [if_neg (by decide)] at q
    exact ⟨_, _, _, rfl, q⟩
theorem W_mt {gg : List D → List D → Option (D × List D)} {m : Mo (List D)} {ds0 : List D} (h0 : placeGet i env st = some ds0) (w : W m env st (fun es e s => ∃ ds, placeGet i e s = some ds ∧ ∃ r : D × List D, gg ds es = some r ∧ Q r.1 (placeSet i r.2 e s).1 (placeSet i r.2 e s).2)) : W (mMt i gg m) env st Q := by
  obtain ⟨es, e, s, h, ds, h1, ⟨d, ds'⟩, h2, q⟩ := w
  unfold W mMt
  rw [h0]
  dsimp only
  rw [h]
  dsimp only
  rw [h1]
  dsimp only
  rw [h2]
  exact ⟨_, _, _, rfl, q⟩
/-- a comprehension: what holds between two turns -/
theorem lcL_inv {vs : List Nat} {bi : Bi} {t elt : Mo D} {Q : List D → DEnv → Sto → Prop} (J : List D → List D → DEnv → Sto → Prop)
    (step : ∀ d ds acc e s, J (d :: ds) acc e s → ∃ e1, bi d e = some e1 ∧ W t e1 s (Br (fun e2 s2 => W elt e2 s2 (fun y e3 s3 => J ds (acc ++ [y]) (wipeE e3 vs) s3)) (fun e2 s2 => J ds acc (wipeE e2 vs) s2)))
    : ∀ (ds : List D) (acc : List D) (e : DEnv) (s : Sto), J ds acc e s → (∀ ys e s, J [] (acc ++ ys) e s → Q ys e s) → W (lcL vs bi t elt ds) e s Q
  | [], acc, e, s, h, fin => ⟨[], _, _, rfl, fin [] e s (by rw [List.append_nil]; exact h)⟩
  | d :: ds, acc, e, s, h, fin => by
    obtain ⟨e1, h1, x, e2, s2, h2, k, rfl, q⟩ := step d ds acc e s h
    unfold W lcL
    rw [h1]
    dsimp only
    rw [h2]
    cases k with
    | true =>
      obtain ⟨y, e3, s3, h3, q⟩ := q
      dsimp only
      rw [if_pos rfl, h3]
      obtain ⟨ys, e4, s4, h4, q⟩ := lcL_inv (vs := vs) J step ds (acc ++ [y]) _ _ q (Q := fun ys e s => Q (y :: ys) e s) fun ys e s hj => fin (y :: ys) e s (by rw [List.append_assoc] at hj; exact hj)
      dsimp only
      rw [h4]
      exact ⟨_, _, _, rfl, q⟩
    | false =>
      rw [if_neg (by decide)] at q
      exact lcL_inv (vs := vs) J step ds acc _ _ q fin
theorem W_lc {vs : List Nat} {bi : Bi} {t elt : Mo D} {m : Mo (List D)} (w : W m env st (fun items e s => savedOk e vs = true ∧ W (lcL vs bi t elt items) (wipeE e vs) s (fun ds e2 s2 => szOk ds.length = true ∧ Q (.lst true ds) (keepE e e2 vs) s2))) : W (mLc m vs bi t elt) env st Q := by
  obtain ⟨items, e, s, h, h1, ds, e2, s2, h2, h3, q⟩ := w
  unfold W mLc
  rw [h]
  dsimp only
  rw [if_pos h1, h2]
  exact ⟨_, _, _, if_pos h3, q⟩
end
theorem WF_of {n : Nat} {body : Ms} {ds : List D} {Q : D → Sto → Prop} (w : W body (ds.map some ++ List.replicate (n - ds.length) none) st (fun f e s => match f with | .rt d => Q d s | .nx => Q .non s | _ => False)) : WF (mBody n body) ds st Q := by
  obtain ⟨f, e, s, h, q⟩ := w
  unfold WF mBody
  rw [h]
  cases f with
  | rt d => exact ⟨_, _, rfl, q⟩
  | nx => exact ⟨_, _, rfl, q⟩
  | bk => exact q.elim
  | ct => exact q.elim
end
end Fw

set_option Elab.async false
set_option linter.all false
set_option maxRecDepth 100000
/-! enumerate -/
namespace Fw
open PySem PySem.Spec PyProof.Rows L2
def enumOf (i : Nat) : List D → List D
  | [] => []
  | d :: r => .tup [.int i, d] :: enumOf (i + 1) r
theorem enumOf_get : ∀ (xs : List D) (k i : Nat) (d : D), (enumOf k xs)[i]? = some d → ∃ x, xs[i]? = some x ∧ d = .tup [.int ((k + i : Nat) : Int), x]
  | [], k, i, d, h => by simp [enumOf] at h
  | x :: r, k, 0, d, h => by
    simp only [enumOf, List.getElem?_cons_zero, Option.some.injEq] at h
    exact ⟨x, rfl, h.symm⟩
  | x :: r, k, i + 1, d, h => by
    simp only [enumOf, List.getElem?_cons_succ] at h
    obtain ⟨y, h1, h2⟩ := enumOf_get r (k + 1) i d h
    refine ⟨y, by simpa using h1, ?_⟩
    rw [h2, show k + 1 + i = k + (i + 1) by omega]
theorem enumOf_len : ∀ (xs : List D) (k : Nat), (enumOf k xs).length = xs.length
  | [], _ => rfl
  | x :: r, k => by rw [enumOf, List.length_cons, List.length_cons, enumOf_len r]
section
variable {K : PySem.W.Frag} {cA : Str → Addr} {S H : Hp} {ca : List Addr} {ds : List D} {vs : List V} {p : Addr} {g L : Fp}
theorem srv_enum (h : S p = some (.lst vs)) (r : Rps K cA S H ca ds vs g) (g0 : ∀ a, g a = 0) : Srv K cA (Ite K p) L S H ca (enumOf 0 ds) where
  go := fun {i d S' H' ca'} e t s => by
    obtain ⟨x, hx, _⟩ := enumOf_get ds 0 i d e
    obtain ⟨v, _, hv, _, _⟩ := r.get hx
    exact ⟨vs, v, SqL.of (s _ _ (t.ex _ _ h)), hv⟩
  yl := fun {i d S' H' H2 ca' u} e t s y => by
    obtain ⟨T, z, rfl, hT, rfl, hz⟩ := y
    obtain ⟨x, hx, rfl⟩ := enumOf_get ds 0 i d e
    obtain ⟨v, g', hv, rv, l⟩ := r.get hx
    have w := hz vs (SqL.of (s _ _ (t.ex _ _ h)))
    rw [hv] at w
    cases w
    have f0 : ∀ a, g' a = 0 := fun a => by have := l a; have := g0 a; omega
    refine ⟨upd_gr hT, .tup (.inl (.inl upd_same)) ?_⟩
    rw [Nat.zero_add]
    have r1 : Rp K cA S' H' ca' x _ (fun _ => 0) := (rv.keep t fun a q => absurd (f0 a) q).f0 f0
    exact .cons (f := fun _ => 0) (g := fun _ => 0) (.int _ fun _ => rfl) (.cons (f := fun _ => 0) (g := fun _ => 0) (r1.keep (L := fun _ => 0) (tr_grow (upd_gr hT)) fun _ _ => rfl) (.nil fun _ => rfl) fun _ => rfl) fun _ => rfl
  stop := fun {i S' H' ca'} e t s => ⟨vs, SqL.of (s _ _ (t.ex _ _ h)), by rw [r.length]; rw [enumOf_len] at e; exact e⟩
end
def mEnum (a : Mo D) : Mo (List D) := fun env st => match a env st with
  | some (d, e1, s1) => if d.nob = true then (match d.fz with
    | .lst false xs => some (enumOf 0 xs, e1, s1)
    | _ => none) else none
  | none => none
section
variable {X : Cx} {cA : Str → Addr}
theorem pid_enum {elts : List Expr} {kk : Nat} {tpos : Pos} {e : Expr} {a : Mo D} {p pos : Pos} (hg : Gl X "enumerate") (hm : X.mg "enumerate" = none) (h : PD cA X e a) (hs : starEach [e] X.env = [(false, eval e X.env)] := by rfl) : PId cA X (.Tuple elts kk tpos) (.Call (.Name "enumerate" p) [e] [] pos) (mEnum a) :=
  pi_w (pi_enum hg hm (pa_cons h pa_nil hs) hs) fun σ H R ⟨S, ca, env, st, ow, A, items, env', st', t, hm, k⟩ => by
    unfold mEnum at hm
    split at hm
    · rename_i d e1 s1 h1
      split at hm
      · rename_i nb
        split at hm
        · rename_i xs hx
          obtain ⟨rfl, rfl, rfl⟩ := inj3 hm
          refine ⟨S, ca, env, st, ow, A, d, _, _, t, h1, fun v S1 H1 ca1 ow1 A1 f1 p1 => ?_⟩
          have p2 := p1.frz nb
          have r := p2.rp
          rw [hx] at r
          cases r with
          | lstS h r hg hf => exact ⟨_, _, rfl, SqL.of (p2.st.sub _ _ h), k _ _ _ _ _ _ p2.z0 (srv_enum h r hg)⟩
        · cases hm
      · cases hm
    · cases hm
/-! list(range(n)) -/
def mLR1 (a : Mo D) : Mo D := fun env st => match a env st with
  | some (.int j, e1, s1) => if smallI j = true ∧ j ≤ 16000000 then some (.lst true (rangeOf 0 j.toNat), e1, s1) else none
  | _ => none
theorem rps_range {K : PySem.W.Frag} {S H : Hp} {ca : List Addr} : ∀ l : List Nat, Rps K cA S H ca (l.map fun (i : Nat) => D.int (0 + (i : Int))) (l.map fun (i : Nat) => V.int (0 + (i : Int))) (fun _ => 0)
  | [] => .nil fun _ => rfl
  | i :: r => .cons (f := fun _ => 0) (g := fun _ => 0) (.int _ fun _ => rfl) (rps_range r) fun _ => rfl
theorem pd_listRg1 {e : Expr} {a : Mo D} {p p2 pos pos2 : Pos} (hg : Gl X "list") (hm : X.mg "list" = none) (hg2 : Gl X "range") (hm2 : X.mg "range" = none) (ha : PD cA X e a) (hc : X.calm = true)
    (na : starEach [e] X.env = (false, eval e X.env) :: starEach [] X.env := by rfl) (nb : starEach [.Call (.Name "range" p2) [e] [] pos2] X.env = (false, eval (.Call (.Name "range" p2) [e] [] pos2) X.env) :: starEach [] X.env := by rfl) :
    PD cA X (.Call (.Name "list" p) [.Call (.Name "range" p2) [e] [] pos2] [] pos) (mLR1 a) :=
  pe_w (pe_listRg hc hg hm (prg_1 hg2 hm2 ha na) nb) fun σ H Q ⟨S, ca, env, st, ow, A, d', env', st', t, hm, q⟩ => by
    unfold mLR1 at hm
    split at hm
    · rename_i j e1 s1 h1
      split at hm
      · rename_i hj
        obtain ⟨rfl, rfl, rfl⟩ := inj3 hm
        refine ⟨S, ca, env, st, ow, A, _, _, _, t, h1, fun v S1 H1 ca1 ow1 A1 f1 p1 => ?_⟩
        obtain ⟨rfl, _⟩ := p1.rp.i
        have hs := of_decide_eq_true hj.1
        refine ⟨j, rfl, ⟨by omega, by omega, hs.1, hs.2, by omega⟩, fun p np => ?_⟩
        have r : Rps X.K cA S1 H1 ca1 (rangeOf 0 j.toNat) (rgV 0 j) (fun _ => 0) := by
          unfold rangeOf rgV
          rw [Int.sub_zero]
          exact rps_range _
        have p2 : Post X.K cA σ S H ca ow A _ _ (rDs X.K cA (rangeOf 0 j.toNat) (rgV 0 j)) S1 H1 ca1 ow1 A1 (fun _ => 0) := p1.imp (fun _ => r) fun _ => Nat.zero_le _
        exact q _ _ _ _ _ _ _ (p2.newL np)
      · cases hm
    · cases hm
/-! xs.extend(ys) -/
def gExtend : List D → List D → Option (D × List D)
  | ds, [.lst _ zs] => if szOk (ds.length + zs.length) = true ∧ D.frs zs = true then some (.non, ds ++ zs) else none
  | _, _ => none
end
end Fw

set_option Elab.async false
set_option linter.all false
set_option maxRecDepth 100000
/-! max, min of more -/
namespace Fw
open PySem PySem.Spec PyProof.Rows L2
section
variable {X : Cx} {cA : Str → Addr}
def intsOf : List D → Option (List Int)
  | [] => some []
  | .int b :: r => (intsOf r).map (b :: ·)
  | _ => none
/-- max of a list of ints -/
def maxI : List Int → Int
  | [] => 0
  | [x] => x
  | x :: r => if maxI r > x then maxI r else x
def minI : List Int → Int
  | [] => 0
  | [x] => x
  | x :: r => if minI r < x then minI r else x
def maxD : D → Option D
  | .lst _ xs => (match intsOf xs with
    | some ns => if ns.isEmpty = true then none else some (.int (maxI ns))
    | none => none)
  | _ => none
def minD : D → Option D
  | .lst _ xs => (match intsOf xs with
    | some ns => if ns.isEmpty = true then none else some (.int (minI ns))
    | none => none)
  | _ => none
def max3D : List D → Option D
  | [.int i, .int j, .int l] => some (.int (let m := if i < j then j else i; if m < l then l else m))
  | _ => none
end
end Fw

set_option Elab.async false
set_option linter.all false
set_option maxRecDepth 100000
/-! xs[::-1] -/
namespace Fw
open PySem PySem.Spec PyProof.Rows L2
section
variable {X : Cx} {cA : Str → Addr}
def revD : D → Option D
  | .lst _ xs => if D.frs xs = true then some (.lst true xs.reverse) else none
  | _ => none
end
/-! ### looks -/
inductive Lk where
  | nm (i : Nat) | int (i : Int) | str (x : Str)
  | ix (a k : Lk) | dk (a k : Lk) | add (a b : Lk) | sub (a b : Lk) | fld (c : Str) (a : Lk) (f : Str)
def intOp (g : Int → Int → Int) : D → D → Option D
  | .int i, .int j => some (.int (g i j))
  | _, _ => none
def fldD (c : Str) (f : Str) : D → Option D
  | .obj _ c' fs => if c' = c then fs.lookup f else none
  | _ => none
def Lk.ev : Lk → DEnv → Sto → Option D
  | .nm i, env, st => look i env st
  | .int i, _, _ => some (.int i)
  | .str x, _, _ => some (.str x)
  | .ix a k, env, st => match a.ev env st, k.ev env st with
    | some x, some y => ixD x y
    | _, _ => none
  | .dk a k, env, st => match a.ev env st, k.ev env st with
    | some x, some y => dkD x y
    | _, _ => none
  | .add a b, env, st => match a.ev env st, b.ev env st with
    | some x, some y => intOp (· + ·) x y
    | _, _ => none
  | .sub a b, env, st => match a.ev env st, b.ev env st with
    | some x, some y => intOp (· - ·) x y
    | _, _ => none
  | .fld c a f, env, st => match a.ev env st with
    | some x => fldD c f x
    | _ => none
def tLk (cA : Str → Addr) (l : Lk) (K : PySem.W.Frag) : TE := fun σ H Q => ∃ S ca env st ow A d, Sta K cA σ S H env st ca ow A ∧ l.ev env st = some d ∧ ∀ v f, Rp K cA S H ca d v f → Q v H
abbrev PL (cA : Str → Addr) (X : Cx) (e : Expr) (l : Lk) : Prop := PE X e (tLk cA l X.K)
section
variable {X : Cx} {cA : Str → Addr}
theorem pl_nm (i : Nat) {x : Str} {pos : Pos} (hN : X.N[i]? = some x := by rfl) (hv : Vis X.env.scope x := by first | exact Or.inl rfl | exact Or.inr (Or.inl rfl) | exact Or.inr (Or.inr rfl)) (hd : (x == ("__debug__" : Str)) = false := by decide)
    (hcd : (x == ("__classdict__" : Str)) = false := by decide) : PL cA X (.Name x pos) (.nm i) :=
  pe_w (pe_var hN hv hd hcd) fun σ H Q ⟨S, ca, env, st, ow, A, d, t, h, q⟩ => by
    obtain ⟨v, f, h1, r⟩ := t.look h
    exact ⟨v, h1, q v f r⟩
theorem pl_int {i j pos} : PL cA X (.Constant (.int i) j pos) (.int i) := pe_w pe_int fun σ H Q ⟨S, ca, env, st, ow, A, d, t, h, q⟩ => by
  cases h
  exact q _ _ rp_int0
theorem ev2 {α : Type} {a b : Option D} {g : D → D → Option α} {d : α} (h : (match a, b with | some x, some y => g x y | _, _ => none) = some d) : ∃ x y, a = some x ∧ b = some y ∧ g x y = some d := by
  cases a with
  | none => cases h
  | some x =>
    cases b with
    | none => cases h
    | some y => exact ⟨x, y, rfl, rfl, h⟩
theorem pl_ix {ea eb : Expr} {a b : Lk} {pos : Pos} (ha : PL cA X ea a) (hb : PL cA X eb b) (hs : PlainIx eb := by exact fun _ _ => rfl) : PL cA X (.Subscript ea eb pos) (.ix a b) :=
  pe_w (pe_ix ix_seq ha hb hs) fun σ H Q ⟨S, ca, env, st, ow, A, d, t, h, q⟩ => by
    obtain ⟨x, y, h1, h2, h3⟩ := ev2 h
    exact ⟨S, ca, env, st, ow, A, x, t, h1, fun v f r => ⟨S, ca, env, st, ow, A, y, t, h2, fun w g r2 => ix_of t.sub r r2 h3 fun v' g' rv _ => q v' g' rv⟩⟩
/-- what is looked at, if nobody owns it, as a value -/
def mLk (l : Lk) : Mo D := fun env st => match l.ev env st with
  | some d => if d.fr = true then some (d, env, st) else none
  | none => none
theorem pd_lk {e : Expr} {l : Lk} (h : PL cA X e l) : PD cA X e (mLk l) := pe_w h fun σ H Q ⟨S, ca, env, st, ow, A, d', env', st', t, hm, q⟩ => by
  unfold mLk at hm
  split at hm
  · rename_i d hd
    split at hm
    · rename_i hf
      obtain ⟨rfl, rfl, rfl⟩ := inj3 hm
      exact ⟨S, ca, env, st, ow, A, d, t, hd, fun v f r => q v S H ca ow A _ (t.self (r.f0 (r.fr0 hf)) fun _ => rfl)⟩
    · cases hm
  · cases hm
theorem W_lk {l : Lk} {env : DEnv} {st : Sto} {d : D} {Q : D → DEnv → Sto → Prop} (h : l.ev env st = some d) (hf : d.fr = true) (q : Q d env st) : W (mLk l) env st Q := by
  unfold W mLk
  rw [h]
  exact ⟨_, _, _, if_pos hf, q⟩
/-- a built-in of what is looked at -/
def mUnK (g : D → Option D) (l : Lk) : Mo D := fun env st => match l.ev env st with
  | some x => (match g x with
    | some z => some (z, env, st)
    | none => none)
  | none => none
/-- two looks -/
def mBinK (g : D → D → Option D) (a b : Lk) : Mo D := fun env st => match a.ev env st, b.ev env st with
  | some x, some y => (match g x y with
    | some z => some (z, env, st)
    | none => none)
  | _, _ => none
end
end Fw

set_option Elab.async false
set_option linter.all false
set_option maxRecDepth 100000
/-! comprehensions over a name's list; calls that only look -/
namespace Fw
open PySem PySem.Spec PyProof.Rows L2
section
variable {X : Cx} {cA : Str → Addr}
end
/-! ### several operands -/
inductive Oa where
  | ex (m : Mo D) | nm (i : Nat) | lk (l : Lk)
def Oa.still : Oa → Bool
  | .ex _ => false
  | _ => true
def odL : List Oa → Mo (List D)
  | [], env, st => some ([], env, st)
  | .ex m :: r, env, st => (match m env st with
    | some (d, e1, s1) => (match odL r e1 s1 with
      | some (ds, e2, s2) => some (d :: ds, e2, s2)
      | none => none)
    | none => none)
  | .nm i :: r, env, st => (match peek i env with
    | some _ => (match odL r env st with
      | some (ds, e2, s2) => (match look i e2 s2 with
        | some x => some (x :: ds, e2, s2)
        | none => none)
      | none => none)
    | none => none)
  | .lk l :: r, env, st => (match l.ev env st with
    | some x => if r.all Oa.still = true then (match odL r env st with
      | some (ds, e2, s2) => some (x :: ds, env, st)
      | none => none) else none
    | none => none)
def tOa (cA : Str → Addr) (o : Oa) (K : PySem.W.Frag) : TE := match o with
  | .ex m => tE cA m K
  | .nm i => tVar i
  | .lk l => tLk cA l K
theorem odL_still : ∀ {r : List Oa} {env env' : DEnv} {st st' : Sto} {ds : List D}, r.all Oa.still = true → odL r env st = some (ds, env', st') → env' = env ∧ st' = st
  | [], env, env', st, st', ds, _, h => by obtain ⟨_, rfl, rfl⟩ := inj3 h; exact ⟨rfl, rfl⟩
  | .ex m :: r, env, env', st, st', ds, a, h => by simp [Oa.still] at a
  | .nm i :: r, env, env', st, st', ds, a, h => by
    unfold odL at h
    split at h
    · split at h
      · rename_i ds' e2 s2 h2
        split at h
        · obtain ⟨_, rfl, rfl⟩ := inj3 h
          exact odL_still (by simpa [Oa.still] using a) h2
        · cases h
      · cases h
    · cases h
  | .lk l :: r, env, env', st, st', ds, a, h => by
    unfold odL at h
    split at h
    · split at h
      · split at h
        · obtain ⟨_, rfl, rfl⟩ := inj3 h
          exact ⟨rfl, rfl⟩
        · cases h
      · cases h
    · cases h
/-- looks alone: at one state -/
theorem odL_look {cA : Str → Addr} {K : PySem.W.Frag} {σ : L2.St} : ∀ {os : List Oa} {S H : Hp} {env env' : DEnv} {st st' : Sto} {ca : List Addr} {ow A : Fp} {ds : List D}, os.all Oa.still = true → Sta K cA σ S H env st ca ow A → odL os env st = some (ds, env', st') → ∀ Q : List V → Hp → Prop,
    (∀ vs F, Rps K cA S H ca ds vs F → Q vs H) → os.foldr (fun o t => tCons (tOa cA o K) t) tNil σ H Q
  | [], S, H, env, env', st, st', ca, ow, A, ds, _, t, hm, Q, q => by
    obtain ⟨rfl, rfl, rfl⟩ := inj3 hm
    exact q [] (fun _ => 0) (.nil fun _ => rfl)
  | .ex m :: r, S, H, env, env', st, st', ca, ow, A, ds, a, t, hm, Q, q => by simp [Oa.still] at a
  | .nm i :: r, S, H, env, env', st, st', ca, ow, A, ds, a, t, hm, Q, q => by
    have a' : r.all Oa.still = true := by simpa [Oa.still] using a
    unfold odL at hm
    split at hm
    · rename_i x0 h0
      split at hm
      · rename_i ds' e2 s2 h2
        split at hm
        · rename_i x hx
          obtain ⟨rfl, rfl, rfl⟩ := inj3 hm
          obtain ⟨rfl, rfl⟩ := odL_still a' h2
          obtain ⟨v, f, hv, rx⟩ := t.look hx
          exact ⟨v, hv, odL_look a' t h2 _ fun vs F r2 => q (v :: vs) (fun a => f a + F a) (.cons rx r2 fun _ => rfl)⟩
        · cases hm
      · cases hm
    · cases hm
  | .lk l :: r, S, H, env, env', st, st', ca, ow, A, ds, a, t, hm, Q, q => by
    have a' : r.all Oa.still = true := by simpa [Oa.still] using a
    unfold odL at hm
    split at hm
    · rename_i x hx
      rw [if_pos a'] at hm
      split at hm
      · rename_i ds' e2 s2 h2
        obtain ⟨rfl, rfl, rfl⟩ := inj3 hm
        obtain ⟨rfl, rfl⟩ := odL_still a' h2
        exact ⟨S, ca, _, _, ow, A, x, t, hx, fun v f rx => odL_look a' t h2 _ fun vs F r2 => q (v :: vs) (fun a => f a + F a) (.cons rx r2 fun _ => rfl)⟩
      · cases hm
    · cases hm
def tL (cA : Str → Addr) (K : PySem.W.Frag) (os : List Oa) : TA := os.foldr (fun o t => tCons (tOa cA o K) t) tNil
theorem odL_w {cA : Str → Addr} {K : PySem.W.Frag} {σ : L2.St} : ∀ {os : List Oa} {S H : Hp} {env env' : DEnv} {st st' : Sto} {ca : List Addr} {ow A : Fp} {ds : List D} {Q : List V → Hp → Prop}, Sta K cA σ S H env st ca ow A → odL os env st = some (ds, env', st') →
    (∀ vs S2 H2 ca2 ow2 A2 F, Post K cA σ S H ca ow A env' st' r0 S2 H2 ca2 ow2 A2 (fun _ => 0) → Rps K cA S2 H2 ca2 ds vs F → Q vs H2) → tL cA K os σ H Q
  | [], S, H, env, env', st, st', ca, ow, A, ds, Q, t, hm, q => by
    obtain ⟨rfl, rfl, rfl⟩ := inj3 hm
    exact q [] S H ca ow A (fun _ => 0) t.z0 (.nil fun _ => rfl)
  | .ex m :: r, S, H, env, env', st, st', ca, ow, A, ds, Q, t, hm, q => by
    unfold odL at hm
    split at hm
    · rename_i d e1 s1 h1
      split at hm
      · rename_i ds' e2 s2 h2
        obtain ⟨rfl, rfl, rfl⟩ := inj3 hm
        refine ⟨S, ca, env, st, ow, A, d, e1, s1, t, h1, fun v S1 H1 ca1 ow1 A1 f1 p1 => odL_w p1.st h2 fun vs S2 H2 ca2 ow2 A2 F p2 r2 => ?_⟩
        refine q (v :: vs) S2 H2 ca2 ow2 A2 (fun a => f1 a + F a) (p1.then p2) (.cons (p1.rp.keep p2.tr fun a z => ?_) r2 fun _ => rfl)
        have := p1.le a
        show ow1 a + A1 a = 0
        omega
      · cases hm
    · cases hm
  | .nm i :: r, S, H, env, env', st, st', ca, ow, A, ds, Q, t, hm, q => by
    unfold odL at hm
    split at hm
    · rename_i x0 h0
      split at hm
      · rename_i ds' e2 s2 h2
        split at hm
        · rename_i x hx
          obtain ⟨rfl, rfl, rfl⟩ := inj3 hm
          obtain ⟨v, _, hv, _, _⟩ := t.peek h0
          refine ⟨v, hv, odL_w t h2 fun vs S2 H2 ca2 ow2 A2 F p2 r2 => ?_⟩
          obtain ⟨v', f, hv', rx⟩ := p2.st.look hx
          rw [hv] at hv'
          cases hv'
          exact q (v :: vs) S2 H2 ca2 ow2 A2 (fun a => f a + F a) p2 (.cons rx r2 fun _ => rfl)
        · cases hm
      · cases hm
    · cases hm
  | .lk l :: r, S, H, env, env', st, st', ca, ow, A, ds, Q, t, hm, q => by
    have hm0 := hm
    unfold odL at hm
    split at hm
    · rename_i x hx
      split at hm
      · rename_i a
        split at hm
        · obtain ⟨rfl, rfl, rfl⟩ := inj3 hm
          exact odL_look (os := .lk l :: r) (by simpa [Oa.still] using a) t hm0 Q fun vs F r2 => q vs S H ca ow A F t.z0 r2
        · cases hm
      · cases hm
    · cases hm
/-! ### a call that leaves all as it was -/
mutual
def D.unS : D → Bool
  | .lst o xs => o && D.unSs xs
  | .tup xs => D.unSs xs
  | .dic o ks => o && D.unSk ks
  | .obj o _ fs => o && D.unSf fs
  | .scr _ => false
  | _ => true
def D.unSs : List D → Bool
  | [] => true
  | d :: r => d.unS && D.unSs r
def D.unSk : List (Key × D) → Bool
  | [] => true
  | (_, d) :: r => d.unS && D.unSk r
def D.unSf : List (Str × D) → Bool
  | [] => true
  | (_, d) :: r => d.unS && D.unSf r
end
section
variable {K : PySem.W.Frag} {cA : Str → Addr} {S S' H : Hp} {ca : List Addr}
mutual
theorem Rp.less (e : ∀ a, S' a = none → S a = none) : ∀ {d : D} {v : V} {f : Fp}, Rp K cA S' H ca d v f → d.unS = true → Rp K cA S H ca d v f
  | _, _, _, .non hf, _ => .non hf
  | _, _, _, .unk hf, _ => .unk hf
  | _, _, _, .bl b hf, _ => .bl b hf
  | _, _, _, .int b hf, _ => .int b hf
  | _, _, _, .str b hf, _ => .str b hf
  | _, _, _, .lstO h hs r hf, u => .lstO h (e _ hs) (Rps.less e r (by simpa [D.unS] using u)) hf
  | _, _, _, .lstS h r hg hf, u => by simp [D.unS] at u
  | _, _, _, .tup h r, u => .tup h (Rps.less e r (by simpa [D.unS] using u))
  | _, _, _, .dicO h hs r hf, u => .dicO h (e _ hs) (Rks.less e r (by simpa [D.unS] using u)) hf
  | _, _, _, .dicS h r hg hf, u => by simp [D.unS] at u
  | _, _, _, .objO h hs r hf, u => .objO h (e _ hs) (Rfs.less e r (by simpa [D.unS] using u)) hf
  | _, _, _, .objS h r hg hf, u => by simp [D.unS] at u
  | _, _, _, .cel h hf, _ => .cel h hf
  | _, _, _, .scr h hf, u => by simp [D.unS] at u
theorem Rps.less (e : ∀ a, S' a = none → S a = none) : ∀ {ds : List D} {vs : List V} {f : Fp}, Rps K cA S' H ca ds vs f → D.unSs ds = true → Rps K cA S H ca ds vs f
  | _, _, _, .nil hf, _ => .nil hf
  | _, _, _, .cons r t hh, u => by
    rw [D.unSs, Bool.and_eq_true] at u
    exact .cons (Rp.less e r u.1) (Rps.less e t u.2) hh
theorem Rks.less (e : ∀ a, S' a = none → S a = none) : ∀ {ds : List (Key × D)} {vs : List (Key × V)} {f : Fp}, Rks K cA S' H ca ds vs f → D.unSk ds = true → Rks K cA S H ca ds vs f
  | _, _, _, .nil hf, _ => .nil hf
  | _, _, _, .cons r t hh, u => by
    rw [D.unSk, Bool.and_eq_true] at u
    exact .cons (Rp.less e r u.1) (Rks.less e t u.2) hh
theorem Rfs.less (e : ∀ a, S' a = none → S a = none) : ∀ {ds : List (Str × D)} {vs : List (Str × V)} {f : Fp}, Rfs K cA S' H ca ds vs f → D.unSf ds = true → Rfs K cA S H ca ds vs f
  | _, _, _, .nil hf, _ => .nil hf
  | _, _, _, .cons r t hh, u => by
    rw [D.unSf, Bool.and_eq_true] at u
    exact .cons (Rp.less e r u.1) (Rfs.less e t u.2) hh
end
def allNon : Sto → Bool
  | [] => true
  | d :: r => d.isN && allNon r
theorem allNon_rep : ∀ n : Nat, allNon (List.replicate n D.non) = true
  | 0 => rfl
  | n + 1 => by rw [List.replicate_succ, allNon, allNon_rep n]; rfl
theorem cells_gaps {ps : List Addr} : CellsR K cA S H ca (List.replicate ps.length .non) ps (fun _ => 0) := by
  induction ps with
  | nil => exact .nil fun _ => rfl
  | cons p ps ih => exact .gap ih
end
section
variable {X : Cx} {cA : Str → Addr}
def nons (s : Sto) : Sto := List.replicate s.length .non
def mCallP (n : Nat) (m : Fn) (os : List Oa) : Mo D := fun env st => match odL os env st with
  | some (ds, e1, s1) => if ds.length = n ∧ D.nobs ds = true then (match m (D.fzs ds) (nons s1) with
      | some (d, s2) => if s2.length = s1.length ∧ allNon s2 = true ∧ d.unS = true then some (d, e1, s1) else none
      | none => none)
    else none
  | none => none
/-- behind a call that leaves all as it was: the values looked at are as they were -/
theorem Post.lent {K : PySem.W.Frag} {σ : L2.St} {S H S2 H2 S' H' : Hp} {ca ca2 ca' : List Addr} {ow A ow2 A2 A' F g : Fp} {env2 : DEnv} {st2 st' : Sto} {d : D} {v : V} (p : Post K cA σ S H ca ow A env2 st2 r0 S2 H2 ca2 ow2 A2 (fun _ => 0))
    (own : ∀ a, F a ≠ 0 → H2 a ≠ none ∧ S2 a = none) (t : Tr (fun _ => 0) (frzS F S2 H2) H2 S' H' ca2 ca') (hc : CellsR K cA S' H' ca' st' ca' A') (sub : ∀ a o, S' a = some o → H' a = some o) (r : Rp K cA S' H' ca' d v g) (le : ∀ a, A' a + g a ≤ 1)
    (fo : ∀ a, A' a + g a ≠ 0 → (0 : Nat) ≠ 0 ∨ H2 a = none) (hl : st'.length = ca2.length) (hn : allNon st' = true) (hu : d.unS = true) : ∃ S3, Post K cA σ S H ca ow A env2 st2 (rD K cA d v) S3 H' ca2 ow2 A2 g := by
  have eca : ca' = ca2 := by
    have h1 : ca'.length = ca2.length := by rw [← hc.len]; exact hl
    apply List.ext_getElem?
    intro i
    cases e : ca2[i]? with
    | some a => exact t.cs i a e
    | none => exact List.getElem?_eq_none (by rw [h1]; exact List.getElem?_eq_none_iff.mp e)
  subst eca
  have tf := frz_tr (ca := ca') own
  -- what stays, without the lent
  let S3 : Hp := fun a => if F a = 0 then S' a else S2 a
  have s2n : ∀ a, F a ≠ 0 → S3 a = none := fun a h => by show (if F a = 0 then S' a else S2 a) = none; rw [if_neg h]; exact (own a h).2
  have s2e : ∀ a, F a = 0 → S3 a = S' a := fun a h => if_pos h
  have tr : Tr (fun _ => 0) S2 H2 S3 H' ca' ca' := by
    refine ⟨fun a o h => ?_, t.keep, t.fix, t.dom, fun a h n => ?_, fun _ _ h => h⟩
    · by_cases e : F a = 0
      · rw [s2e a e]; exact t.ex a o (tf.ex a o h)
      · rw [(own a e).2] at h; cases h
    · by_cases e : F a = 0
      · rw [s2e a e] at n
        exact t.news a (by unfold frzS; rw [if_pos e]; exact h) n
      · exact absurd (s2n a e) n
  have sub3 : ∀ a o, S3 a = some o → H' a = some o := fun a o h => by
    by_cases e : F a = 0
    · rw [s2e a e] at h; exact sub a o h
    · rw [s2n a e] at h; cases h
  have rr : Rp K cA S3 H' ca' d v g := r.less (fun a h => by
    by_cases e : F a = 0
    · rw [s2e a e]; exact h
    · exact s2n a e) hu
  have gn : ∀ a, g a ≠ 0 → H2 a = none := fun a h => (fo a (by omega)).resolve_left (by omega)
  have dj : ∀ a, ow2 a + A2 a + g a ≤ 1 := fun a => by
    have := le a
    have z := p.le a
    have z : ow2 a + A2 a + 0 ≤ 1 := z
    by_cases e : g a = 0
    · omega
    · have hn := gn a e
      have z1 : ow2 a = 0 := by
        cases Nat.eq_zero_or_pos (ow2 a) with
        | inl y => exact y
        | inr y => exact absurd hn (p.st.e.own a (by omega)).1
      have z2 : A2 a = 0 := by
        cases Nat.eq_zero_or_pos (A2 a) with
        | inl y => exact y
        | inr y => exact absurd hn (p.st.c.own a (by omega)).1
      omega
  refine ⟨S3, p.tr.trans tr fun a h => absurd rfl h, ⟨p.st.e.keep tr fun _ _ => rfl, p.st.c.keep tr fun _ _ => rfl, sub3, fun a => by have := dj a; omega⟩, rr, dj, fun a h => ?_⟩
  by_cases e : g a = 0
  · exact p.fo a (by show ow2 a + A2 a + 0 ≠ 0; omega)
  · exact .inr (p.tr.dom a (gn a e))
theorem callP_w {K : PySem.W.Frag} {σ : L2.St} {H : Hp} {Q : VK} {n : Nat} {m : Fn} {os : List Oa} (h : tE cA (mCallP n m os) K σ H Q) : tCall (spD cA K n m) [] E0 (tL cA K os) σ H Q := by
  obtain ⟨S, ca, env, st, ow, A, d', env', st', t, hm, q⟩ := h
  unfold mCallP at hm
  split at hm
  · rename_i ds e1 s1 h1
    split at hm
    · rename_i hn
      split at hm
      · rename_i d s2 h2
        split at hm
        · rename_i hz
          obtain ⟨rfl, rfl, rfl⟩ := inj3 hm
          refine odL_w t h1 fun vs S2 H2 ca2 ow2 A2 F p2 r2 => ?_
          show spD cA K n m (vs ++ []) H2 Q E0
          rw [List.append_nil]
          have tf := frz_tr (ca := ca2) r2.own
          refine ⟨frzS F S2 H2, ca2, nons s1, fun _ => 0, _, d, s2, by rw [fzs_length]; exact hn.1, ?_, frz_sub p2.st.sub, fun _ => Nat.zero_le _, r2.frz tf.ex (frz_at F S2 H2) hn.2, h2, fun v S' H' ca' A' f tr hc sub rp le fo => ?_⟩
          · unfold nons
            rw [p2.st.c.len]
            exact cells_gaps
          · obtain ⟨S3, p3⟩ := p2.lent r2.own tr hc sub rp le fo (hz.1.trans p2.st.c.len) hz.2.1 hz.2.2
            exact q v S3 H' _ _ _ _ p3
        · cases hm
      · cases hm
    · cases hm
  · cases hm
/-- arguments, names looked at -/
inductive POs (cA : Str → Addr) (X : Cx) : List Expr → List Oa → Prop
  | nil : POs cA X [] []
  | cons {e : Expr} {es : List Expr} {o : Oa} {os : List Oa} (h : PE X e (tOa cA o X.K)) (r : POs cA X es os) (hs : starEach (e :: es) X.env = (false, eval e X.env) :: starEach es X.env := by rfl) : POs cA X (e :: es) (o :: os)
theorem POs.pa {es : List Expr} {os : List Oa} (h : POs cA X es os) : PA X es (tL cA X.K os) := by
  induction h with
  | nil => exact pa_nil
  | cons h r hs ih => exact pa_cons h ih hs
theorem pa_nm (i : Nat) {x : Str} {pos : Pos} (hN : X.N[i]? = some x := by rfl) (hv : Vis X.env.scope x := by first | exact Or.inl rfl | exact Or.inr (Or.inl rfl) | exact Or.inr (Or.inr rfl)) (hd : (x == ("__debug__" : Str)) = false := by decide)
    (hcd : (x == ("__classdict__" : Str)) = false := by decide) : PE X (.Name x pos) (tOa cA (.nm i) X.K) := pe_var hN hv hd hcd
theorem pa_ex {e : Expr} {m : Mo D} (h : PD cA X e m) : PE X e (tOa cA (.ex m) X.K) := h
theorem pa_lk {e : Expr} {l : Lk} (h : PL cA X e l) : PE X e (tOa cA (.lk l) X.K) := h
theorem pd_callP {k j n : Nat} {x : Str} {m : Fn} {e : Expr} {es : List Expr} {os : List Oa} {p pos : Pos} (c : Fnc cA X.prog X.w X.K X.mg X.base k x n m) (hr : Room j X.A) (hG : X.A.guards = some []) (hk : k ≤ j) (hg : Gl X x) (ha : POs cA X (e :: es) os)
    (hdb : (x == ("__debug__" : Str)) = false := by decide) (he : starEach (e :: es) X.env = (false, eval e X.env) :: starEach es X.env := by rfl) (hpl : (backTo pos (starEach es X.env)).any (·.1) = false := by rfl) : PD cA X (.Call (.Name x p) (e :: es) [] pos) (mCallP n m os) := by
  obtain ⟨f, fd, ps, h1, h2, h3, F⟩ := c.ex
  exact pe_w (pe_callG F (hr.mono hk) hG hg h1 h2 h3 .nil pass0 ha.pa hdb he hpl) fun σ H Q h => callP_w h
end
/-! ### runs -/
section
variable {env : DEnv} {st : Sto} {Q : D → DEnv → Sto → Prop}
theorem W_o0 {Q : List D → DEnv → Sto → Prop} (q : Q [] env st) : W (odL []) env st Q := ⟨_, _, _, rfl, q⟩
theorem W_ox' {Q : List D → DEnv → Sto → Prop} {a : Mo D} {r : List Oa} (w : W a env st (fun d e s => W (odL r) e s (fun ds e2 s2 => Q (d :: ds) e2 s2))) : W (odL (.ex a :: r)) env st Q := by
  obtain ⟨d, e, s, h, ds, e2, s2, h2, q⟩ := w
  unfold W odL
  rw [h]
  dsimp only
  rw [h2]
  exact ⟨_, _, _, rfl, q⟩
theorem W_on' {Q : List D → DEnv → Sto → Prop} {i : Nat} {r : List Oa} {x0 : D} (h0 : peek i env = some x0) (w : W (odL r) env st (fun ds e s => ∃ x, look i e s = some x ∧ Q (x :: ds) e s)) : W (odL (.nm i :: r)) env st Q := by
  obtain ⟨ds, e, s, h, x, h2, q⟩ := w
  unfold W odL
  rw [h0]
  dsimp only
  rw [h]
  dsimp only
  rw [h2]
  exact ⟨_, _, _, rfl, q⟩
theorem W_ol {Q : List D → DEnv → Sto → Prop} {l : Lk} {r : List Oa} {x : D} (h0 : l.ev env st = some x) (ha : r.all Oa.still = true) (w : W (odL r) env st (fun ds e s => Q (x :: ds) env st)) : W (odL (.lk l :: r)) env st Q := by
  obtain ⟨ds, e, s, h, q⟩ := w
  unfold W odL
  rw [h0]
  dsimp only
  rw [if_pos ha, h]
  exact ⟨_, _, _, rfl, q⟩
theorem W_callP {n : Nat} {f : Fn} {os : List Oa} (w : W (odL os) env st (fun ds e s => ds.length = n ∧ D.nobs ds = true ∧ WF f (D.fzs ds) (nons s) (fun d s' => s' = nons s ∧ d.unS = true ∧ Q d e s))) : W (mCallP n f os) env st Q := by
  obtain ⟨ds, e, s, h, h1, h2, d, s', h3, rfl, h4, q⟩ := w
  unfold W mCallP
  rw [h]
  dsimp only
  rw [if_pos ⟨h1, h2⟩, h3]
  dsimp only
  rw [if_pos ⟨by unfold nons; rw [List.length_replicate], allNon_rep _, h4⟩]
  exact ⟨_, _, _, rfl, q⟩
end
end Fw

set_option Elab.async false
set_option linter.all false
set_option maxRecDepth 100000
/-! xs + ys, the items going along -/
namespace Fw
open PySem PySem.Spec PyProof.Rows L2
section
variable {X : Cx} {cA : Str → Addr}
def catD : D → D → Option D
  | .lst _ xs, .lst _ ys => if szOk (xs.length + ys.length) = true then some (.lst true (xs ++ ys)) else none
  | _, _ => none
def mCat (a b : Mo D) : Mo D := fun env st => match a env st with
  | some (x, e1, s1) => (match b e1 s1 with
    | some (y, e2, s2) => (match catD x y with
      | some z => some (z, e2, s2)
      | none => none)
    | none => none)
  | none => none
end
end Fw

set_option Elab.async false
set_option linter.all false
set_option maxRecDepth 100000
/-! classes: fields, making, methods -/
namespace Fw
open PySem PySem.Spec PyProof.Rows L2
def putFD (f : Str) (v : D) : List (Str × D) → List (Str × D)
  | [] => [(f, v)]
  | (g, x) :: r => if g = f then (g, v) :: r else (g, x) :: putFD f v r
section
variable {K : PySem.W.Frag} {cA : Str → Addr} {S H S1 H1 : Hp} {ca ca1 : List Addr} {ow A ow1 A1 f : Fp} {σ : L2.St} {env1 : DEnv} {st1 : Sto} {d : D} {v : V}
end
/-! ### no cells in it -/
mutual
def D.noC : D → Bool
  | .lst _ xs => D.noCs xs
  | .tup xs => D.noCs xs
  | .dic _ ks => D.noCk ks
  | .obj _ _ fs => D.noCf fs
  | .cel _ => false
  | _ => true
def D.noCs : List D → Bool
  | [] => true
  | d :: r => d.noC && D.noCs r
def D.noCk : List (Key × D) → Bool
  | [] => true
  | (_, d) :: r => d.noC && D.noCk r
def D.noCf : List (Str × D) → Bool
  | [] => true
  | (_, d) :: r => d.noC && D.noCf r
end
section
variable {K : PySem.W.Frag} {cA : Str → Addr} {S H : Hp} {ca ca2 : List Addr}
end
section
variable {K : PySem.W.Frag} {cA : Str → Addr} {S H : Hp}
end
section
variable {X : Cx} {cA : Str → Addr}
def fldsOf (c : Str) : D → Option (List (Str × D))
  | .obj true c' fs => if c' = c then some fs else none
  | _ => none
def celOf : Option D → Option Nat
  | some (.cel n) => some n
  | _ => none
/-- self.f = value, self in a cell -/
def mFldS (i : Nat) (c f : Str) (m : Mo D) : Ms := fun env st => match m env st with
  | some (d, e1, s1) => (match celOf (peek i e1) with
    | some n => (match s1[n]? with
      | some o => (match fldsOf c o with
        | some fs => if fs.length < 100 then some (.nx, e1, s1.set n (.obj true c (putFD f d fs))) else none
        | none => none)
      | none => none)
    | none => none)
  | none => none
/-! ### making -/
abbrev Ini := List D → Option (List (Str × D))
/-- what an __init__ promises: the new instance with its fields -/
def spI (cA : Str → Addr) (K : PySem.W.Frag) (c : Str) (n : Nat) (m : Ini) : Sp := fun vs H Q _ => ∃ S ds fs x dx vs', vs = .ref x :: vs' ∧ H x = some (.ins (cA c) dx []) ∧ S x = none ∧ ds.length = n ∧ (∀ a o, S a = some o → H a = some o) ∧ Rps K cA S H [] ds vs' (fun _ => 0) ∧ D.noCs ds = true ∧ m ds = some fs ∧
  ∀ S' H' f, Tr (fun a => if a = x then 1 else 0) S H S' H' [] [] → (∀ a o, S' a = some o → H' a = some o) → Rp K cA S' H' [] (.obj true c fs) (.ref x) f → (∀ a, f a ≤ 1) → (∀ a, f a ≠ 0 → a = x ∨ H a = none) → Q .non H'
def mIni (c : Str) (n : Nat) (body : Ms) : Ini := fun ds => match body (some (.cel 0) :: (ds.map some ++ List.replicate (n - 1 - ds.length) none)) [.obj true c []] with
  | some (.nx, _, [o]) => (match fldsOf c o with
      | some fs => if D.noCf fs = true then some fs else none
      | none => none)
  | _ => none
/-- a class that is made by its __init__ -/
structure Mkc (cA : Str → Addr) (P : Program) (w : World) (K : PySem.W.Frag) (mg : Str → Option Value) (base : Heap) (k : Nat) (c : Str) (n : Nat) (m : Ini) : Prop where
  gl : mg c = some (.ref (cA c))
  cls : Cls K (cA c)
  ex : ∃ (f : Addr) (fd : FuncData) (ps : List Str), Mk K (cA c) f ∧ Binds K fd ps [] ∧ FnG P w K mg base CX0 k f fd ps (spI cA K c n m)
def mNew (c : Str) (n : Nat) (m : Ini) (a : Mo (List D)) : Mo D := fun env st => match a env st with
  | some (ds, e1, s1) => if ds.length = n ∧ D.nobs ds = true ∧ D.noCs (D.fzs ds) = true then (match m (D.fzs ds) with
      | some fs => some (.obj true c fs, e1, s1)
      | none => none)
    else none
  | none => none
end
end Fw

set_option Elab.async false
set_option linter.all false
set_option maxRecDepth 100000
/-! calls of classes and methods -/
namespace Fw
open PySem PySem.Spec PyProof.Rows L2
section
variable {X : Cx} {cA : Str → Addr}
/-- a method that keeps its promise; self is counted -/
structure Mtc (cA : Str → Addr) (P : Program) (w : World) (K : PySem.W.Frag) (mg : Str → Option Value) (base : Heap) (k : Nat) (c m : Str) (n : Nat) (f : Fn) : Prop where
  cls : Cls K (cA c)
  ex : ∃ (fa : Addr) (fd : FuncData) (ps : List Str), Meth K (cA c) m fa ∧ Binds K fd ps [] ∧ FnG P w K mg base CX0 k fa fd ps (spD cA K n f)
def isObjB (c m : Str) : D → Bool
  | .obj _ c' fs => decide (c' = c) && (fs.lookup m).isNone
  | _ => false
def Oa.pre (o : Oa) (env : DEnv) (st : Sto) : Option D := match o with
  | .nm i => look i env st
  | .lk l => l.ev env st
  | .ex _ => none
def preOk (c m : Str) : Option D → Bool
  | some d => isObjB c m d
  | none => false
/-- o.m(..) of what is looked at; nothing is changed -/
def mMethP (c m : Str) (n : Nat) (f : Fn) (o : Oa) (os : List Oa) : Mo D := fun env st => if preOk c m (o.pre env st) = true then mCallP n f (o :: os) env st else none
/-- what is never met -/
def mNever : Ms := fun _ _ => none
end
section
variable {env : DEnv} {st : Sto} {Q : D → DEnv → Sto → Prop}
end
end Fw

set_option Elab.async false
set_option linter.all false
set_option maxRecDepth 100000
/-! zip of two lists; is with a truth value; -= -/
namespace Fw
open PySem PySem.Spec PyProof.Rows L2
def zipOf : List D → List D → List D
  | a :: r, b :: s => .tup [a, b] :: zipOf r s
  | _, _ => []
section
variable {K : PySem.W.Frag} {cA : Str → Addr} {S H : Hp} {ca : List Addr} {ds es : List D} {vs ws : List V} {p q : Addr} {g g2 L : Fp}
end
def mZip (m : Mo (List D)) : Mo (List D) := fun env st => match m env st with
  | some (ds, e1, s1) => if D.nobs ds = true then (match D.fzs ds with
    | [.lst false xs, .lst false ys] => some (zipOf xs ys, e1, s1)
    | _ => none) else none
  | none => none
section
variable {X : Cx} {cA : Str → Addr}
/-! is True, is not True -/
def isBD : D → D → Option D
  | .bl a, .bl b => some (.bl (decide (a = b)))
  | _, _ => none
theorem od_isBl : OpD cA X (compareOp .Is) isBD := by
  rintro pins s σ H x y v u Q I rx ry ⟨S, ca, d1, d2, f1, f2, d, sub, r1, r2, hg, k⟩
  unfold isBD at hg
  split at hg
  · rename_i i j
    obtain ⟨rfl, _⟩ := r1.b
    obtain ⟨rfl, _⟩ := r2.b
    cases hg
    exact op_isBl pins s σ H _ _ v u Q I rx ry ⟨i, j, rfl, rfl, k.at rp_bl0⟩
  · cases hg
def notBD : D → D → Option D
  | .bl a, .bl b => some (.bl (!decide (a = b)))
  | _, _ => none
def subI : D → D → Option D
  | .int i, .int j => some (.int (i - j))
  | _, _ => none
end
end Fw

set_option Elab.async false
set_option linter.all false
set_option maxRecDepth 100000
/-! sorted of a list of tuples of texts -/
namespace Fw
open PySem PySem.Spec PyProof.Rows L2
/-- tuples of texts, by their first difference -/
def lexLt : List Str → List Str → Bool
  | x :: ns, y :: ms => if x = y then lexLt ns ms else decide (x.cps.toList < y.cps.toList)
  | _, _ => false
def strOf : Value → Str
  | .str x _ => x
  | _ => ⟨#[]⟩
theorem strsAre_map : ∀ {vs : List Value} {ns : List Str}, StrsAre vs ns → vs.map strOf = ns
  | _, _, .nil => rfl
  | _, _, .cons y t r => by rw [List.map_cons, strsAre_map r]; rfl
/-- the value is a tuple of these texts -/
def TupStrs (h : Heap) (v : Value) (ns : List Str) : Prop := ∃ a xs, v = .ref a ∧ IsTup h a xs ∧ StrsAre xs.toList ns
def textsOf (h : Heap) (v : Value) : List Str := match v with
  | .ref a => match h.get? a with
    | some o => match o.data with
      | .seq xs _ => xs.toList.map strOf
      | _ => []
    | none => []
  | _ => []
theorem TupStrs.texts {h : Heap} {v : Value} {ns : List Str} (x : TupStrs h v ns) : textsOf h v = ns := by
  obtain ⟨a, xs, rfl, ⟨o, ho, hc, n, hd⟩, i⟩ := x
  simp only [textsOf, ho, hd]
  exact strsAre_map i
def TupsS (h : Heap) (d : Nat) (vs : List Value) : Prop := ∀ v, v ∈ vs → ∃ ns, TupStrs h v ns ∧ ns.length = d
/-- a rank that follows the order, on what the values hold -/
def RankS (h : Heap) (vs : List Value) (rk : List Str → Int) : Prop := ∀ u v ns ms, u ∈ vs → v ∈ vs → TupStrs h u ns → TupStrs h v ms → lexLt ns ms = decide (rk ns < rk ms)
section
variable {prog : Program} {w : World} {A : Around} {E : Value → Shared → Prop} {s : Shared}
end
end Fw

set_option Elab.async false
set_option linter.all false
set_option maxRecDepth 100000
/-! sorted, of texts and of pairs of texts -/
namespace Fw
open PySem PySem.Spec PyProof.Rows L2
/-! ### the order -/
abbrev cp (x : Str) : List Nat := x.cps.toList
abbrev cps (l : List Str) : List (List Nat) := l.map cp
theorem cp_inj {x y : Str} (h : cp x = cp y) : x = y := by
  cases x with
  | mk a => cases y with
    | mk b => exact congrArg Str.mk (by cases a; cases b; exact congrArg Array.mk h)
section
theorem cnt_le {p q : List (List Nat) → Bool} : ∀ L : List (List (List Nat)), (∀ z ∈ L, p z = true → q z = true) → L.countP p ≤ L.countP q
  | [], _ => Nat.le_refl _
  | z :: L, h => by
    have ih := cnt_le L fun y hy => h y (List.mem_cons_of_mem _ hy)
    have hz := h z (by simp)
    rw [List.countP_cons, List.countP_cons]
    cases e : p z with
    | false => simp; omega
    | true => rw [hz e]; simp; exact ih
/-- how many of a list are less -/
def rankOf (L : List (List Str)) (k : List Str) : Int := (((L.map cps).countP fun z => decide (z < cps k) : Nat) : Int)
end
/-! ### sorted lists -/
def leS (a b : Str) : Bool := decide (cp a ≤ cp b)
def sortS (xs : List Str) : List Str := xs.mergeSort leS
def leP (a b : Str × Str) : Bool := decide (cps [a.1, a.2] ≤ cps [b.1, b.2])
def sortP (xs : List (Str × Str)) : List (Str × Str) := xs.mergeSort leP
/-! ### the built-in -/
def pairT (p : Str × Str) : D := .tup [.str p.1, .str p.2]
def pairsL : List D → Option (List (Str × Str))
  | [] => some []
  | .tup [.str a, .str b] :: r => (pairsL r).map ((a, b) :: ·)
  | _ => none
def sortedD : D → Option D
  | .lst _ xs => if xs.length < 64 then (match strsOf xs with
      | some ss => some (.lst true ((sortS ss).map .str))
      | none => (match pairsL xs with
        | some ps => some (.lst true ((sortP ps).map pairT))
        | none => none)) else none
  | _ => none
section
variable {X : Cx} {cA : Str → Addr} {pins : List (Addr × Obj)} {σ : L2.St} {H : Hp} {s : Shared}
theorem tupS_raw (I : L2.Inv X pins σ H s) {t : Addr} {ns : List Str} (h : SqT X.K H t (ns.map V.str)) : TupStrs s.heap (.ref t) ns := by
  obtain ⟨its, rv, hT, _⟩ := I.tuple h
  exact ⟨t, its.toArray, rfl, hT, by simpa using rv.strs⟩
theorem rps_strs {K : PySem.W.Frag} {S : Hp} {ca : List Addr} : ∀ {ss : List Str} {vs : List V} {f : Fp}, Rps K cA S H ca (ss.map D.str) vs f → vs = ss.map V.str
  | [], _, _, .nil _ => rfl
  | x :: ss, _, _, .cons r t _ => by
    obtain ⟨rfl, _⟩ := r.s
    rw [rps_strs t]; rfl
def twoOf : List Str → Str × Str
  | [a, b] => (a, b)
  | _ => (⟨#[]⟩, ⟨#[]⟩)
end
end Fw

set_option Elab.async false
set_option linter.all false
set_option maxRecDepth 100000
/-! len(set(xs)), xs a list of texts -/
namespace Fw
open PySem PySem.Spec PyProof.Rows L2
def metStep (acc : List Str) (x : Str) : List Str := if acc.any (· == x) then acc else acc ++ [x]
def metS (val : Nat → Str) (i : Nat) : List Str := ((List.range i).map val).foldl metStep []
theorem metS_succ (val : Nat → Str) (i : Nat) : metS val (i + 1) = metStep (metS val i) (val i) := by
  unfold metS
  rw [List.range_succ, List.map_append, List.foldl_append]; rfl
section
variable {prog : Program} {w : World} {A : Around} {R : Result → Shared → Prop} {I : Addr} {fp wr : List Addr} {G : Array GenState → Array GenState → Prop} {n : Nat} {P : Nat → Value → Prop} {St : Nat → Shared → Prop}
end
section
variable {prog : Program} {w : World} {A : Around} {E : Value → Shared → Prop} {s : Shared}
open PySem.Calls in
end
/-! ### the word -/
def tLenS (K : PySem.W.Frag) (ta : TE) : TE := fun σ H Q => ta σ H fun x H1 => ∃ (l : Addr) (xs : List Str), x = .ref l ∧ SqL K H1 l (xs.map V.str) ∧ xs.length ≤ 4000 ∧ Q (.int ((xs.foldl metStep []).length : Nat)) H1
def lenSetD : D → Option D
  | .lst _ xs => (match strsOf xs with
    | some ss => if ss.length ≤ 4000 then some (.int ((ss.foldl metStep []).length : Nat)) else none
    | none => none)
  | _ => none
section
variable {X : Cx} {cA : Str → Addr}
end
end Fw

set_option Elab.async false
set_option linter.all false
set_option maxRecDepth 100000
/-! dict comprehensions whose keys are texts, each new -/
namespace Fw
open PySem PySem.Spec PyProof.Rows L2
section
variable {K : PySem.W.Frag} {cA : Str → Addr} {S H : Hp} {ca : List Addr}
theorem Rks.len : ∀ {ds : List (Key × D)} {vs : List (Key × V)} {f : Fp}, Rks K cA S H ca ds vs f → vs.length = ds.length
  | _, _, _, .nil _ => rfl
  | _, _, _, .cons _ t _ => by rw [List.length_cons, List.length_cons, Rks.len t]
end
section
variable {X : Cx} {cA : Str → Addr}
def dcL (vs : List Nat) (b : Bi) (kx vx : Mo D) : List D → List (Key × D) → Mo (List (Key × D))
  | [], acc, env, st => some (acc, env, st)
  | d :: ds, acc, env, st => match b d env with
    | some e1 => (match kx e1 st with
      | some (.str k, e2, s2) => (match vx e2 s2 with
        | some (y, e3, s3) => if (acc.any fun kv => decide (kv.1 = .inr k)) = false then dcL vs b kx vx ds (acc ++ [(.inr k, y)]) (wipeE e3 vs) s3 else none
        | none => none)
      | _ => none)
    | none => none
def mDc (m : Mo (List D)) (vs : List Nat) (b : Bi) (kx vx : Mo D) : Mo D := fun env st => match m env st with
  | some (items, e1, s1) => if savedOk e1 vs = true ∧ szOk items.length = true then (match dcL vs b kx vx items [] (wipeE e1 vs) s1 with
      | some (ds, e2, s2) => some (.dic true ds, keepE e1 e2 vs, s2)
      | none => none)
    else none
  | none => none
end
end Fw

set_option Elab.async false
set_option linter.all false
set_option maxRecDepth 100000
/-! a text in a tuple of texts; xs.count(text); sum -/
namespace Fw
open PySem PySem.Spec PyProof.Rows L2
def inTD (x y : D) : Option D := match x, y with
  | .str s, .tup ys => (strsOf ys).map fun ss => .bl (decide (s ∈ ss))
  | _, _ => none
def eqT (k : Str) : Value → Bool
  | .str y _ => decide (y = k)
  | _ => false
section
variable {X : Cx} {cA : Str → Addr}
def rCntS (K : PySem.W.Frag) : V → List V → Hp → VK → Prop := fun x xs H Q => ∃ (p : Addr) (ss : List Str) (k : Str), x = .ref p ∧ xs = [.str k] ∧ SqL K H p (ss.map V.str) ∧ Q (.int (ss.count k : Nat)) H
def countD : D → D → Option D
  | .lst _ xs, .str k => (strsOf xs).map fun ss => .int (ss.count k : Nat)
  | _, _ => none
def intsL : List D → Option (List Int)
  | [] => some []
  | .int i :: r => (intsL r).map (i :: ·)
  | _ => none
def sumD : D → Option D
  | .lst _ xs => (intsL xs).map fun is => .int is.sum
  | _ => none
end
end Fw

set_option Elab.async false
set_option linter.all false
set_option maxRecDepth 100000
/-! str of a number, of a text -/
namespace Fw
open PySem PySem.Spec PyProof.Rows L2
def strID : D → Option D
  | .int i => if i.natAbs.log2 < 1920 then some (.str (toString i)) else none
  | .str a => some (.str a)
  | _ => none
section
variable {X : Cx} {cA : Str → Addr}
end
end Fw

set_option Elab.async false
set_option linter.all false
set_option maxRecDepth 100000
/-! truth values among numbers: + and - -/
namespace Fw
open PySem PySem.Spec PyProof.Rows L2
def numB : D → Option Int
  | .int i => some i
  | .bl b => some (if b = true then 1 else 0)
  | _ => none
/-- a + b, one of them at most a truth value; else as addD -/
def addB : D → D → Option D
  | .bl b, .int j => some (.int ((if b = true then 1 else 0) + j))
  | .int i, .bl b => some (.int (i + if b = true then 1 else 0))
  | x, y => addD x y
def subB : D → D → Option D
  | .bl b, .int j => some (.int ((if b = true then 1 else 0) - j))
  | .int i, .bl b => some (.int (i - if b = true then 1 else 0))
  | x, y => subD x y
section
variable {X : Cx} {cA : Str → Addr}
/-- str of a truth value, a number, a text -/
def strBD : D → Option D
  | .bl b => some (.str (if b then "True" else "False"))
  | x => strID x
end
end Fw

set_option Elab.async false
set_option linter.all false
set_option maxRecDepth 100000
/-! a text put at the end of a list that stands in a tuple, which a name holds: the name's value is not known any more -/
namespace Fw
open PySem PySem.Spec PyProof.Rows L2
def mRuin (i k : Nat) : Mo D := fun env st => match env[i]? with
  | some (some (.tup xs)) => (match xs[k]? with
    | some (.lst true ds) => if ds.length < 1000000 then some (.non, env.set i (some .unk), st) else none
    | _ => none)
  | _ => none
section
variable {X : Cx} {cA : Str → Addr}
end
section
variable {env : DEnv} {st : Sto}
end
end Fw

set_option Elab.async false
set_option linter.all false
set_option maxRecDepth 100000
/-! dicts by numbers; numbers in order -/
namespace Fw
open PySem PySem.Spec PyProof.Rows L2
section
variable {X : Cx} {cA : Str → Addr}
def dcLI (vs : List Nat) (b : Bi) (kx vx : Mo D) : List D → List (Key × D) → Mo (List (Key × D))
  | [], acc, env, st => some (acc, env, st)
  | d :: ds, acc, env, st => match b d env with
    | some e1 => (match kx e1 st with
      | some (.int k, e2, s2) => (match vx e2 s2 with
        | some (y, e3, s3) => if (acc.any fun kv => decide (kv.1 = .inl k)) = false then dcLI vs b kx vx ds (acc ++ [(.inl k, y)]) (wipeE e3 vs) s3 else none
        | none => none)
      | _ => none)
    | none => none
def mDcI (m : Mo (List D)) (vs : List Nat) (b : Bi) (kx vx : Mo D) : Mo D := fun env st => match m env st with
  | some (items, e1, s1) => if savedOk e1 vs = true ∧ szOk items.length = true then (match dcLI vs b kx vx items [] (wipeE e1 vs) s1 with
      | some (ds, e2, s2) => some (.dic true ds, keepE e1 e2 vs, s2)
      | none => none)
    else none
  | none => none
end
/-! numbers in order -/
def leI (a b : Int) : Bool := decide (a ≤ b)
def sortI (xs : List Int) : List Int := xs.mergeSort leI
def sortedI : D → Option D
  | .lst _ xs => if xs.length < 64 then (intsL xs).map (fun is => .lst true ((sortI is).map .int)) else none
  | _ => none
section
variable {X : Cx} {cA : Str → Addr}
/-! is a number a key -/
def inKD (x y : D) : Option D := match x, y with
  | .int i, .dic _ ks => some (.bl (lookK ks (.inl i)).isSome)
  | _, _ => none
def niKD (x y : D) : Option D := match x, y with
  | .int i, .dic _ ks => some (.bl (!(lookK ks (.inl i)).isSome))
  | _, _ => none
end
end Fw

set_option Elab.async false
set_option linter.all false
set_option maxRecDepth 100000
/-! a new number, as a key, to a dict that a name holds -/
namespace Fw
open PySem PySem.Spec PyProof.Rows L2
def mDput (i j : Nat) (b : Bool) : Ms := fun env st => match env[i]?, env[j]? with
  | some (some (.dic true ks)), some (some (.int n)) => if ks.length < 1000000 ∧ (ks.any fun kv => decide (kv.1 = .inl n)) = false then some (.nx, env.set i (some (.dic true (ks ++ [(.inl n, .bl b)]))), st) else none
  | _, _ => none
section
variable {X : Cx} {cA : Str → Addr}
end
section
variable {env : DEnv} {st : Sto}
end
end Fw

set_option Elab.async false
set_option linter.all false
set_option maxRecDepth 100000
/-! dict of a list of pairs -/
namespace Fw
open PySem PySem.Spec PyProof.Rows L2
def pairsT : List D → Option (List (Key × D))
  | [] => some []
  | .tup [.str k, d] :: r => if d.fr = true then (pairsT r).map ((.inr k, d) :: ·) else none
  | _ => none
def dictD : D → Option D
  | .lst _ xs => (match pairsT xs with
    | some kvs => if nodK (kvs.map (·.1)) = true then some (.dic true kvs) else none
    | none => none)
  | _ => none
section
variable {K : PySem.W.Frag} {cA : Str → Addr} {S H : Hp} {ca : List Addr} {Q : VK}
end
end Fw

set_option Elab.async false
set_option linter.all false
set_option maxRecDepth 100000
/-! sorted of a list of alike data, of any length -/
namespace Fw
open PySem PySem.Spec PyProof.Rows L2
def alikesB (ps : List PyData) : Bool := ps.all fun a => ps.all fun b => PySem.W.alike a b
def tupB : PyData → Bool
  | .tuple (_ :: _) => true
  | _ => false
def othB : PyData → Bool
  | .none => false
  | .tuple _ => false
  | _ => true
def sortB (ps : List PyData) : Bool := ps.all tupB || ps.all othB
def leG (a b : D × PyData) : Bool := PySem.W.dataLe false (Prod.snd : D × PyData → PyData) a b
def sortG (xs : List D) (ps : List PyData) : List D := ((xs.zip ps).mergeSort leG).map Prod.fst
def sortedG : D → Option D
  | .lst _ xs => (match D.shs xs with
    | some ps => if D.frs xs = true ∧ xs.length ≤ 1000000 ∧ alikesB ps = true ∧ sortB ps = true ∧ (ps.all fun p => decide (p.depth ≤ 60)) = true then some (.lst true (sortG xs ps)) else none
    | none => none)
  | _ => none
section
variable {X : Cx} {cA : Str → Addr} {pins : List (Addr × Obj)} {σ : L2.St} {H : Hp} {s : Shared}
end
end Fw

set_option Elab.async false
set_option linter.all false
set_option maxRecDepth 100000
/-! x or y, of values -/
namespace Fw
open PySem PySem.Spec PyProof.Rows L2
def mOrV (a b : Mo D) : Mo D := fun env st => match a env st with
  | some (d, e1, s1) => (match d.tru with
    | some true => some (d, e1, s1)
    | some false => b e1 s1
    | none => none)
  | none => none
section
variable {cA : Str → Addr} {X : Cx} {K : PySem.W.Frag} {σ : L2.St} {H : Hp} {Q : VK} {a b : Mo D}
end
end Fw

set_option Elab.async false
set_option linter.all false
set_option maxRecDepth 100000
/-! list(enumerate(xs)) -/
namespace Fw
open PySem PyProof.Rows PySem.W
theorem enum_no_len : typeLookup (.type "enumerate") "__len__" = pure none := by rw [typeLookup_type, builtinLookup_eq_fast]; kernel_rfl
theorem enum_no_hint : typeLookup (.type "enumerate") "__length_hint__" = pure none := by rw [typeLookup_type, builtinLookup_eq_fast]; kernel_rfl
def EnAcc (h : Heap) (e it S : Addr) (items : Array Value) (acc : Array Value) : Prop :=
  ∀ (j : Nat) (v : Value), acc[j]? = some v → ∃ T t x, v = .ref T ∧ items[j]? = some x ∧ h.get? T = some { cls := .type "tuple", data := .seq #[.int (j : Int) t, x] } ∧ T ≠ e ∧ T ≠ it ∧ S < T
structure EnSt (h : Heap) (e it l S : Addr) (items : Array Value) (i : Nat) (acc : Array Value) : Prop where
  iter : h.IsListIter it l i
  list : h.IsList l items
  en : (∃ old, IsEnum h e it (i : Int) old) ∨ ∃ old T f oT, IsEnumHeld h e it (i : Int) old T f ∧ h.get? T = some oT ∧ T ≠ e ∧ T ≠ it ∧ T ≠ S
  size : acc.size = i
  acc : EnAcc h e it S items acc
theorem EnAcc.keeps {h h' : Heap} {e it S : Addr} {items acc : Array Value} (x : EnAcc h e it S items acc) (k : ∀ b o, b ≠ e → b ≠ it → b ≠ S → h.get? b = some o → h'.get? b = some o) : EnAcc h' e it S items acc := fun j v hj => by
  obtain ⟨T, t, x, e1, e2, e3, e4, e5, e6⟩ := x j v hj
  exact ⟨T, t, x, e1, e2, k T _ e4 e5 (Nat.ne_of_gt e6) e3, e4, e5, e6⟩
theorem EnSt.keeps {h h' : Heap} {e it l S : Addr} {items acc : Array Value} {i : Nat} (x : EnSt h e it l S items i acc) (he : e ≠ S) (hi : it ≠ S) (hl : l ≠ S) (k : ∀ b o, b ≠ S → h.get? b = some o → h'.get? b = some o) : EnSt h' e it l S items i acc := by
  refine ⟨x.iter.at fun o q => k it o hi q, x.list.at fun o q => k l o hl q, ?_, x.size, x.acc.keeps fun b o _ _ h3 q => k b o h3 q⟩
  rcases x.en with ⟨old, q⟩ | ⟨old, T, f, oT, q, hT, r1, r2, r3⟩
  · exact .inl ⟨old, k e _ he q⟩
  · exact .inr ⟨old, T, f, oT, k e _ he q, k T _ r3 hT, r1, r2, r3⟩
section
variable {prog : Program} {w : World} {A : Around} {R : Result → Shared → Prop} {e it l S : Addr} {items : Array Value}
/-- the tail of the loop -/
theorem enum_loop (hh : A.in1.handled = none) (hei : e ≠ it) (hle : l ≠ e) (hli : l ≠ it) (heS : e ≠ S) (hiS : it ≠ S) (hlS : l ≠ S) (hn : items.size ≤ sizeLine) (res : Value) :
    ∀ (k i : Nat) (s : Shared) (acc : Array Value) (c : Nat), items.size - i = k → i ≤ items.size → EnSt s.heap e it l S items i acc → s.heap.get? S = some { cls := .type "list", dict := none, data := .seq acc c, slots := #[] } →
    (∀ h' tk acc' c', (∀ b o, b ≠ S → b ≠ e → b ≠ it → s.heap.get? b = some o → h'.get? b = some o) → h'.get? S = some { cls := .type "list", dict := none, data := .seq acc' c', slots := #[] } → acc'.size = items.size → EnAcc h' e it S items acc' → R (.ok (.ret res)) { s with heap := h', toks := tk }) →
    codeAny (model prog w) A (.builtin "list.extend.loop" ⟨[.ref S, .ref e, res], []⟩) R s := by
  intro k
  induction k with
  | zero =>
    intro i s acc c hk hi st hS hR
    have hin : i = items.size := by omega
    subst hin
    refine codeAny_builtin F.entry_extend_loop ?_
    rw [Around.under_plainId F.plain_extend_loop _]
    show wpAny _ A.in1 (pyNext (.ref e) >>= _) _ _ s
    have hx : items[items.size]? = none := Array.getElem?_eq_none (Nat.le_refl _)
    have fin : ∀ h', Heap.ExtBut it s.heap h' → R (.ok (.ret res)) { s with heap := h' } := fun h' eb => by
      have := hR h' s.toks acc c (fun b o _ _ h3 q => eb b o h3 q) (eb S _ (Ne.symm hiS) hS) st.size (st.acc.keeps fun b o _ h2 _ q => eb b o h2 q)
      exact this
    rcases st.en with ⟨old, q⟩ | ⟨old, T, f, oT, q, hT, r1, r2, r3⟩
    · exact wpAny_bind (wpAny_pyNext_enum_end hh q st.iter st.list hx fun h' eb => wpAny_pure (fin h' eb))
    · exact wpAny_bind (wpAny_pyNext_enum_end_held hh q st.iter st.list hx fun h' eb => wpAny_pure (fin h' eb))
  | succ k ih =>
    intro i s acc c hk hi st hS hR
    have hlt : i < items.size := by omega
    refine codeAny_builtin F.entry_extend_loop ?_
    rw [Around.under_plainId F.plain_extend_loop _]
    show wpAny _ A.in1 (pyNext (.ref e) >>= _) _ _ s
    have hx : items[i]? = some items[i] := Array.getElem?_eq_getElem hlt
    have ec : ((i + 1 : Nat) : Int) = (i : Int) + 1 := by omega
    have hSl : S < s.heap.objs.size := Heap.lt_size hS
    have nit : s.heap.objs.size ≠ it := let ⟨_, x, _⟩ := st.iter; Nat.ne_of_gt (Heap.lt_size x)
    -- behind a next
    have next : ∀ h', ((∃ old T f oT, IsEnumHeld h' e it ((i : Int) + 1) old T f ∧ h'.get? T = some oT ∧ T ≠ e ∧ T ≠ it ∧ T ≠ S)) → h'.IsListIter it l (i + 1) →
        h'.get? s.heap.objs.size = some { cls := .type "tuple", data := .seq #[.int i s.toks, items[i]] } → (s.heap.objs.size ≠ e) →
        (∀ b o, b ≠ e → b ≠ it → s.heap.get? b = some o → h'.get? b = some o) →
        wpAny (model prog w) A.in1 (updateSeq S (·.push (.ref s.heap.objs.size)) >>= fun _ => again (.builtin "list.extend.loop" ⟨[.ref S, .ref e, res], []⟩)) (fun fin s' => match fin with | .done f => R (.ok f) s' | .again c' => c'.quiet = true ∧ codeAny (model prog w) A c' R s') (fun e s' => R (.error e) s') { s with heap := h', toks := s.toks + 1 } := by
      intro h' hen hit' hT hne hkp
      have hS' : h'.get? S = some { cls := .type "list", dict := none, data := .seq acc c, slots := #[] } := hkp S _ (Ne.symm heS) (Ne.symm hiS) hS
      refine wpAny_bind ?_
      refine wpAny_updateSeq (s := { s with heap := h', toks := s.toks + 1 }) hS' rfl (wpAny_pure ⟨plainId_quiet F.plain_extend_loop _, ih (i + 1) _ (acc.push _) _ (by omega) hlt ?_ (Heap.get?_update_self _ hS' rfl) fun h2 tk acc' c' hkeep hS2 hsz hacc => ?_⟩)
        (by rw [st.size]; omega) (by show (acc.push _).size ≤ sizeLine + 1; rw [Array.size_push, st.size]; omega)
      · have st1 : EnSt h' e it l S items (i + 1) (acc.push (.ref s.heap.objs.size)) := by
          refine ⟨hit', st.list.at fun o q => hkp l o hle hli q, .inr (by rw [ec]; exact hen), by rw [Array.size_push, st.size], fun j v hj => ?_⟩
          rw [Array.getElem?_push] at hj
          split at hj
          · rename_i ej
            rw [st.size] at ej
            subst ej
            cases hj
            exact ⟨_, _, _, rfl, hx, hT, hne, nit, hSl⟩
          · obtain ⟨T, t, x, e1, e2, e3, e4, e5, e6⟩ := st.acc j v hj
            exact ⟨T, t, x, e1, e2, hkp T _ e4 e5 e3, e4, e5, e6⟩
        exact st1.keeps heS hiS hlS fun b o hb q => (Heap.get?_update_other _ _ (Ne.symm hb)).trans q
      · refine hR h2 tk acc' c' (fun b o b1 b2 b3 q => hkeep b o b1 b2 b3 ((Heap.get?_update_other _ _ (Ne.symm b1)).trans (hkp b o b2 b3 q))) hS2 hsz hacc
    rcases st.en with ⟨old, q⟩ | ⟨old, T, f, oT, q, hT, r1, r2, r3⟩
    · have hel : e < s.heap.objs.size := Heap.lt_size q
      exact wpAny_bind (wpAny_pyNext_enum_item q st.iter st.list hx hei fun h' ho hit' hT hsz hkp =>
        next h' ⟨_, s.heap.objs.size, false, _, ho, hT, Nat.ne_of_gt hel, nit, Nat.ne_of_gt hSl⟩ hit' hT (Nat.ne_of_gt hel) hkp)
    · have hel : e < s.heap.objs.size := Heap.lt_size q
      exact wpAny_bind (wpAny_pyNext_enum_item_held q hT r1 r2 st.iter st.list hx hei fun h' ho hit' hT' hsz hkp =>
        next h' ⟨old, T, true, oT, ho, hkp _ _ r1 r2 hT, r1, r2, r3⟩ hit' hT' (Nat.ne_of_gt hel) hkp)
theorem enum_extend (hh : A.in1.handled = none) (hei : e ≠ it) (hle : l ≠ e) (hli : l ≠ it) (heS : e ≠ S) (hiS : it ≠ S) (hlS : l ≠ S) (hn : items.size ≤ sizeLine) (res : Value) {s : Shared} {old : Value} (c₀ : Nat)
    (he : IsEnum s.heap e it 0 old) (hit : s.heap.IsListIter it l 0) (hl : s.heap.IsList l items) (hS : s.heap.get? S = some { cls := .type "list", data := .seq #[] c₀ })
    (hR : ∀ h' tk acc' c', (∀ b o, b ≠ S → b ≠ e → b ≠ it → s.heap.get? b = some o → h'.get? b = some o) → h'.get? S = some { cls := .type "list", dict := none, data := .seq acc' c', slots := #[] } → acc'.size = items.size → EnAcc h' e it S items acc' → R (.ok (.ret res)) { s with heap := h', toks := tk }) :
    wpAny (model prog w) A.in1 (Builtin.List.listExtendWith (.ref S) (.ref e) res)
      (fun fin s' => match fin with | .done f => R (.ok f) s' | .again c' => c'.quiet = true ∧ codeAny (model prog w) A c' R s') (fun e s' => R (.error e) s') s := by
  have hSI : S ≠ e := Ne.symm heS
  have hTy : s.TypeIs (.ref e) "enumerate" := ⟨_, he, rfl⟩
  unfold Builtin.List.listExtendWith
  refine wpAny_bind (wpAny_typeOf hTy ?_)
  have h1 : Builtin.List.listSameRef (.ref S) (.ref e) = false := by simp [Builtin.List.listSameRef, hSI]
  have h2 : (Value.type "enumerate" == Value.type "list") = false := by decide
  have h3 : (Value.type "enumerate" == Value.type "tuple") = false := by decide
  simp only [h1, h2, h3, Bool.or_false, Bool.false_eq_true, if_false]
  refine wpAny_bind (wpAny_pyIter_enum he ?_)
  refine wpAny_bind (wpAny_holding ?_)
  unfold Builtin.List.listLengthHint
  refine wpAny_bind (wpAny_specialOf hTy enum_no_len ?_)
  show wpAny _ A.in1 (specialOf (Value.ref e) (Str.ofString "__length_hint__") >>= _) _ _ _
  refine wpAny_bind (wpAny_specialOf hTy enum_no_hint ?_)
  refine wpAny_pure ?_
  show wpAny _ A.in1 (rule "list.extend.makes-room" >>= fun _ => Builtin.List.listTouch (.ref S) >>= fun _ =>
    again (.builtin "list.extend.loop" ⟨[.ref S, .ref e, res], []⟩)) _ _ _
  refine wpAny_bind (wpAny_rule ?_)
  refine wpAny_bind ?_
  show wpAny _ A.in1 (updateSeq S (·.push .none) >>= fun _ => updateSeq S (·.pop)) _ _ _
  refine wpAny_bind (wpAny_updateSeq hS rfl ?_)
  have hS₂ := Heap.get?_update_self (Obj.mapSeq (·.push Value.none)) hS rfl
  refine wpAny_updateSeq (hz := by seq_fits) hS₂ rfl ?_
  have hS₃ := Heap.get?_update_self (Obj.mapSeq (·.pop)) hS₂ rfl
  have oth : ∀ b o, b ≠ S → s.heap.get? b = some o → ((s.heap.update S (Obj.mapSeq (·.push Value.none))).update S (Obj.mapSeq (·.pop))).get? b = some o :=
    fun b o hb e => (Heap.get?_update_other _ _ (Ne.symm hb)).trans ((Heap.get?_update_other _ _ (Ne.symm hb)).trans e)
  refine wpAny_pure ⟨plainId_quiet F.plain_extend_loop _, enum_loop (s := { s with heap := (s.heap.update S (Obj.mapSeq (·.push Value.none))).update S (Obj.mapSeq (·.pop)) }) hh hei hle hli heS hiS hlS hn res items.size 0 #[] _ rfl (Nat.zero_le _) ?_ hS₃ fun h' tk acc' c' hk hS' hsz hacc => ?_⟩
  · have st : EnSt s.heap e it l S items 0 #[] := ⟨hit, hl, .inl ⟨old, he⟩, rfl, fun j v hj => by simp at hj⟩
    exact st.keeps heS hiS hlS oth
  · exact hR h' tk acc' c' (fun b o b1 b2 b3 q => hk b o b1 b2 b3 (oth b o b1 q)) hS' hsz hacc
theorem enum_init (hh : A.in1.handled = none) (hei : e ≠ it) (hle : l ≠ e) (hli : l ≠ it) (heS : e ≠ S) (hiS : it ≠ S) (hlS : l ≠ S) (hn : items.size ≤ sizeLine) {s : Shared} {old : Value}
    (he : IsEnum s.heap e it 0 old) (hit : s.heap.IsListIter it l 0) (hl : s.heap.IsList l items) (hS : s.heap.get? S = some { cls := .type "list", data := .seq #[] })
    (hR : ∀ h' tk acc' c', (∀ b o, b ≠ S → b ≠ e → b ≠ it → s.heap.get? b = some o → h'.get? b = some o) → h'.get? S = some { cls := .type "list", dict := none, data := .seq acc' c', slots := #[] } → acc'.size = items.size → EnAcc h' e it S items acc' → R (.ok (.ret .none)) { s with heap := h', toks := tk }) :
    wpAny (model prog w) A.in1 (Builtin.«list.__init__» ⟨[.ref S, .ref e], []⟩)
      (fun fin s' => match fin with | .done f => R (.ok f) s' | .again c' => c'.quiet = true ∧ codeAny (model prog w) A c' R s') (fun e s' => R (.error e) s') s := by
  show wpAny _ A.in1 (do let old ← Builtin.List.listItems (.ref S); Builtin.List.listUpdate (.ref S) (fun _ => #[]); letGo old.toList.reverse; Builtin.List.listExtendWith (.ref S) (.ref e) .none) _ _ s
  refine wpAny_bind ?_
  unfold Builtin.List.listItems
  refine wpAny_bind (wpAny_seqItems hS rfl (wpAny_pure ?_))
  show wpAny _ A.in1 (updateSeq S (fun _ => #[]) >>= fun _ => letGo (#[] : Array Value).toList.reverse >>= fun _ => Builtin.List.listExtendWith (.ref S) (.ref e) .none) _ _ s
  refine wpAny_bind (wpAny_updateSeq hS rfl ?_)
  have hS₂ := Heap.get?_update_self (Obj.mapSeq (fun _ => (#[] : Array Value))) hS rfl
  have oth : ∀ b o, b ≠ S → s.heap.get? b = some o → (s.heap.update S (Obj.mapSeq (fun _ => (#[] : Array Value)))).get? b = some o :=
    fun b o hb e => (Heap.get?_update_other _ _ (Ne.symm hb)).trans e
  refine wpAny_bind (wpAny_letGo ?_)
  refine enum_extend (s := { s with heap := s.heap.update S (Obj.mapSeq (fun _ => (#[] : Array Value))) }) hh hei hle hli heS hiS hlS hn .none _ (oth e _ heS he) (hit.at fun o q => oth it o hiS q) (hl.at fun o q => oth l o hlS q) hS₂ fun h' tk acc' c' hk hS' hsz hacc => ?_
  exact hR h' tk acc' c' (fun b o b1 b2 b3 q => hk b o b1 b2 b3 (oth b o b1 q)) hS' hsz hacc
end
section
variable {prog : Program} {w : World} {A : Around} {E : Value → Shared → Prop} {s : Shared} {e it l : Addr} {items : Array Value}
theorem call_list_enum {Q : Value → Shared → Prop} {old : Value} (hh : A.handled = none) (hei : e ≠ it) (hle : l ≠ e) (hli : l ≠ it) (hn : items.size ≤ sizeLine)
    (he : IsEnum s.heap e it 0 old) (hit : s.heap.IsListIter it l 0) (hl : s.heap.IsList l items)
    (hQ : ∀ h' tk acc' c', (∀ b o, b ≠ e → b ≠ it → s.heap.get? b = some o → h'.get? b = some o) →
      h'.get? s.heap.objs.size = some { cls := .type "list", dict := none, data := .seq acc' c', slots := #[] } → acc'.size = items.size → EnAcc h' e it s.heap.objs.size items acc' → Q (.ref s.heap.objs.size) { s with heap := h', toks := tk }) :
    wpAny (model prog w) A (call (.type "list") [.ref e]) Q E s := by
  have hel : e < s.heap.objs.size := Heap.lt_size he
  have hil : it < s.heap.objs.size := by obtain ⟨_, q, _⟩ := hit; exact Heap.lt_size q
  have hll : l < s.heap.objs.size := by obtain ⟨_, q, _⟩ := hl; exact Heap.lt_size q
  refine callType_codes (Q₁ := fun obj s₁ => obj = .ref s.heap.objs.size ∧ s₁ = { s with heap := s.heap.push { cls := .type "list", data := .seq #[] } }) F.called_list (F.typeCall_list_1 _) F.entry_list_init
    (code_list_new _ ⟨rfl, rfl⟩) fun obj s₁ h₁ => ?_
  obtain ⟨rfl, rfl⟩ := h₁
  have hS : (s.heap.push { cls := .type "list", data := .seq #[] }).get? s.heap.objs.size = some { cls := .type "list", data := .seq #[] } := Heap.get?_push_size _ rfl
  refine ⟨⟨_, hS, rfl⟩, F.args_list_init_2 _ _, enum_init (s := { s with heap := s.heap.push { cls := .type "list", data := .seq #[] } }) ?_ hei hle hli (Nat.ne_of_lt hel) (Nat.ne_of_lt hil) (Nat.ne_of_lt hll) hn
    (Heap.get?_push_of_some _ he) (hit.at fun o q => Heap.get?_push_of_some _ q) (hl.at fun o q => Heap.get?_push_of_some _ q) hS fun h' tk acc' c' hk hS' hsz hacc => ?_⟩
  · exact hh
  · exact ⟨rfl, hQ h' tk acc' c' (fun b o b2 b3 q => hk b o (Nat.ne_of_lt (Heap.lt_size q)) b2 b3 (Heap.get?_push_of_some _ q)) hS' hsz hacc⟩
end
end Fw
namespace L2
open PySem PySem.Spec PyProof.Rows
theorem Inv.many {X : Cx} {pins : List (Addr × Obj)} {σ : St} {H H' : Hp} {s : Shared} {h' : Heap} {t' : Nat} (I : Inv X pins σ H s) (k : ∀ b u, s.heap.get? b = some u → h'.get? b = some u) (hn : ∀ b, b < s.heap.objs.size → H' b = H b)
    (new : ∀ a o, s.heap.objs.size ≤ a → H' a = some o → ObjOk X.prog X.w H' h' a o) : Inv X pins σ H' { s with heap := h', toks := t' } := by
  refine I.un ⟨fun b o q _ _ _ => k b o q, fun b o q _ _ _ => ⟨o.slots, k b o q⟩, fun b o q n _ => by rw [hn b (Heap.lt_size q)]; exact n, fun b o q _ => ⟨o, k b o q⟩, fun b xs q => by rw [hn b (I.hok.lt q)]; exact q, fun b o u q => by rw [hn b (I.hok.lt q)]; exact q, fun b ps q => ⟨#[], by rw [hn b (I.hok.lt q), q]; simp⟩⟩ fun a o e => ?_
  by_cases ha : a < s.heap.objs.size
  · rw [hn a ha] at e
    exact (I.hok a o e).stay (fun c v _ q => k c v q) (fun c q => by rw [hn c (I.hok.lt q)]; exact q) fun c xs q => by rw [hn c (I.hok.lt q)]; exact q
  · exact new a o (Nat.le_of_not_lt ha) e
/-- pairs of a number and an item -/
def EnRes (H1 : Hp) (xs : List V) (Q : VK) : Prop :=
  ∀ (q : Addr) (Ts : List Addr) (H2 : Hp), H1 q = none → Ts.length = xs.length → (∀ (j : Nat) T, Ts[j]? = some T → H1 T = none ∧ ∃ x, xs[j]? = some x ∧ H2 T = some (.tup [.int (j : Int), x])) → H2 q = some (.lst (Ts.map .ref)) → (∀ a o, H1 a = some o → H2 a = some o) → Q (.ref q) H2
def tLstEn (K : PySem.W.Frag) (ta : TA) : TE := fun σ H Q => ta σ H fun vs H1 => ∃ a xs, vs = [.ref a] ∧ SqL K H1 a xs ∧ EnRes H1 xs Q
theorem acc_refs : ∀ {l : List Value}, (∀ v ∈ l, ∃ T, v = .ref T) → ∃ Ts : List Addr, l = Ts.map Value.ref
  | [], _ => ⟨[], rfl⟩
  | v :: l, h => by
    obtain ⟨T, rfl⟩ := h v (by simp)
    obtain ⟨Ts, e⟩ := acc_refs fun v hv => h v (List.mem_cons_of_mem _ hv)
    exact ⟨T :: Ts, by rw [e]; rfl⟩
theorem valsRefs : ∀ Ts : List Addr, Vals (Ts.map V.ref) (Ts.map Value.ref)
  | [] => .nil
  | T :: Ts => .cons rfl (valsRefs Ts)
/-- the heap with the list and the pairs -/
def enH (H1 : Hp) (S : Addr) (Ts : List Addr) (xs : List V) : Hp := fun a => if a = S then some (.lst (Ts.map .ref)) else
  match (List.range Ts.length).find? (fun j => decide (Ts[j]? = some a)) with
  | some j => (xs[j]?).map fun x => .tup [.int (j : Int), x]
  | none => H1 a
theorem enH_S (H1 : Hp) (S : Addr) (Ts : List Addr) (xs : List V) : enH H1 S Ts xs S = some (.lst (Ts.map .ref)) := if_pos rfl
theorem enH_T {H1 : Hp} {S : Addr} {Ts : List Addr} {xs : List V} (inj : ∀ (i j : Nat) T, Ts[i]? = some T → Ts[j]? = some T → i = j) {j : Nat} {T : Addr} (hj : Ts[j]? = some T) (hS : T ≠ S) : enH H1 S Ts xs T = (xs[j]?).map fun x => .tup [.int (j : Int), x] := by
  unfold enH
  rw [if_neg hS]
  cases e : (List.range Ts.length).find? (fun i => decide (Ts[i]? = some T)) with
  | none =>
    have := List.find?_eq_none.mp e j (List.mem_range.mpr (List.getElem?_eq_some_iff.mp hj).1)
    exact absurd (decide_eq_true hj) this
  | some i =>
    have h1 := List.find?_some e
    have h2 : Ts[i]? = some T := of_decide_eq_true h1
    rw [inj i j T h2 hj]
theorem enH_no {H1 : Hp} {S : Addr} {Ts : List Addr} {xs : List V} {a : Addr} (hS : a ≠ S) (hT : ∀ j : Nat, Ts[j]? ≠ some a) : enH H1 S Ts xs a = H1 a := by
  unfold enH
  rw [if_neg hS]
  cases e : (List.range Ts.length).find? (fun i => decide (Ts[i]? = some a)) with
  | none => rfl
  | some i =>
    have h1 := List.find?_some e
    have h2 : Ts[i]? = some a := of_decide_eq_true h1
    exact absurd h2 (hT i)
theorem pe_listEn {X : Cx} {e : Expr} {ta : TA} {p p2 pos pos2 : Pos} (hc : X.calm = true) (hg : Gl X "list") (hm : X.mg "list" = none) (hg2 : Gl X "enumerate") (hm2 : X.mg "enumerate" = none) (ha : PA X [e] ta)
    (hs : starEach [e] X.env = [(false, eval e X.env)] := by rfl) (na : starEach [.Call (.Name "enumerate" p2) [e] [] pos2] X.env = (false, eval (.Call (.Name "enumerate" p2) [e] [] pos2) X.env) :: starEach [] X.env := by rfl) :
    PE X (.Call (.Name "list" p) [.Call (.Name "enumerate" p2) [e] [] pos2] [] pos) (tLstEn X.K ta) := by
  refine ⟨fun pins s σ H Q I h => ?_⟩
  refine Call_ (ld_blt I hg hm boot_list (PyProof.Rows.callWith_type1 (args_cons (Call_ (ld_blt I hg2 hm2 boot_enumerate (PyProof.Rows.callWith_type1 (thn (ha.run pos2 pins s σ H _ I h) fun us s1 ⟨vs, H1, I1, r1, q1⟩ => ?_) hs rfl))) na) na))
  obtain ⟨a, xs, ex, hq, q⟩ := q1
  subst ex
  cases r1 with
  | cons r rr =>
    cases rr
    cases r
    obtain ⟨its, rv, p', hz⟩ := I1.list hq
    have hal : a < s1.heap.objs.size := by obtain ⟨_, _, z, _⟩ := p'; exact Heap.lt_size z
    have hlen := rv.length
    refine call_enumerate_list p'.isList fun h' he hit hsz hk => args_nil ?_
    refine Fw.call_list_enum (s := { s1 with heap := h' }) (I.ok.hd hc) (Nat.succ_ne_self _) (Nat.ne_of_lt (Nat.lt_succ_of_lt hal)) (Nat.ne_of_lt hal) (by simp; omega) he hit (p'.isList.at fun o z => hk _ o z) fun h2 tk acc c' hk2 hS hsz2 hacc => ?_
    have hS1 : s1.heap.objs.size + 2 = h'.objs.size := hsz.symm
    obtain ⟨Ts, hTs⟩ := acc_refs (l := acc.toList) fun v hv => by
      obtain ⟨j, hj⟩ := List.mem_iff_getElem?.mp hv
      obtain ⟨T, _, _, e1, _⟩ := hacc j v (by simpa using hj)
      exact ⟨T, e1⟩
    have hat : ∀ (j : Nat) T, Ts[j]? = some T → ∃ t x, its[j]? = some x ∧ h2.get? T = some { cls := .type "tuple", data := .seq #[.int (j : Int) t, x] } ∧ h'.objs.size < T := fun j T hj => by
      have e : acc[j]? = some (.ref T) := by
        rw [← Array.getElem?_toList, hTs, List.getElem?_map, hj]; rfl
      obtain ⟨T', t, x, e1, e2, e3, _, _, e6⟩ := hacc j _ e
      cases e1
      exact ⟨t, x, by simpa using e2, e3, e6⟩
    have inj : ∀ (i j : Nat) T, Ts[i]? = some T → Ts[j]? = some T → i = j := fun i j T hi hj => by
      obtain ⟨t, x, _, e1, _⟩ := hat i T hi
      obtain ⟨t', x', _, e2, _⟩ := hat j T hj
      rw [e1] at e2
      have e3 := Option.some.inj e2
      injection e3 with _ _ e4
      injection e4 with e5
      have e6 : (Value.int (i : Int) t) = .int (j : Int) t' := by
        have := congrArg (fun a : Array Value => a[0]?) e5
        simpa using this
      injection e6 with e7
      omega
    have hTl : Ts.length = xs.length := by
      have h1 : acc.toList.length = Ts.length := by rw [hTs, List.length_map]
      rw [Array.length_toList] at h1
      simp at hsz2
      omega
    have new : ∀ b, b < s1.heap.objs.size → enH H1 h'.objs.size Ts xs b = H1 b := fun b hb => by
      have hbS : b < h'.objs.size := Nat.lt_of_lt_of_le hb (by omega)
      refine enH_no (Nat.ne_of_lt hbS) fun j hj => ?_
      obtain ⟨_, _, _, _, e6⟩ := hat j b hj
      exact absurd (Nat.lt_trans e6 hbS) (Nat.lt_irrefl _)
    have hTup : ∀ (j : Nat) T, Ts[j]? = some T → ∃ x, xs[j]? = some x ∧ enH H1 h'.objs.size Ts xs T = some (.tup [.int (j : Int), x]) := fun j T hj => by
      obtain ⟨_, _, _, _, e6⟩ := hat j T hj
      have hjl : j < xs.length := by rw [← hTl]; exact (List.getElem?_eq_some_iff.mp hj).1
      exact ⟨xs[j], List.getElem?_eq_getElem hjl, by rw [enH_T inj hj (Nat.ne_of_gt e6), List.getElem?_eq_getElem hjl]; rfl⟩
    have I3 : Inv X pins σ (enH H1 h'.objs.size Ts xs) { s1 with heap := h2, toks := tk } := by
      refine I1.many (fun b u hb => hk2 b u (Nat.ne_of_lt (Nat.lt_succ_of_lt (Heap.lt_size hb))) (Nat.ne_of_lt (Heap.lt_size hb)) (hk b u hb)) new fun b o hb hbo => ?_
      by_cases hbS : b = h'.objs.size
      · subst hbS
        rw [enH_S] at hbo
        cases hbo
        refine ⟨by rw [List.length_map, hTl]; exact hz, acc.toList, c', ?_, ?_⟩
        · rw [hTs]; exact valsRefs Ts
        · rw [Array.toArray_toList]; exact hS
      · by_cases hbT : ∃ j : Nat, Ts[j]? = some b
        · obtain ⟨j, hj⟩ := hbT
          obtain ⟨x, hx, e1⟩ := hTup j b hj
          rw [e1] at hbo
          cases hbo
          obtain ⟨t, u, hu, hg, _⟩ := hat j b hj
          obtain ⟨u', hu', ru⟩ := rv.get hx
          rw [hu] at hu'
          cases hu'
          exact ⟨by show 2 ≤ sizeLine; decide, [.int j t, u], .cons ⟨_, rfl⟩ (.cons ru .nil), ⟨_, hg, rfl, _, rfl⟩⟩
        · rw [enH_no hbS fun j hj => hbT ⟨j, hj⟩, I1.hok.fresh hb] at hbo
          cases hbo
    refine ⟨.ref h'.objs.size, _, I3, rfl, q h'.objs.size Ts _ (I1.hok.fresh (by omega)) hTl (fun j T hj => ?_) (enH_S ..) fun b o hb => by rw [new b (I1.hok.lt hb)]; exact hb⟩
    obtain ⟨_, _, _, _, e6⟩ := hat j T hj
    exact ⟨I1.hok.fresh (Nat.le_trans (by omega) (Nat.le_of_lt e6)), hTup j T hj⟩
end L2

set_option Elab.async false
set_option linter.all false
set_option maxRecDepth 100000
namespace Fw
open PySem PySem.Spec PyProof.Rows L2
def enumF (n : Nat) : List D → List D
  | [] => []
  | x :: xs => .tup [.int (n : Int), x] :: enumF (n + 1) xs
def enumD : D → Option D
  | .lst _ xs => if D.frs xs = true then some (.lst true (enumF 0 xs)) else none
  | _ => none
theorem rps_enum {K : PySem.W.Frag} {cA : Str → Addr} {S H H2 : Hp} {ca : List Addr} (gr : ∀ a o, H a = some o → H2 a = some o) : ∀ {ds : List D} {xs : List V} {f : Fp} {Ts : List Addr} {n : Nat}, Rps K cA S H ca ds xs f → D.frs ds = true → Ts.length = xs.length →
    (∀ (j : Nat) T, Ts[j]? = some T → ∃ x, xs[j]? = some x ∧ H2 T = some (.tup [.int ((n + j : Nat) : Int), x])) → Rps K cA S H2 ca (enumF n ds) (Ts.map .ref) (fun _ => 0)
  | [], _, _, Ts, n, .nil _, _, hl, _ => by
    have : Ts = [] := List.eq_nil_of_length_eq_zero hl
    subst this
    exact .nil fun _ => rfl
  | d :: ds, _, _, Ts, n, .cons r t hh, hf, hl, h => by
    rw [D.frs, Bool.and_eq_true] at hf
    match Ts, hl, h with
    | T :: Ts, hl, h =>
      obtain ⟨x', hx', hT⟩ := h 0 T rfl
      cases hx'
      have ih := rps_enum gr (n := n + 1) (Ts := Ts) t hf.2 (by simpa using hl) fun j T' hj => by
        obtain ⟨y, hy, e⟩ := h (j + 1) T' (by simpa using hj)
        exact ⟨y, by simpa using hy, by rw [e]; congr 5; omega⟩
      refine .cons (f := fun _ => 0) (g := fun _ => 0) (.tup (SqT.of hT) (.cons (f := fun _ => 0) (g := fun _ => 0) (.int _ fun _ => rfl) (.cons (f := fun _ => 0) (g := fun _ => 0) ?_ (.nil fun _ => rfl) fun _ => rfl) fun _ => rfl)) ih fun _ => rfl
      exact Rp.keep (L := fun _ => 0) (tr_grow gr) (r.f0 (r.fr0 hf.1)) fun _ _ => rfl
section
variable {cA : Str → Addr} {X : Cx}
theorem pd_listEn {e : Expr} {a : Od} {p p2 pos pos2 : Pos} (hc : X.calm = true) (hg : Gl X "list") (hm : X.mg "list" = none) (hg2 : Gl X "enumerate") (hm2 : X.mg "enumerate" = none) (ha : PO' cA X e a)
    (hs : starEach [e] X.env = (false, eval e X.env) :: starEach [] X.env := by rfl) (hs2 : starEach [e] X.env = [(false, eval e X.env)] := by rfl) (na : starEach [.Call (.Name "enumerate" p2) [e] [] pos2] X.env = (false, eval (.Call (.Name "enumerate" p2) [e] [] pos2) X.env) :: starEach [] X.env := by rfl) :
    PD cA X (.Call (.Name "list" p) [.Call (.Name "enumerate" p2) [e] [] pos2] [] pos) (mUn enumD a) :=
  pe_w (pe_listEn hc hg hm hg2 hm2 (pa_cons ha pa_nil hs) hs2 na) fun σ H Q h => un_w h fun x H1 ⟨S, ca, d1, f1, d, sub, r, hg, k⟩ => by
    unfold enumD at hg
    split at hg
    · rename_i o ds
      split at hg
      · rename_i hf
        cases hg
        obtain ⟨q, vs, g, rfl, h1, r1, _⟩ := r.l sub
        refine ⟨q, vs, rfl, SqL.of h1, fun q2 Ts H2 hn hl hT hq gr => ?_⟩
        have hs0 : S q2 = none := by
          cases e : S q2 with
          | none => rfl
          | some u => rw [sub q2 u e] at hn; cases hn
        have rr := rps_enum (n := 0) (Ts := Ts) gr r1 hf hl fun j T hj => by
          obtain ⟨_, x, hx, e⟩ := hT j T hj
          exact ⟨x, hx, by rw [e]; congr 5; omega⟩
        have rp : Rp X.K cA S H2 ca (.lst true (enumF 0 ds)) (.ref q2) (fpNew q2 fun _ => 0) := .lstO hq hs0 rr fun _ => rfl
        refine k _ _ _ gr rp (fun a => ?_) fun a h => ?_
        · unfold fpNew
          by_cases e : a = q2
          · rw [if_pos e]; exact Nat.le_refl _
          · rw [if_neg e]; exact Nat.zero_le _
        · unfold fpNew at h
          by_cases e : a = q2
          · subst e; exact hn
          · rw [if_neg e] at h; exact absurd rfl h
      · cases hg
    · cases hg
end
end Fw

set_option Elab.async false
set_option linter.all false
set_option maxRecDepth 100000
/-! xs[i], xs[j] = x, y -/
namespace Fw
open PySem PySem.Spec PyProof.Rows L2
/-- one store into a list that a name holds; the value owns nothing -/
def stO (i : Nat) (b : Od) (x : D) (env : DEnv) (st : Sto) : Option (DEnv × Sto) := match placeGet i env st with
  | some _ => (match od1 b env st with
    | some (k, e2, s2) => (match placeGet i e2 s2 with
      | some ds => (match gSet k x ds with
        | some ds' => some (placeSet i ds' e2 s2)
        | none => none)
      | none => none)
    | none => none)
  | none => none
def mStore2 (i : Nat) (b1 b2 : Od) (m : Mo D) : Ms := fun env st => match m env st with
  | some (.tup [x, y], e1, s1) => if x.fr = true ∧ y.fr = true then (match stO i b1 x e1 s1 with
    | some (e2, s2) => (match stO i b2 y e2 s2 with
      | some (e3, s3) => some (.nx, e3, s3)
      | none => none)
    | none => none) else none
  | _ => none
section
variable {cA : Str → Addr} {X : Cx}
theorem st_w {K : PySem.W.Frag} {σ : L2.St} {S H : Hp} {ca : List Addr} {ow A : Fp} {env1 env2 : DEnv} {st1 st2 : Sto} {S1 H1 : Hp} {ca1 : List Addr} {ow1 A1 : Fp} {ds : List D} {vs : List V} {i : Nat} {b : Od} {x : D} {v : V} {Q : Hp → Prop}
    (p1 : Post K cA σ S H ca ow A env1 st1 (rDs K cA ds vs) S1 H1 ca1 ow1 A1 (fun _ => 0)) (rx : ∀ S H ca, Rps K cA S H ca ds vs (fun _ => 0) → Rp K cA S H ca x v (fun _ => 0)) (hm : stO i b x env1 st1 = some (env2, st2))
    (k : ∀ S2 H2 ca2 ow2 A2, Post K cA σ S H ca ow A env2 st2 (rDs K cA ds vs) S2 H2 ca2 ow2 A2 (fun _ => 0) → Q H2) : gSub (L2.tVar i) (tOd cA b K) rSetL v σ H1 fun _ H2 => Q H2 := by
  unfold stO at hm
  split at hm
  · rename_i ds0 h0
    split at hm
    · rename_i kk e2 s2 h2
      split at hm
      · rename_i ls h3
        split at hm
        · rename_i ls' h4
          have he : placeSet i ls' e2 s2 = (env2, st2) := Option.some.inj hm
          obtain ⟨p0, vs0, hσ0, hp0⟩ := p1.st.place0 h0
          refine ⟨.ref p0, hσ0, od1_w p1.st h2 fun u S2 H2 ca2 ow2 A2 f2 fk p2 rk => ?_⟩
          have p := p1.both kp_ds p2
          obtain ⟨q, ws, g1, hσ, hp, hs, r, dis, back⟩ := p.place h3
          rw [hσ0] at hσ
          cases hσ
          obtain ⟨ga, gb, hg, ra, _⟩ := p.rp
          have g0 : ∀ a, ga a = 0 := fun a => by
            have h1 : 0 + f2 a = ga a + _ := hg a
            have h2 := p2.rp a
            omega
          unfold gSet at h4
          split at h4
          · rename_i ii
            split at h4
            · rename_i j hj
              cases h4
              obtain ⟨rfl, _⟩ := rk.i
              refine ⟨p0, ws, ii, j, rfl, rfl, hp, by rw [r.length]; exact hj, ?_⟩
              have u : Tr (fun a => if a = p0 then 1 else 0) S2 H2 S2 (upd H2 p0 (.lst (ws.set j v))) ca2 ca2 := upd_tr hp rfl
              have jl : j < ls.length := (ixN_seq hj).2.1
              have ra0 : Rps K cA S2 H2 ca2 ds vs (fun _ => 0) := by
                have : ga = fun _ => 0 := funext g0
                rw [← this]; exact ra
              have ra1 := ra0.keep u fun a z => absurd rfl z
              obtain ⟨g', r', l'⟩ := (r.keep u fun a z => by have := dis a; omega).set j ((rx _ _ _ ra0).keep u fun a z => absurd rfl z) jl
              obtain ⟨ow3, A3, p3⟩ := back (fr := fun _ => 0) (R' := rDs K cA ds vs) r' ra1 fun a => by have := l' a; show g' a + 0 ≤ _; omega
              rw [he] at p3
              exact k _ _ _ _ _ p3
            · cases h4
          · cases h4
        · cases hm
      · cases hm
    · cases hm
  · cases hm
theorem pds_store2 {i : Nat} {x : Str} {ej ek ev : Expr} {b1 b2 : Od} {m : Mo D} {p p' t1 t2 tp pos : Pos} {kk : Nat} (hc : X.calm = true) (hx : PE X (.Name x p) (L2.tVar i)) (hx' : PE X (.Name x p') (L2.tVar i)) (hj : PO' cA X ej b1) (hk : PO' cA X ek b2) (hv : PD cA X ev m)
    (ha1 : ∀ v, assign (.Subscript (.Name x p) ej t1) X.env v = (do
      let ov ← holding [v] (eval (.Name x p) X.env); let iv ← holding [v, ov] (eval ej X.env); standAt t1; holding [v, ov, iv] (setItem ov iv v); release [v, ov, iv] []) := by intro _; rfl)
    (ha2 : ∀ v, assign (.Subscript (.Name x p') ek t2) X.env v = (do
      let ov ← holding [v] (eval (.Name x p') X.env); let iv ← holding [v, ov] (eval ek X.env); standAt t2; holding [v, ov, iv] (setItem ov iv v); release [v, ov, iv] []) := by intro _; rfl)
    (hs1 : (assignEach [.Subscript (.Name x p) ej t1, .Subscript (.Name x p') ek t2] X.env).map (·.2) = assign (.Subscript (.Name x p) ej t1) X.env :: (assignEach [.Subscript (.Name x p') ek t2] X.env).map (·.2) := by rfl)
    (hs2 : (assignEach [.Subscript (.Name x p') ek t2] X.env).map (·.2) = assign (.Subscript (.Name x p') ek t2) X.env :: (assignEach [] X.env).map (·.2) := by rfl)
    (hn : (assignEach [.Subscript (.Name x p) ej t1, .Subscript (.Name x p') ek t2] X.env).length = 2 := by rfl) (hst : (assignEach [.Subscript (.Name x p) ej t1, .Subscript (.Name x p') ek t2] X.env).findIdx? (·.1) = none := by rfl)
    (hs : swapsWithSole [.Tuple [.Subscript (.Name x p) ej t1, .Subscript (.Name x p') ek t2] kk tp] ev pos.line X.env = pure false := by rfl) (hw : swappedStores [.Tuple [.Subscript (.Name x p) ej t1, .Subscript (.Name x p') ek t2] kk tp] ev X.env = pure none := by rfl)
    (h1 : (assignEach [.Tuple [.Subscript (.Name x p) ej t1, .Subscript (.Name x p') ek t2] kk tp] X.env).map (·.2) = [assign (.Tuple [.Subscript (.Name x p) ej t1, .Subscript (.Name x p') ek t2] kk tp) X.env] := by rfl) :
    PDS cA X (.Assign [.Tuple [.Subscript (.Name x p) ej t1, .Subscript (.Name x p') ek t2] kk tp] ev pos) (mStore2 i b1 b2 m) :=
  ps_w (ps_asg hv (pg_tup hc (pgs_cons (pg_sub hx hj set_list ha1) (pgs_cons (pg_sub hx' hk set_list ha2) pgs_nil hs2) hs1) hn hst) hs hw h1) fun D σ H ⟨S, ca, env, st, ow, A, fl, env', st', t, hm, k⟩ => by
    unfold mStore2 at hm
    split at hm
    · rename_i x0 y0 e1 s1 hv1
      split at hm
      · rename_i hfr
        split at hm
        · rename_i e2 s2 h2
          split at hm
          · rename_i e3 s3 h3
            obtain ⟨rfl, rfl, rfl⟩ := inj3 hm
            refine ⟨S, ca, env, st, ow, A, .tup [x0, y0], e1, s1, t, hv1, fun v S1 H1 ca1 ow1 A1 f1 p1 => ?_⟩
            obtain ⟨q, vs, rfl, hT, rxy⟩ := p1.rp.t
            cases rxy with
            | @cons _ vx _ _ _ _ _ rx r1 hh1 =>
              cases r1 with
              | @cons _ vy _ _ _ _ _ ry r2 hh2 =>
                cases r2 with
                | nil _ =>
                  have p0 : Post X.K cA σ S H ca ow A e1 s1 (rDs X.K cA [x0, y0] [vx, vy]) S1 H1 ca1 ow1 A1 (fun _ => 0) := p1.imp (g := fun _ => 0) (fun _ => .cons (f := fun _ => 0) (g := fun _ => 0) (rx.f0 (rx.fr0 hfr.1)) (.cons (f := fun _ => 0) (g := fun _ => 0) (ry.f0 (ry.fr0 hfr.2)) (.nil fun _ => rfl) fun _ => rfl) fun _ => rfl) fun _ => Nat.zero_le _
                  refine ⟨q, [vx, vy], rfl, hT, rfl, vx, [vy], rfl, ?_⟩
                  refine st_w p0 (fun S H ca r => ?_) h2 fun S2 H2 ca2 ow2 A2 p2 => ?_
                  · cases r with
                    | cons r _ hh => exact r.f0 fun a => by have h : (0 : Nat) = _ := hh a; omega
                  · refine ⟨vy, [], rfl, ?_⟩
                    refine st_w p2 (fun S H ca r => ?_) h3 fun S3 H3 ca3 ow3 A3 p3 => ?_
                    · cases r with
                      | cons r t hh =>
                        cases t with
                        | cons r _ hh2 => exact r.f0 fun a => by have h : (0 : Nat) = _ := hh a; have h2 := hh2 a; omega
                    · exact ⟨rfl, k _ _ _ _ _ _ (p3.imp (g := fun _ => 0) (R' := r0) (fun _ _ => rfl) fun _ => Nat.zero_le _)⟩
          · cases hm
        · cases hm
      · cases hm
    · cases hm
end
end Fw

set_option Elab.async false
set_option linter.all false
set_option maxRecDepth 100000
/-! for i, x in enumerate(xs, start=k) -/
namespace L2
open PySem PySem.Spec PyProof.Rows
section
variable {prog : Program} {w : World} {A : Around} {E : Value → Shared → Prop} {s : Shared}
end
section
variable {M : Model} {A : Around} {E : Value → Shared → Prop} {s : Shared} {env : Env}
end
/-- the list at a as it stands at each turn, each item in a new pair, counted from k0 -/
def IteK (K : PySem.W.Frag) (a : Addr) (k0 : Int) : It :=
  ⟨fun i H => ∃ (xs : List V) (x : V), SqL K H a xs ∧ xs[i]? = some x, fun i H v H' => ∃ T x, v = .ref T ∧ H T = none ∧ H' = upd H T (.tup [.int (k0 + (i : Int)), x]) ∧ ∀ xs, SqL K H a xs → xs[i]? = some x, fun i H => ∃ xs : List V, SqL K H a xs ∧ xs.length ≤ i⟩
def iEnumK (K : PySem.W.Frag) (ta tk : TA) : TI := fun σ H R => ta σ H fun vs H1 => tk σ H1 fun zs H2 => ∃ a xs k, vs = [.ref a] ∧ zs = [.int k] ∧ SqL K H2 a xs ∧ -(2 ^ 63) ≤ k ∧ k < 2 ^ 63 ∧ R (IteK K a k) H2
end L2

set_option Elab.async false
set_option linter.all false
set_option maxRecDepth 100000
namespace Fw
open PySem PySem.Spec PyProof.Rows L2
section
variable {K : PySem.W.Frag} {cA : Str → Addr} {S H : Hp} {ca : List Addr} {ds : List D} {vs : List V} {p : Addr} {g L : Fp}
end
def mEnumK (a b : Mo D) : Mo (List D) := fun env st => match a env st with
  | some (d, e1, s1) => if d.nob = true then (match d.fz with
    | .lst false xs => (match b e1 s1 with
      | some (.int k, e2, s2) => if 0 ≤ k ∧ k < 1000000000 then some (enumOf k.toNat xs, e2, s2) else none
      | _ => none)
    | _ => none) else none
  | none => none
section
variable {X : Cx} {cA : Str → Addr}
end
end Fw

set_option Elab.async false
set_option linter.all false
set_option maxRecDepth 100000
/-! a number put at the end of a list that stands in a dict, which a name holds: q[k].append(n) -/
namespace Fw
open PySem PySem.Spec PyProof.Rows L2
def putKD (k : Key) (d : D) : List (Key × D) → List (Key × D)
  | [] => []
  | (k', x) :: r => if k' = k then (k', d) :: r else (k', x) :: putKD k d r
def mDapp (i j k : Nat) : Mo D := fun env st => match env[i]?, env[j]?, env[k]? with
  | some (some (.dic true ks)), some (some (.str x)), some (some (.int n)) => (match lookK ks (.inr x) with
    | some (.lst true ds) => if ds.length < 1000000 then some (.non, env.set i (some (.dic true (putKD (.inr x) (.lst true (ds ++ [.int n])) ks))), st) else none
    | _ => none)
  | _, _, _ => none
section
variable {X : Cx} {cA : Str → Addr}
end
end Fw

set_option Elab.async false
set_option linter.all false
set_option maxRecDepth 100000
/-! a name's list stands in a cell while an expression is evaluated: a def may change it there -/
namespace Fw
open PySem PySem.Spec PyProof.Rows L2
def D.okC (n : Nat) : D → Bool
  | .cel k => decide (k < n)
  | d => d.noC
def okE (n : Nat) : DEnv → Bool
  | [] => true
  | none :: r => okE n r
  | some d :: r => d.okC n && okE n r
def okS : Sto → Bool
  | [] => true
  | d :: r => d.noC && okS r
def isOwnL : D → Bool
  | .lst true _ => true
  | _ => false
def isCel (n : Nat) : D → Bool
  | .cel k => k == n
  | _ => false
def mCellIn (i : Nat) (m : Mo D) : Mo D := fun env st => match env[i]? with
  | some (some (.lst true ds)) => (match m (env.set i (some (.cel st.length))) (st ++ [.lst true ds]) with
    | some (d, e1, s1) => (match s1.drop st.length, e1[i]? with
      | [x], some (some c) => if isOwnL x = true ∧ isCel st.length c = true ∧ d.noC = true ∧ x.noC = true ∧ okS (s1.take st.length) = true ∧ okE st.length (e1.set i none) = true ∧ e1.length = env.length then some (d, e1.set i (some x), s1.take st.length) else none
      | _, _ => none)
    | none => none)
  | _ => none
section
variable {K : PySem.W.Frag} {cA : Str → Addr} {S H : Hp} {ca : List Addr} {p : Addr}
end
section
variable {X : Cx} {cA : Str → Addr}
end
end Fw

set_option Elab.async false
set_option linter.all false
set_option maxRecDepth 100000
/-! a list's own things, one after another, changed: for x in xs, xs not looked at any more -/
namespace Fw
open PySem PySem.Spec PyProof.Rows L2
def mForMv (i : Nat) (b : Bi) (body : Ms) : Ms := fun env st => match env[i]? with
  | some (some (.lst true ds)) => forL b body ds (env.set i (some .unk)) st
  | _ => none
/-- a list held, with what is left of it -/
def hldL (K : PySem.W.Frag) (cA : Str → Addr) (p : Addr) (vs : List V) (ds : List D) (q : Nat) : Hp → Hp → List Addr → Fp → Prop := fun S H ca f => H p = some (.lst vs) ∧ S p = none ∧ ∃ g : Fp, Rps K cA S H ca (ds.drop q) (vs.drop q) g ∧ ∀ a, f a = (if a = p then 1 else 0) + g a
section
variable {X : Cx} {cA : Str → Addr}
end
end Fw

set_option Elab.async false
set_option linter.all false
set_option maxRecDepth 100000
/-! a name that is not looked at any more behind a statement -/
namespace Fw
open PySem PySem.Spec PyProof.Rows L2
def unkAt (j : Nat) (env : DEnv) : DEnv := match env[j]? with
  | some (some _) => env.set j (some .unk)
  | _ => env
def mUnk (j : Nat) (m : Ms) : Ms := fun env st => match m env st with
  | some (.nx, e, s) => some (.nx, unkAt j e, s)
  | x => x
section
variable {K : PySem.W.Frag} {cA : Str → Addr} {S H S1 H1 : Hp} {ca ca1 : List Addr} {ow A ow1 A1 f : Fp} {σ σ1 : L2.St} {env env1 : DEnv} {st st1 : Sto} {R : Hp → Hp → List Addr → Fp → Prop}
end
section
variable {X : Cx} {cA : Str → Addr}
end
end Fw

set_option Elab.async false
set_option linter.all false
set_option maxRecDepth 100000
/-! [y for x in xs for y in E]: the items of E, one after another -/
namespace Fw
open PySem PySem.Spec PyProof.Rows L2
section
variable {K : PySem.W.Frag} {cA : Str → Addr} {S H S1 H1 : Hp} {ca ca1 : List Addr} {ow A ow1 A1 f g : Fp} {σ : L2.St} {env1 : DEnv} {st1 : Sto} {d : D} {v : V} {ds : List D}
end
def flL (vs : List Nat) (n : Nat) (b : Bi) (m1 : Mo D) : List D → Mo (List D)
  | [], env, st => some ([], env, st)
  | d :: ds, env, st => match b d env with
    | some e1 => (match m1 e1 st with
      | some (.lst _ xs, e2, s2) => if n < e2.length then (match flL vs n b m1 ds (wipeE e2 vs) s2 with
          | some (ys, e3, s3) => some (xs ++ ys, e3, s3)
          | none => none) else none
      | _ => none)
    | none => none
def mFlat (m : Mo (List D)) (vs : List Nat) (n : Nat) (b : Bi) (m1 : Mo D) : Mo D := fun env st => match m env st with
  | some (items, e1, s1) => if savedOk e1 vs = true then (match flL vs n b m1 items (wipeE e1 vs) s1 with
      | some (ds, e2, s2) => if szOk ds.length = true then some (.lst true ds, keepE e1 e2 vs, s2) else none
      | none => none)
    else none
  | none => none
def FlB (J : It) (g : TG) (wi1 : TI) (g1 : TG) (te : TE) (vs vs1 : List Nat) (σ : L2.St) (H1 : Hp) (Q : VK) : Prop := ∀ D, H1 D = none → ∃ W : Nat → Nat → Hp → Prop, (∃ m, W 0 m (upd H1 D (.lst []))) ∧ ∀ i m H, W i m H →
  (J.stop i H ∧ Q (.ref D) H) ∨ (J.go i H ∧ ∃ Nx : Hp → Prop, (∀ H', Nx H' → ∃ m', m' < m ∧ W (i + 1) m' H') ∧ ∀ x H', J.yld i H x H' → g x (L2.wipe σ vs) H' fun σ2 H2 => L2.wipe σ2 vs = L2.wipe σ vs ∧ tYes σ2 H2 fun b H3 =>
    if b = true then wi1 σ2 H3 fun J1 H4 => ∃ W1 : Nat → Nat → Hp → Prop, (∃ m, W1 0 m H4) ∧ ∀ j k H, W1 j k H →
      (J1.stop j H ∧ Nx H) ∨ (J1.go j H ∧ ∃ Nx1 : Hp → Prop, (∀ H', Nx1 H' → ∃ k', k' < k ∧ W1 (j + 1) k' H') ∧ ∀ x H', J1.yld j H x H' → g1 x (L2.wipe σ2 vs1) H' fun σ3 H5 => L2.wipe σ3 vs1 = L2.wipe σ2 vs1 ∧ tYes σ3 H5 fun b H6 =>
        if b = true then te σ3 H6 fun y H7 => ∃ acc, H7 D = some (.lst acc) ∧ acc.length < sizeLine ∧ Nx1 (upd H7 D (.lst (acc ++ [y]))) else Nx1 H6)
    else Nx H3)
section
variable {X : Cx} {cA : Str → Addr}
end
section
variable {env : DEnv} {st : Sto}
end
end Fw

set_option Elab.async false
set_option linter.all false
set_option maxRecDepth 100000
/-! d[x] += n: a number under a text, in a dict that a name holds -/
namespace Fw
open PySem PySem.Spec PyProof.Rows L2
def setK (ks : List (Key × D)) (k : Key) (d : D) : List (Key × D) := ks.map fun kv => if kv.1 = k then (kv.1, d) else kv
def mDaug (i j : Nat) (n : Int) : Ms := fun env st => match env[i]?, env[j]? with
  | some (some (.dic true ks)), some (some (.str x)) => (match lookK ks (.inr x) with
    | some (.int z) => if ks.length < 1000000 then some (.nx, env.set i (some (.dic true (setK ks (.inr x) (.int (z + n))))), st) else none
    | _ => none)
  | _, _ => none
section
variable {X : Cx} {cA : Str → Addr}
end
section
variable {env : DEnv} {st : Sto}
end
end Fw

set_option Elab.async false
set_option linter.all false
set_option maxRecDepth 100000
/-! min of a list of pairs of a number and a text -/
namespace Fw
open PySem PySem.Spec PyProof.Rows L2
def isD (p : Int × Str) : D := .tup [.int p.1, .str p.2]
def isE2 (p : Int × Str) : PyData := .tuple [.int p.1, .str p.2]
def isOf : List D → Option (List (Int × Str))
  | [] => some []
  | .tup [.int a, .str x] :: r => (isOf r).map ((a, x) :: ·)
  | _ => none
def leastP (p : Int × Str) (l : List (Int × Str)) : Int × Str := l.foldl (fun a y => if PySem.W.dataLt (isE2 y) (isE2 a) = true then y else a) p
def minP : D → Option D
  | .lst _ xs => (match isOf xs with
    | some (p :: l) => some (isD (leastP p l))
    | _ => none)
  | _ => none
section
variable {X : Cx} {cA : Str → Addr}
end
end Fw

set_option Elab.async false
set_option linter.all false
set_option maxRecDepth 100000
/-! d["x"] = E: a text that the dict of a name has already -/
namespace Fw
open PySem PySem.Spec PyProof.Rows L2
def cntK (ks : List (Key × D)) (k : Key) : Nat := (ks.filter fun kv => decide (kv.1 = k)).length
def mDset (i : Nat) (x : Str) (m : Mo D) : Ms := fun env st => match m env st with
  | some (d, e1, s1) => (match e1[i]? with
    | some (some (.dic true ks)) => if ks.length < 1000000 ∧ cntK ks (.inr x) = 1 then some (.nx, e1.set i (some (.dic true (setK ks (.inr x) d))), s1) else none
    | _ => none)
  | none => none
section
variable {X : Cx} {cA : Str → Addr}
end
section
variable {env : DEnv} {st : Sto}
end
end Fw

set_option Elab.async false
set_option linter.all false
set_option maxRecDepth 100000
/-! {k: E for k in d}: over the keys of a dict that a name holds, untouched (and locked) on the way -/
namespace Fw
open PySem PySem.Spec PyProof.Rows L2
def DcB (J : It) (g : TG) (tt : TT) (tk tv : TE) (vs : List Nat) (σ : L2.St) (H1 : Hp) (Q : VK) : Prop := ∀ D, H1 D = none → ∃ W : Nat → Nat → Hp → Prop, (∃ m, W 0 m (upd H1 D (.dK []))) ∧ ∀ i m H, W i m H →
  (J.stop i H ∧ Q (.ref D) H) ∨ (J.go i H ∧ ∃ Nx : Hp → Prop, (∀ H', Nx H' → ∃ m', m' < m ∧ W (i + 1) m' H') ∧ ∀ x H', J.yld i H x H' → g x (L2.wipe σ vs) H' fun σ2 H2 => L2.wipe σ2 vs = L2.wipe σ vs ∧ tt σ2 H2 fun b H3 =>
    if b = true then tk σ2 H3 fun y H4 => tv σ2 H4 fun z H5 => ∃ kvs k, y = kV k ∧ H5 D = some (.dK kvs) ∧ kvs.length < sizeLine ∧ Nx (upd H5 D (.dK (putK kvs k z))) else Nx H3)
section
variable {X : Cx} {cA : Str → Addr}
end
end Fw

set_option Elab.async false
set_option linter.all false
set_option maxRecDepth 100000
/-! {k: E for k in d}, the rule -/
namespace Fw
open PySem PySem.Spec PyProof.Rows L2
def keyD : Key → D
  | .inl n => .int n
  | .inr x => .str x
def mDcN (i : Nat) (vs : List Nat) (b : Bi) (kx vx : Mo D) : Mo D := fun env st => match env[i]? with
  | some (some (.dic true ks)) => if savedOk (env.set i none) vs = true ∧ szOk (ks.map fun kv => keyD kv.1).length = true then (match dcL vs b kx vx (ks.map fun kv => keyD kv.1) [] (wipeE (env.set i none) vs) st with
      | some (rs, e2, s2) => if goneAt (keepE (env.set i none) e2 vs) i = true then some (.dic true rs, (keepE (env.set i none) e2 vs).set i (some (.dic true ks)), s2) else none
      | none => none)
    else none
  | _ => none
section
variable {X : Cx} {cA : Str → Addr}
end
end Fw

set_option Elab.async false
set_option linter.all false
set_option maxRecDepth 100000
/-! [n for k in qs for n in qs[k][gs[k]:]] -/
namespace Fw
open PySem PySem.Spec PyProof.Rows L2
def flK (qs gs : List (Key × D)) : List (Key × D) → Option (List D)
  | [] => some []
  | (k, _) :: r => (match lookK qs k, lookK gs k with
    | some (.lst _ ds), some (.int g) => if D.frs ds = true then (match flK qs gs r with
        | some out => some (cutD ds (some g) none ++ out)
        | none => none) else none
    | _, _ => none)
def mFlatD (i j : Nat) (vs : List Nat) (kv nv : Nat) : Mo D := fun env st => match env[i]?, env[j]? with
  | some (some (.dic true qs)), some (some (.dic true gs)) => (match flK qs gs qs with
    | some out => if szOk out.length = true ∧ kv < env.length ∧ nv < env.length then some (.lst true out, env, st) else none
    | none => none)
  | _, _ => none
section
variable {X : Cx} {cA : Str → Addr}
end
end Fw

set_option Elab.async false
set_option linter.all false
set_option maxRecDepth 100000
/-! x = {k: v for ..}: a name set from a dict comprehension -/
namespace Fw
open PySem PySem.Spec PyProof.Rows L2
section
variable {X : Cx} {cA : Str → Addr}
end
end Fw

set_option Elab.async false
set_option linter.all false
set_option maxRecDepth 100000
/-! xs.index(e): the place of a number in a name's list of numbers that has it -/
namespace Fw
open PySem PySem.Spec PyProof.Rows L2
def rIdxI (K : PySem.W.Frag) : V → List V → Hp → VK → Prop := fun x xs H Q => ∃ (p : Addr) (ns : List Int) (k : Int), x = .ref p ∧ xs = [.int k] ∧ SqL K H p (ns.map V.int) ∧ k ∈ ns ∧ ns.length ≤ sizeLine ∧ Q (.int (ns.idxOf k : Nat)) H
def idxOfD : D → D → Option D
  | .lst _ xs, .int k => (match intsL xs with
    | some ns => if k ∈ ns ∧ szOk ns.length = true then some (.int (ns.idxOf k : Nat)) else none
    | none => none)
  | _, _ => none
def lstAt (i : Nat) (env : DEnv) : Bool := match env[i]? with
  | some (some (.lst _ _)) => true
  | _ => false
def mIdxN (i : Nat) (m : Mo D) : Mo D := fun env st => if lstAt i env = true then (match m env st with
    | some (d, e1, s1) => (match e1[i]? with
      | some (some x) => (match idxOfD x d with
        | some z => some (z, e1, s1)
        | none => none)
      | _ => none)
    | none => none) else none
section
variable {X : Cx} {cA : Str → Addr}
end
end Fw

set_option Elab.async false
set_option linter.all false
set_option maxRecDepth 100000
/-! as mRuin: the other items of the tuple stay known -/
namespace Fw
open PySem PySem.Spec PyProof.Rows L2
section
variable {K : PySem.W.Frag} {cA : Str → Addr} {S H : Hp} {ca : List Addr} {d : D}
end
def mRuinT (i k : Nat) : Mo D := fun env st => match env[i]? with
  | some (some (.tup xs)) => (match xs[k]? with
    | some (.lst true ds) => if ds.length < 1000000 then some (.non, env.set i (some (.tup (xs.set k .unk))), st) else none
    | _ => none)
  | _ => none
section
variable {X : Cx} {cA : Str → Addr}
end
section
variable {env : DEnv} {st : Sto}
end
end Fw

set_option Elab.async false
set_option linter.all false
set_option maxRecDepth 100000
/-! sorted(set(xs)): sets of texts with the order of their table -/
namespace Fw
open PySem PySem.Spec PyProof.Rows L2
section
variable {prog : Program} {w : World} {A : Around} {E : Value → Shared → Prop} {s : Shared} {KK : Type} [DecidableEq KK] [BEq KK] [LawfulBEq KK] {knd : KeyKind prog w KK}
/-- a set in the heap: what SetOf says, and that its table can be walked -/
structure GS (knd : KeyKind prog w KK) (h : Heap) (a : Addr) (S : KK → Bool) (n : Nat) : Prop where
  x : ∃ (o : Obj) (es : Array (Int × Value)) (ep : Nat) (t : SetTable), h.get? a = some o ∧ (o.ExactSet ∧ o.data = .set es ep t) ∧ (ElemsOf knd es.toList ∧ ∀ q, S q = true ↔ ∃ u ∈ es.toList, knd.is q u.2 = true) ∧ (es.size < scanBound ∧ t.fits es.size = true ∧ es.size = n) ∧ Ris t.place.toList ∧ (w.params.followText "set-order" = true ∨ t.led = true)
end
section
variable {prog : Program} {w : World} {A : Around} {R : Result → Shared → Prop} {I : Addr} {fp wr : List Addr} {G : Array GenState → Array GenState → Prop} {n : Nat} {P : Nat → Value → Prop} {St : Nat → Shared → Prop}
end
section
variable {prog : Program} {w : World} {A : Around} {E : Value → Shared → Prop} {s : Shared}
open PySem.Calls in
end
end Fw

set_option Elab.async false
set_option linter.all false
set_option maxRecDepth 100000
/-! sorted(set(xs)), xs a list of texts -/
namespace Fw
open PySem PySem.Spec PyProof.Rows L2
section
variable {prog : Program} {w : World} {A : Around} {E : Value → Shared → Prop} {s : Shared}
end
def tSortS (K : PySem.W.Frag) (ta : TE) : TE := fun σ H Q => ta σ H fun x H1 => ∃ (l : Addr) (xs : List Str), x = .ref l ∧ SqL K H1 l (xs.map V.str) ∧ xs.length ≤ 4000 ∧ ∀ (p : Addr), H1 p = none → Q (.ref p) (upd H1 p (.lst ((sortS (xs.foldl metStep [])).map V.str)))
def sortSetD : D → Option D
  | .lst _ xs => (match strsOf xs with
    | some ss => if ss.length ≤ 4000 then some (.lst true ((sortS (ss.foldl metStep [])).map .str)) else none
    | none => none)
  | _ => none
section
variable {X : Cx} {cA : Str → Addr}
end
end Fw

set_option Elab.async false
set_option linter.all false
set_option maxRecDepth 100000
/-! sorted(set(xs)), xs a list of numbers -/
namespace Fw
open PySem PySem.Spec PyProof.Rows L2
def metStepI (acc : List Int) (x : Int) : List Int := if acc.any (· == x) then acc else acc ++ [x]
def metSI (val : Nat → Int) (i : Nat) : List Int := ((List.range i).map val).foldl metStepI []
theorem metSI_succ (val : Nat → Int) (i : Nat) : metSI val (i + 1) = metStepI (metSI val i) (val i) := by
  unfold metSI
  rw [List.range_succ, List.map_append, List.foldl_append]; rfl
section
variable {prog : Program} {w : World} {A : Around} {R : Result → Shared → Prop} {I : Addr} {fp wr : List Addr} {G : Array GenState → Array GenState → Prop} {n : Nat} {P : Nat → Value → Prop} {St : Nat → Shared → Prop}
end
section
variable {prog : Program} {w : World} {A : Around} {E : Value → Shared → Prop} {s : Shared}
open PySem.Calls in
end

section
variable {prog : Program} {w : World} {A : Around} {E : Value → Shared → Prop} {s : Shared}
end
def tSortSI (K : PySem.W.Frag) (ta : TE) : TE := fun σ H Q => ta σ H fun x H1 => ∃ (l : Addr) (xs : List Int), x = .ref l ∧ SqL K H1 l (xs.map V.int) ∧ xs.length ≤ 4000 ∧ ∀ (p : Addr), H1 p = none → Q (.ref p) (upd H1 p (.lst ((sortI (xs.foldl metStepI [])).map V.int)))
end Fw

set_option Elab.async false
set_option linter.all false
set_option maxRecDepth 100000
/-! sorted(set(xs)) in words of values -/
namespace Fw
open PySem PySem.Spec PyProof.Rows L2
def sortSetI : D → Option D
  | .lst _ xs => (match intsL xs with
    | some ss => if ss.length ≤ 4000 then some (.lst true ((sortI (ss.foldl metStepI [])).map .int)) else none
    | none => none)
  | _ => none
section
variable {X : Cx} {cA : Str → Addr}
end
end Fw

set_option Elab.async false
set_option linter.all false
set_option maxRecDepth 100000
/-! range(a, b, -1); d.get(x, n); d[x] = E; d[x] -= n; (E).count(x) -/
namespace Fw
open PySem PySem.Spec PyProof.Rows L2
def downOf (lo : Int) (n : Nat) : List D := (List.range n).map fun (i : Nat) => D.int (lo + (i : Int) * (-1))
def mRngD (a : Mo (List D)) : Mo (List D) := fun env st => match a env st with
  | some ([.int i, .int j, .int c], e1, s1) => if c = -1 ∧ smallI i = true ∧ smallI j = true then some (downOf i (i - j).toNat, e1, s1) else none
  | _ => none
section
variable {K : PySem.W.Frag} {cA : Str → Addr} {S H : Hp} {ca : List Addr} {L : Fp}
end
section
variable {X : Cx} {cA : Str → Addr}
def dgetD (n : Int) (x y : D) : Option D := match x, y with
  | .dic _ ks, .str k => (match lookK ks (.inr k) with
    | some (.int z) => some (.int z)
    | some _ => none
    | none => some (.int n))
  | _, _ => none
end
end Fw

set_option Elab.async false
set_option linter.all false
set_option maxRecDepth 100000
/-! d[x] = E (a number); d[x] -= n; (E).count(x) -/
namespace Fw
open PySem PySem.Spec PyProof.Rows L2
/-- in its place, or at the end -/
def putD (ks : List (Key × D)) (k : Key) (d : D) : List (Key × D) := if (lookK ks k).isSome = true then setK ks k d else ks ++ [(k, d)]
def mDputN (i j : Nat) (m : Mo D) : Ms := fun env st => match m env st with
  | some (.int z, e1, s1) => (match e1[i]?, e1[j]? with
    | some (some (.dic true ks)), some (some (.str x)) => if ks.length < 1000000 then some (.nx, e1.set i (some (.dic true (putD ks (.inr x) (.int z)))), s1) else none
    | _, _ => none)
  | _ => none
section
variable {X : Cx} {cA : Str → Addr}
def mCountE (a : Mo D) (b : Lk) : Mo D := fun env st => match a env st with
  | some (x, e1, s1) => (match b.ev e1 s1 with
    | some y => (match countD x y with
      | some z => some (z, e1, s1)
      | none => none)
    | none => none)
  | none => none
end
section
variable {env : DEnv} {st : Sto}
end
end Fw

set_option Elab.async false
set_option linter.all false
set_option maxRecDepth 100000
set_option maxHeartbeats 2000000
/-! errors of the program that keep one thing: what is known of their class, how one is made -/
namespace Fw
open PySem PySem.Spec PyProof.Rows PySem.W PySem.HandSPX
/-- what the text says of an error class cn at C, whose instances keep f; its __init__ stands at fI -/
structure ErrB (K : Frag) (mg : Str → Option Value) (cn f : Str) (C fI : Addr) : Prop where
  gC : mg cn = some (.ref C)
  dbg : (cn == ("__debug__" : Str)) = false
  cls : ∃ nm q N bs bm sn sub ab col dd k0 k1 k2 k3 k5, K.lookup C = some (excClassObj nm q C N bs bm true sn sub ab col dd k0 k1 k2 k3 k5 "ValueError.__new__") ∧ refsVE bm = true
  sa : findIn K (.ref C) "__setattr__" = some (some (.builtin "object.__setattr__"))
  ga : findIn K (.ref C) "__getattribute__" = some (some (.builtin "BaseException.__getattribute__"))
  gg : findIn K (.ref C) "__getattr__" = some none
  noN : findIn K (.ref C) f = some none
  iC : findIn K (.ref C) "__init__" = some (some (.ref fI))
  tC : typeIn K (.ref fI) = some (.type "function")
  kC : keepIn K (.ref C) = true
  exC : subIn K (.ref C) (.type "BaseException") = some true
  tyC : typeIn K (.ref C) = some (.type "type")
  hdC : hasDictIn K C = true
/-- behind an error's __init__, the error at x -/
structure IniEnd (f : Str) (h h' : Heap) (x C dx t1 : Addr) (v : Value) : Prop where
  keep : ∀ b o, b ≠ x → h.get? b = some o → h'.get? b = some o
  obj : h'.get? x = some { cls := .ref C, dict := some dx, data := .fields #[.ref t1, .none, .none, .none, .bool false, .none] }
  dbig : h.objs.size ≤ dx
  dne : dx ≠ x
  ns : h'.Ns1 dx (fun y => if y = f then some v else none)
/-- an error that was made -/
structure MadeE (f : Str) (h h' : Heap) (e C d : Addr) (v : Value) : Prop where
  keep : ∀ b o, h.get? b = some o → h'.get? b = some o
  new : h.objs.size ≤ e
  obj : ∃ oe vs, h'.get? e = some oe ∧ oe.cls = .ref C ∧ oe.dict = some d ∧ oe.data = .fields vs ∧ vs[1]? = some .none
  dbig : h.objs.size ≤ d
  dne : d ≠ e
  ns : h'.Ns1 d (fun y => if y = f then some v else none)
/-- what __init__ does -/
def IniDoes (prog : Program) (w : World) (K : Frag) (f : Str) (C fI : Addr) : Prop := ∀ {A : Around} {R : Result → Shared → Prop} {s : Shared} {x t0 : Addr} {v : Value}, K.In s.heap → s.heap.NoLimit → s.heap.get? x = some (excO C t0) → A.depth < recursionLimit →
  (∀ h' tk dx, IniEnd f s.heap h' x C dx t0 v → R (.ok (.ret .none)) { s with heap := h', toks := tk }) → codeAny (model prog w) A (.call (.ref fI) ⟨[.ref x, v], []⟩) R s
section
variable {prog : Program} {w : World} {A : Around} {R : Result → Shared → Prop} {s : Shared} {K : Frag} {mg : Str → Option Value} {C fI : Addr} {cn f : Str}
end
end Fw
namespace Fw
open PySem PySem.Spec PyProof.Rows L2
/-- cn(e) -/
def tMkE (f : Str) (C : Addr) (ta : TA) : L2.St → Hp → XK → Prop := fun σ H Q => ta σ H fun vs H1 => ∃ v, vs = [v] ∧ ∀ d, H1 d = none → Q (.ref C) (some d) (upd H1 d (.xd [(f, v)]))
/-- an expression that makes such an error -/
def MkE (X : Cx) (cn f : Str) (C : Addr) : Prop := ∀ {a : Expr} {ta : TA} {p pos : Pos} {k : Nat} (hr : Room k X.A) (ha : PA X [a] ta) (hg : Gl X cn)
    (he : starEach (a :: []) X.env = (false, eval a X.env) :: starEach [] X.env) (hpl : (backTo pos (starEach [] X.env)).any (·.1) = false), PMk X (.Call (.Name cn p) [a] [] pos) (tMkE f C ta)
/-! ### isinstance of a caught error that keeps something -/
/-- what the class must say, so that isinstance asks its instances rightly -/
structure ErrC (K : PySem.W.Frag) (C : Addr) : Prop where
  ga : PySem.W.findIn K (.ref C) "__getattribute__" = some (some (.builtin "BaseException.__getattribute__"))
  gg : PySem.W.findIn K (.ref C) "__getattr__" = some none
  exC : PySem.W.subIn K (.ref C) (.type "BaseException") = some true
  hdC : PySem.W.hasDictIn K C = true
  cl : PySem.W.findIn K (.ref C) "__class__" = some (some (.builtin "object.__class__"))
  gt : PySem.W.specialIn K (.builtin "object.__class__") "__get__" = some (some (.builtin "getset_descriptor.__get__"))
  tk : PySem.W.takesIn K (.builtin "object.__class__") = some true
  mo : PySem.W.mroIn K C (.type "object") = some true
/-- isinstance(e, c), isinstance(e, (c, ..)): e the error that the suite holds; dd its dict -/
def rIsX (K : PySem.W.Frag) (C a dd : Addr) : List V → Hp → VK → Prop := fun xs H Q => (∃ fs, H dd = some (.xd fs)) ∧ ∃ (c : V) (b : Bool), xs = [.ref a, c] ∧
  ((∃ cv, (∀ u, RelV c u → u = cv) ∧ PySem.W.kitOne K (.ref C) cv = some b) ∨ ∃ tp cs cvs, c = .ref tp ∧ H tp = some (.tup cs) ∧ (∀ us, Vals cs us → us = cvs) ∧ PySem.W.kitAny K (.ref C) cvs = some b) ∧ Q (.bl b) H
end Fw

set_option Elab.async false
set_option linter.all false
set_option maxRecDepth 100000
/-! defs that raise: an error on its way is a value of its own kind (D.X), a flow like a return -/
namespace Fw
open PySem PySem.Spec PyProof.Rows L2

/-- an error of the class c that keeps d as f -/
def D.X (c f : Str) (d : D) : D := .obj true "!" [(c, d), (f, .non)]
def unX : D → Option (Str × Str × D)
  | .obj true n [(c, d), (f, .non)] => if n = "!" then some (c, f, d) else none
  | _ => none
/-- what stands for it: its class, its own dict -/
def rX (K : PySem.W.Frag) (cA : Str → Addr) (c f : Str) (x : D) (cls : Value) (dO : Option Addr) : Hp → Hp → List Addr → Fp → Prop := fun S H ca g => (∀ a, g a = 0) ∧ cls = .ref (cA c) ∧ ∃ dd v, dO = some dd ∧ H dd = some (.xd [(f, v)]) ∧ Rp K cA S H ca x v (fun _ => 0)
section
variable (cA : Str → Addr)
/-- what is behind a statement's end, errors among it -/
def kSX (W : WX) (K : PySem.W.Frag) (D : Ends) (S H : Hp) (ca : List Addr) (ow A : Fp) (fl : Fl) (env' : DEnv) (st' : Sto) : Prop :=
  match fl with
  | .nx => ∀ σ' S' H' ca' ow' A', Post K cA σ' S H ca ow A env' st' r0 S' H' ca' ow' A' (fun _ => 0) → D.nx σ' H'
  | .bk => ∀ σ' S' H' ca' ow' A', Post K cA σ' S H ca ow A env' st' r0 S' H' ca' ow' A' (fun _ => 0) → D.bk σ' H'
  | .ct => ∀ σ' S' H' ca' ow' A', Post K cA σ' S H ca ow A env' st' r0 S' H' ca' ow' A' (fun _ => 0) → D.ct σ' H'
  | .rt d => (unX d = none → ∀ v σ' S' H' ca' ow' A' f, Post K cA σ' S H ca ow A env' st' (rD K cA d v) S' H' ca' ow' A' f → D.rt v H') ∧
    ∀ c f x, unX d = some (c, f, x) → ∀ cls dO σ' S' H' ca' ow' A', Post K cA σ' S H ca ow A env' st' (rX K cA c f x cls dO) S' H' ca' ow' A' (fun _ => 0) → W cls dO σ' H'
def tSX (W : WX) (m : Ms) (K : PySem.W.Frag) : TS := fun D σ H => ∃ S ca env st ow A fl env' st', Sta K cA σ S H env st ca ow A ∧ m env st = some (fl, env', st') ∧ kSX cA W K D S H ca ow A fl env' st'
abbrev PDX (X : Cx) (W : WX) (s : Stmt) (m : Ms) : Prop := PS X s (tSX cA W m X.K)
abbrev PDXs (X : Cx) (W : WX) (s : List Stmt) (m : Ms) : Prop := PSs X s (tSX cA W m X.K)
/-- an expression that may raise -/
def tEX (W : WX) (m : Mo D) (K : PySem.W.Frag) : TE := fun σ H Q => ∃ S ca env st ow A d env' st', Sta K cA σ S H env st ca ow A ∧ m env st = some (d, env', st') ∧
  (unX d = none → ∀ v S' H' ca' ow' A' f, Post K cA σ S H ca ow A env' st' (rD K cA d v) S' H' ca' ow' A' f → Q v H') ∧
  ∀ c f x, unX d = some (c, f, x) → ∀ cls dO S' H' ca' ow' A', Post K cA σ S H ca ow A env' st' (rX K cA c f x cls dO) S' H' ca' ow' A' (fun _ => 0) → W cls dO σ H'
abbrev PDE (X : Cx) (W : WX) (e : Expr) (m : Mo D) : Prop := PE X e (tEX cA W m X.K)
end
section
variable {K : PySem.W.Frag} {cA : Str → Addr} {W : WX} {S H S1 H1 : Hp} {ca ca1 : List Addr} {ow A ow1 A1 f : Fp} {σ σ1 : L2.St} {env env1 env' : DEnv} {st st1 st' : Sto} {D : Ends} {fl : Fl} {R : Hp → Hp → List Addr → Fp → Prop}
end
section
variable {X : Cx} {cA : Str → Addr} {W : WX}
/-- a statement that raises nothing -/
def mL (m : Ms) : Ms := fun env st => match m env st with
  | some (.rt d, e1, s1) => if unX d = none then some (.rt d, e1, s1) else none
  | r => r
/-- a bare call -/
def mExprX (m : Mo D) : Ms := fun env st => match m env st with
  | some (d, e1, s1) => if unX d = none then some (.nx, e1, s1) else some (.rt d, e1, s1)
  | none => none
/-- x = e -/
def mSetX (i : Nat) (m : Mo D) : Ms := fun env st => match m env st with
  | some (d, e1, s1) => if unX d = none then (if i < e1.length then some (.nx, e1.set i (some d), s1) else none) else some (.rt d, e1, s1)
  | none => none
/-- raise c(e) -/
def mRaise (c f : Str) (a : Mo D) : Ms := fun env st => match a env st with
  | some (d, e1, s1) => if d.fr = true then some (.rt (D.X c f d), e1, s1) else none
  | none => none
end
end Fw

set_option Elab.async false
set_option linter.all false
set_option maxRecDepth 100000
namespace Fw
open PySem PySem.Spec PyProof.Rows L2
section
variable {X : Cx} {cA : Str → Addr} {W : WX}
end
/-! ### defs that raise -/
/-- what a def promises that may raise -/
def spX (cA : Str → Addr) (K : PySem.W.Frag) (n : Nat) (m : Fn) : Sp := fun vs H Q E => ∃ S ca st A ds d st', ds.length = n ∧ CellsR K cA S H ca st ca A ∧ (∀ a o, S a = some o → H a = some o) ∧ (∀ a, A a ≤ 1) ∧ Rps K cA S H ca ds vs (fun _ => 0) ∧ m ds st = some (d, st') ∧
  (unX d = none → ∀ v S' H' ca' A' f, Tr A S H S' H' ca ca' → CellsR K cA S' H' ca' st' ca' A' → (∀ a o, S' a = some o → H' a = some o) → Rp K cA S' H' ca' d v f → (∀ a, A' a + f a ≤ 1) → (∀ a, A' a + f a ≠ 0 → A a ≠ 0 ∨ H a = none) → Q v H') ∧
  ∀ c fn x, unX d = some (c, fn, x) → ∀ cls dO S' H' ca' A', Tr A S H S' H' ca ca' → CellsR K cA S' H' ca' st' ca' A' → (∀ a o, S' a = some o → H' a = some o) → rX K cA c fn x cls dO S' H' ca' (fun _ => 0) → (∀ a, A' a ≤ 1) → (∀ a, A' a ≠ 0 → A a ≠ 0 ∨ H a = none) → E cls dO H'
structure FncX (cA : Str → Addr) (P : Program) (w : World) (K : PySem.W.Frag) (mg : Str → Option Value) (base : Heap) (k : Nat) (x : Str) (n : Nat) (m : Fn) : Prop where
  ex : ∃ (f : Addr) (fd : FuncData) (ps : List Str), mg x = some (.ref f) ∧ PySem.W.keepIn K (.ref f) = true ∧ Binds K fd ps [] ∧ FnG P w K mg base (L2.CX P w) k f fd ps (spX cA K n m)
section
variable {X : Cx} {k : Nat} {f : Addr} {fd : FuncData} {ps : List Str} {sp : Sp} {E : L2.St → XK} {x : Str} {p pos : Pos} {e : Expr} {es : List Expr} {t : TA}
end
section
variable {X : Cx} {cA : Str → Addr} {W : WX}
/-! ### what stands around a call that may raise -/
/-- ('tag', e) -/
def mTagX (x : Str) (m : Mo D) : Mo D := fun env st => match m env st with
  | some (d, e1, s1) => if unX d = none then some (.tup [.str x, d], e1, s1) else some (d, e1, s1)
  | none => none
/-- an expression that raises nothing -/
def mLE (m : Mo D) : Mo D := fun env st => match m env st with
  | some (d, e1, s1) => if unX d = none then some (d, e1, s1) else none
  | none => none
end
end Fw
namespace Fw
open PySem PySem.Spec PyProof.Rows L2
section
variable {X : Cx} {cA : Str → Addr}
end
/-! ### runs -/
section
variable {env : DEnv} {st : Sto}
end
end Fw

set_option Elab.async false
set_option linter.all false
set_option maxRecDepth 100000
/-! try: body / except X as e: suite, where the suite asks isinstance of e and reads its field -/
namespace Fw
open PySem PySem.Spec PyProof.Rows L2
/-- in the suite: slot i holds the error (at a), whose dict dd keeps x as f -/
def JS (K : PySem.W.Frag) (cA : Str → Addr) (i : Nat) (a dd : Addr) (f : Str) (x : D) (σ : L2.St) (S H : Hp) (ca : List Addr) : Prop := σ[i]? = some (some (.ref a)) ∧ ∃ v, H dd = some (.xd [(f, v)]) ∧ Rp K cA S H ca x v (fun _ => 0)
section
variable (cA : Str → Addr) (i : Nat) (a dd : Addr) (f : Str) (x : D)
/-- an expression of the suite -/
def tJ (m : Mo D) (K : PySem.W.Frag) : TE := fun σ H Q => ∃ S ca env st ow A d env' st', Sta K cA σ S H env st ca ow A ∧ JS K cA i a dd f x σ S H ca ∧ m env st = some (d, env', st') ∧
  ∀ v S' H' ca' ow' A' g, Post K cA σ S H ca ow A env' st' (rD K cA d v) S' H' ca' ow' A' g → Q v H'
def tJs (m : Mo (List D)) (K : PySem.W.Frag) : TA := fun σ H Q => ∃ S ca env st ow A d env' st', Sta K cA σ S H env st ca ow A ∧ JS K cA i a dd f x σ S H ca ∧ m env st = some (d, env', st') ∧
  ∀ v S' H' ca' ow' A' g, Post K cA σ S H ca ow A env' st' (rDs K cA d v) S' H' ca' ow' A' g → Q v H'
/-- a test of it, known beforehand -/
def tK (b : Bool) : TT := fun σ H Q => (σ[i]? = some (some (.ref a)) ∧ ∃ fs, H dd = some (.xd fs)) ∧ ∀ H', Grow H H' → Q b H'
/-- what is behind a statement's end: the suite's things stand as they did, where it goes on -/
def kJ (K : PySem.W.Frag) (D : Ends) (S H : Hp) (ca : List Addr) (ow A : Fp) (fl : Fl) (env' : DEnv) (st' : Sto) : Prop :=
  match fl with
  | .nx => ∀ σ' S' H' ca' ow' A', Post K cA σ' S H ca ow A env' st' r0 S' H' ca' ow' A' (fun _ => 0) → σ'[i]? = some (some (.ref a)) → D.nx σ' H'
  | .rt d => ∀ v σ' S' H' ca' ow' A' f, Post K cA σ' S H ca ow A env' st' (rD K cA d v) S' H' ca' ow' A' f → D.rt v H'
  | _ => False
def tJS (m : Ms) (K : PySem.W.Frag) : TS := fun D σ H => ∃ S ca env st ow A fl env' st', Sta K cA σ S H env st ca ow A ∧ JS K cA i a dd f x σ S H ca ∧ m env st = some (fl, env', st') ∧ kJ cA i a K D S H ca ow A fl env' st'
abbrev PJ (X : Cx) (e : Expr) (m : Mo D) : Prop := PE X e (tJ cA i a dd f x m X.K)
abbrev PJs (X : Cx) (e : List Expr) (m : Mo (List D)) : Prop := PA X e (tJs cA i a dd f x m X.K)
abbrev PK (X : Cx) (e : Expr) (b : Bool) : Prop := PT X e (tK i a dd b)
abbrev PKW (X : Cx) (e : Expr) (b : Bool) : Prop := PW X e (tK i a dd b)
abbrev PJS (X : Cx) (s : Stmt) (m : Ms) : Prop := PS X s (tJS cA i a dd f x m X.K)
abbrev PJSs (X : Cx) (s : List Stmt) (m : Ms) : Prop := PSs X s (tJS cA i a dd f x m X.K)
end
section
variable {X : Cx} {cA : Str → Addr} {i : Nat} {a dd : Addr} {f : Str} {x : D}
/-! ### tests of the error -/
/-! ### statements -/
end
section
variable {X : Cx} {cA : Str → Addr} {i : Nat} {a dd : Addr} {f : Str} {x : D} {oe : Obj} {pn : List (Addr × Obj)} {c n : Str}
/-- what names a class -/
inductive Nm (X : Cx) : Expr → V → Value → Prop
  | own {x : Str} {C : Addr} {p : Pos} (hg : Gl X x) (hm : X.mg x = some (.ref C)) (hd : (x == ("__debug__" : Str)) = false) : Nm X (.Name x p) (.ref C) (.ref C)
  | blt {x : Str} {T : String} {p : Pos} (hg : Gl X x) (hm : X.mg x = none) (hv : bootBuiltins x = some (.type T)) (hn : x ≠ "__name__") (hd : (x == ("__debug__" : Str)) = false) : Nm X (.Name x p) (.ty T) (.type T)
theorem Nm.pe {X : Cx} {e : Expr} {v : V} {u : Value} (h : Nm X e v u) : PE X e (tC v) := by
  cases h with
  | own hg hm hd => exact pe_glob hg hm (show RelV (.ref _) (.ref _) from rfl) hd
  | blt hg hm hv hn hd => exact pe_bltn hg hm hv (show RelV (.ty _) (.type _) from rfl) hn hd
inductive Nms (X : Cx) : List Expr → List V → List Value → Prop
  | nil : Nms X [] [] []
  | cons {e : Expr} {es : List Expr} {v : V} {vs : List V} {u : Value} {us : List Value} (h : Nm X e v u) (t : Nms X es vs us) (hs : starEach (e :: es) X.env = (false, eval e X.env) :: starEach es X.env) : Nms X (e :: es) (v :: vs) (u :: us)
def tVs (vs : List V) : TA := fun _ H Q => Q vs H
theorem Nms.pa {X : Cx} {es : List Expr} {vs : List V} {us : List Value} (h : Nms X es vs us) : PA X es (tVs vs) := by
  induction h with
  | nil => exact pa_nil
  | cons h t hs ih => exact pa_w (pa_cons h.pe ih hs) fun σ H Q q => q
end
/-! ### try -/
def mTry (i : Nat) (mb : Ms) (cs : List (Str × Str)) (ms : Str → Str → D → Ms) : Ms := fun env st => match mb env st with
  | some (.rt d, e1, s1) => (match unX d with
    | some (c, f, x) => if (c, f) ∈ cs ∧ i < e1.length then (match ms c f x (e1.set i none) s1 with
        | some (.nx, e2, s2) => some (.nx, e2.set i none, s2)
        | some (.rt r, e2, s2) => some (.rt r, e2, s2)
        | _ => none)
      else none
    | none => some (.rt d, e1, s1))
  | r => r
section
variable {X : Cx} {cA : Str → Addr}
end
end Fw
namespace Fw
open PySem PySem.Spec PyProof.Rows L2
section
variable {K : PySem.W.Frag} {C T : Addr} {b : Bool}
theorem kit_any {t c : Value} {r : List Value} {b1 b2 : Bool} (h1 : PySem.W.kitOne K t c = some b1) (h2 : PySem.W.kitAny K t r = some b2) : PySem.W.kitAny K t (c :: r) = some (b1 || b2) := by
  unfold PySem.W.kitAny
  rw [h1]
  cases b1 with
  | true => rfl
  | false => exact h2
end
section
variable {env : DEnv} {st : Sto}
end
end Fw
namespace Fw
open PySem PySem.Spec PyProof.Rows L2
section
variable {X : Cx} {cA : Str → Addr} {i : Nat} {a dd : Addr} {f : Str} {x : D}
end
end Fw
namespace Fw
open PySem
/-- where the classes stand -/
def cAof (l : List (Str × Addr)) (s : Str) : Addr := match l with
  | [] => 0
  | (x, c) :: r => if x = s then c else cAof r s
end Fw

set_option Elab.async false
set_option linter.all false
set_option maxRecDepth 100000
/-! xs.count(None) of a list of numbers and None -/
namespace Fw
open PySem PySem.Spec PyProof.Rows L2
def cntN : List D → Option Nat
  | [] => some 0
  | .non :: r => (cntN r).map (· + 1)
  | .int _ :: r => cntN r
  | _ => none
def countND : D → Option D
  | .lst _ xs => (cntN xs).map fun n => .int (n : Nat)
  | _ => none
def isNone : Value → Bool
  | .none => true
  | _ => false
section
variable {X : Cx} {cA : Str → Addr}
def rCntN (cA : Str → Addr) (K : PySem.W.Frag) : V → List V → Hp → VK → Prop := fun x xs H Q => ∃ (p : Addr) (vs : List V) (ds : List D) (S : Hp) (ca : List Addr) (f : Fp) (n : Nat), x = .ref p ∧ xs = [.non] ∧ SqL K H p vs ∧ Rps K cA S H ca ds vs f ∧ cntN ds = some n ∧ Q (.int (n : Nat)) H
end
end Fw

set_option Elab.async false
set_option linter.all false
set_option maxRecDepth 100000
/-! runs of statements that raise nothing, inside defs that may -/
namespace Fw
open PySem PySem.Spec PyProof.Rows L2
def Lx (Q : Fl → DEnv → Sto → Prop) : Fl → DEnv → Sto → Prop := fun f e s => match f with
  | .rt d => unX d = none ∧ Q (.rt d) e s
  | f => Q f e s
section
variable {env : DEnv} {st : Sto} {Q : Fl → DEnv → Sto → Prop}
/-- a try whose body raises -/
def Xx (Q : Str → Str → D → DEnv → Sto → Prop) : Fl → DEnv → Sto → Prop := fun f e s => match f with
  | .rt d => ∃ c f x, d = D.X c f x ∧ Q c f x e s
  | _ => False
def Sx (i : Nat) (Q : Fl → DEnv → Sto → Prop) : Fl → DEnv → Sto → Prop := fun f2 e2 s2 => match f2 with | .nx => Q .nx (e2.set i none) s2 | .rt r => Q (.rt r) e2 s2 | _ => False
end
end Fw

set_option Elab.async false
set_option linter.all false
set_option maxRecDepth 100000
/-! x[k][l].append("..") in a tuple in a tuple: all else stays known -/
namespace Fw
open PySem PySem.Spec PyProof.Rows L2
section
variable {K : PySem.W.Frag} {cA : Str → Addr} {S H : Hp} {ca : List Addr} {d : D}
end
def mRuin2 (i k l : Nat) : Mo D := fun env st => match env[i]? with
  | some (some (.tup xs)) => (match xs[k]? with
    | some (.tup ys) => (match ys[l]? with
      | some (.lst true ds) => if ds.length < 1000000 then some (.non, env.set i (some (.tup (xs.set k (.tup (ys.set l .unk))))), st) else none
      | _ => none)
    | _ => none)
  | _ => none
section
variable {X : Cx} {cA : Str → Addr}
end
section
variable {env : DEnv} {st : Sto}
end
end Fw

set_option Elab.async false
set_option linter.all false
set_option maxRecDepth 100000
/-! isinstance(x, (T, U)) -/
namespace Fw
open PySem PySem.Spec PyProof.Rows L2
def isi2D (T U : String) (x : D) : Option D := match x.ty with
  | some a => (match kitB a T, kitB a U with
    | some b, some c => some (.bl (b || (c || false)))
    | _, _ => none)
  | none => none
section
variable {X : Cx} {cA : Str → Addr}
theorem pd_isi2 {T U : String} {e : Expr} {eTs : List Expr} {a : Od} {kk : Nat} {p p3 pos : Pos} (hg : Gl X "isinstance") (hm : X.mg "isinstance" = none) (hT : Nms X eTs [.ty T, .ty U] [.type T, .type U]) (ha : PO' cA X e a)
    (hs : starEach [e, .Tuple eTs kk p3] X.env = (false, eval e X.env) :: starEach [.Tuple eTs kk p3] X.env := by rfl) (hs2 : starEach [.Tuple eTs kk p3] X.env = (false, eval (.Tuple eTs kk p3) X.env) :: starEach [] X.env := by rfl)
    (hpl : (backTo pos (starEach [.Tuple eTs kk p3] X.env)).any (·.1) = false := by rfl) : PD cA X (.Call (.Name "isinstance" p) [e, .Tuple eTs kk p3] [] pos) (mUn (isi2D T U) a) :=
  pe_w (pe_callB call_isiT hg hm (by decide +kernel) (pa_cons ha (pa_cons (pe_tup hT.pa) pa_nil hs2) hs) (by decide) (by decide) hs hpl) fun σ H Q h =>
    un_w (r := fun x H1 => ([V.ty T, V.ty U] : List V).length ≤ sizeLine ∧ ∀ q, H1 q = none → rIsiT X.K [x, .ref q] (upd H1 q (.tup [.ty T, .ty U])) Q) h fun x H1 ⟨S, ca, d1, f1, d, sub, r, hg, k⟩ => by
      unfold isi2D at hg
      split at hg
      · rename_i ta ht
        split at hg
        · rename_i b c q1 q2
          cases hg
          refine ⟨(by rw [sizeLine_eq]; show 2 ≤ 16777216; omega), fun q nq => ?_⟩
          have g : Grow H1 (upd H1 q (.tup [.ty T, .ty U])) := upd_gr nq
          have r' := r.keep (L := fun _ => 0) (tr_grow (S := S) (ca := ca) g) fun _ _ => rfl
          exact ⟨x, q, _, .type ta, _, _, rfl, upd_same, .cons (.ty T) (.cons (.ty U) .nil), r'.tyx (fun a o z => g a o (sub a o z)) ht, kit_any (kit_ty q1) (kit_any (kit_ty q2) rfl), k _ _ _ g rp_bl0 (fun _ => Nat.zero_le _) fun _ z => absurd rfl z⟩
        · cases hg
      · cases hg
end
end Fw

set_option Elab.async false
set_option linter.all false
set_option maxRecDepth 100000
/-! x in (a, b, ..), data of any kind -/
namespace Fw
open PySem PySem.Spec PyProof.Rows L2
def inUD (x y : D) : Option D := match y with
  | .tup ys => (match x.pd, D.pds ys with
    | some a, some bs => if a.canLay0 = true ∧ PyData.canLayAll0 bs = true ∧ PyData.depthAll bs ≤ 60 then some (.bl (bs.any fun z => PyData.eqv z a)) else none
    | _, _ => none)
  | _ => none
section
variable {X : Cx} {cA : Str → Addr}
end
end Fw

set_option Elab.async false
set_option linter.all false
set_option maxRecDepth 100000
/-! x != n for a number n, whatever x is; x in ([], ()) for a list or a tuple x -/
namespace PySem.SeqAt
open PySem PySem.Spec PyProof.Rows L2 MeetsSeq MeetsSeq2 MeetsSeq3 AutoSeq1
variable {A : Around} {s : Shared}
theorem dict_ne_int0 (l : Addr) (es : Array DictEntry) (ep : Nat) (dd : Option Addr) (sl : Array (Option Value)) (b : Int) (u : Tok) :
    Meets (Builtin.«dict.__ne__» ⟨[.ref l, .int b u], []⟩) (fun _ R s => s.heap.get? l = some { cls := .type "dict", dict := dd, data := .dict es ep, slots := sl } ∧ R (.ok (.ret .notImplemented)) s) :=
  .of_wp fun prog w A R s h => by obtain ⟨hp, g, d, tk, os⟩ := s; obtain ⟨hl, h⟩ := h; have f1 := F.sub_int_dict; wp_walk using wpAny_loadPart' hl, wpAny_load hl; exact ⟨_, rfl, h⟩
theorem int_ne_dict0 (b : Int) (u : Tok) (l : Addr) (c : Value) (es : Array DictEntry) (ep : Nat) (dd : Option Addr) (sl : Array (Option Value)) :
    Meets (Builtin.«int.__ne__» ⟨[.int b u, .ref l], []⟩) (fun _ R s => s.heap.get? l = some { cls := c, dict := dd, data := .dict es ep, slots := sl } ∧ R (.ok (.ret .notImplemented)) s) :=
  .of_wp fun prog w A R s h => by obtain ⟨hp, g, d, tk, os⟩ := s; obtain ⟨hl, h⟩ := h; wp_walk using wpAny_loadPart' hl, wpAny_load hl; exact ⟨_, rfl, h⟩
theorem RcNeAt.dict_int {l : Addr} {o : Obj} {es : Array DictEntry} {ep : Nat} (b : Int) (u : Tok) (ho : s.heap.get? l = some o) (hx : o.ExactDict) (hd : o.data = .dict es ep) (hu : A.units < cLine) : RcNeAt A s (.ref l) (.int b u) true := fun prog w E Q h => by
  obtain ⟨cls, dd, data, sl⟩ := o
  obtain ⟨h1, h2, h3⟩ := hx
  simp only at h1 h2 h3 hd
  subst h1 h2 h3 hd
  exact rc_ne_decline_or (k := false) ⟨_, ho, rfl⟩ (typeIs_int s b u) (by decide) F.sub_int_dict F.slot_dict_ne F.slot_int_ne_refl
    (fun _ hq => call_meets F.slot_dict_ne ⟨_, ho, rfl⟩ F.entry_dict_ne (F.args_dict_ne_2 _ _) (dict_ne_int0 l es ep none #[] b u) ⟨ho, hq⟩)
    (fun _ hq => call_meets F.slot_int_ne_refl (typeIs_int s b u) F.entry_int_ne (F.args_int_ne_2 _ _) (int_ne_dict0 b u l (.type "dict") es ep none #[]) ⟨ho, hq⟩)
    (fun _ hq => wpAny_of_eq (rfl : isSame (.ref l) (.int b u) = pure false) hq) (.inr hu) h
theorem EqAt.nil_list {l b : Addr} {items : Array Value} (hl : s.heap.IsList l #[]) (hb : s.heap.IsList b items) (hu : A.units < cLine) : EqAt A s (.ref l) (.ref b) (items.size == 0) := by
  by_cases e : l = b
  · subst e
    obtain ⟨⟨c1, d1, t1, z1⟩, ho, hc, n, hd⟩ := id hl
    obtain ⟨⟨c2, d2, t2, z2⟩, ho2, hc2, n2, hd2⟩ := id hb
    rw [ho] at ho2
    cases ho2
    simp only at hd hd2
    rw [hd] at hd2
    cases hd2
    exact EqAt.same _
  · refine EqAt.of_refs e ?_
    by_cases z : items.size = 0
    · have := RcAt.lists (A := A) (e := fun _ => true) hl hb (by rw [z]; rfl) hu (fun j h1 _ => absurd h1 (Nat.not_lt_zero _))
      rw [z]
      exact this
    · rw [show (items.size == 0) = false from beq_eq_false_iff_ne.mpr z]
      exact RcAt.lists_lengths hl hb (bne_iff_ne.mpr (fun h => z h.symm)) hu
theorem EqAt.nil_tuple {l b : Addr} {items : Array Value} (hl : s.heap.IsTuple l #[]) (hb : s.heap.IsTuple b items) (hu : A.units < cLine) : EqAt A s (.ref l) (.ref b) (items.size == 0) := by
  by_cases e : l = b
  · subst e
    obtain ⟨⟨c1, d1, t1, z1⟩, ho, hc, n, hd⟩ := id hl
    obtain ⟨⟨c2, d2, t2, z2⟩, ho2, hc2, n2, hd2⟩ := id hb
    rw [ho] at ho2
    cases ho2
    simp only at hd hd2
    rw [hd] at hd2
    cases hd2
    exact EqAt.same _
  · refine EqAt.of_refs e ?_
    have := RcAt.tuples (A := A) (e := fun _ => true) hl hb hu (fun j h1 _ => absurd h1 (Nat.not_lt_zero _))
    by_cases z : items.size = 0
    · have ez : items = #[] := Array.eq_empty_of_size_eq_zero z
      subst ez
      exact this
    · have h0 : ((List.range (min (#[] : Array Value).size items.size)).all (fun _ => true) && (#[] : Array Value).size == items.size) = (items.size == 0) := by
        rw [show (items.size == 0) = false from beq_eq_false_iff_ne.mpr z, show ((#[] : Array Value).size == items.size) = false from beq_eq_false_iff_ne.mpr (fun h => z h.symm), Bool.and_false]
      rw [← h0]
      exact this
end PySem.SeqAt
namespace Fw
open PySem PySem.Spec PyProof.Rows L2
def neX (x y : D) : Option D := match neB x y with
  | some r => some r
  | none => (match x, y with
    | .lst _ _, .int _ => some (.bl true)
    | .tup _, .int _ => some (.bl true)
    | .dic _ _, .int _ => some (.bl true)
    | _, _ => none)
def isEm (xs : List D) : Bool := match xs with
  | [] => true
  | _ => false
def inED (x y : D) : Option D := match x, y with
  | .lst _ xs, .tup [.lst _ [], .tup []] => some (.bl (isEm xs))
  | .tup xs, .tup [.lst _ [], .tup []] => some (.bl (isEm xs))
  | _, _ => none
section
variable {X : Cx} {cA : Str → Addr}
theorem od_neX (hu : X.A.units + 64 < cLine) : OpD cA X (compareOp .NotEq) neX := by
  rintro pins s σ H x y v u Q I rx ry ⟨S, ca, d1, d2, f1, f2, d, sub, r1, r2, hg, k⟩
  unfold neX at hg
  split at hg
  · rename_i r hr
    exact od_neB hu pins s σ H x y v u Q I rx ry ⟨S, ca, d1, d2, f1, f2, d, sub, r1, r2, by rw [hr]; exact hg, k⟩
  · split at hg
    · cases hg
      obtain ⟨p, vs, g, rfl, h1, q1, _⟩ := r1.l sub
      cases r2 with | int i hf =>
      cases rx
      obtain ⟨t, rfl⟩ := ry
      obtain ⟨us, rv, p1, _⟩ := I.list (SqL.of h1)
      exact (SeqAt.RcNeAt.list_int _ _ p1.isList (by omega)) _ _ _ _ ⟨.bl true, H, I, rfl, k.at rp_bl0⟩
    · cases hg
      obtain ⟨p, vs, rfl, h1, q1⟩ := r1.t
      cases r2 with | int i hf =>
      cases rx
      obtain ⟨t, rfl⟩ := ry
      obtain ⟨us, rv, p1, _⟩ := I.tuple h1
      exact (SeqAt.RcNeAt.tuple_int _ _ p1 (by omega)) _ _ _ _ ⟨.bl true, H, I, rfl, k.at rp_bl0⟩
    · cases hg
      have hd : ∃ p vs, x = .ref p ∧ H p = some (.dK vs) := by
        cases r1 with
        | dicO h _ _ _ => exact ⟨_, _, rfl, h⟩
        | dicS h _ _ _ => exact ⟨_, _, rfl, sub _ _ h⟩
      obtain ⟨p, vs, rfl, h1⟩ := hd
      cases r2 with | int i hf =>
      cases rx
      obtain ⟨t, rfl⟩ := ry
      obtain ⟨_, _, _, _, o, es, ep, ho, hx, hdt, _⟩ := (show ObjOk X.prog X.w H s.heap p (.dK vs) from I.hok p _ h1)
      exact (SeqAt.RcNeAt.dict_int _ _ ho hx hdt (by omega)) _ _ _ _ ⟨.bl true, H, I, rfl, k.at rp_bl0⟩
    · cases hg
theorem od_inE (hu : X.A.units + 65 < cLine) : OpD cA X (compareOp .In) inED := by
  rintro pins s σ H x y v u Q I rx ry ⟨S, ca, d1, d2, f1, f2, d, sub, r1, r2, hg, k⟩
  unfold inED at hg
  have hr : ∀ {o : Bool} {f2 : Fp}, Rp X.K cA S H ca (.tup [.lst o [], .tup []]) y f2 → ∃ p p1 p2, y = .ref p ∧ SqT X.K H p [.ref p1, .ref p2] ∧ H p1 = some (.lst []) ∧ SqT X.K H p2 [] := fun r => by
    obtain ⟨p, vs, rfl, h1, q⟩ := r.t
    cases q with
    | cons a b _ =>
      cases b with
      | cons c e _ =>
        cases e
        obtain ⟨p1, vs1, _, rfl, h2, q2, _⟩ := a.l sub
        obtain ⟨p2, vs2, rfl, h3, q3⟩ := c.t
        cases q2
        cases q3
        exact ⟨p, p1, p2, rfl, h1, h2, h3⟩
  split at hg
  · rename_i o xs o2
    cases hg
    obtain ⟨p, p1, p2, rfl, hp, hp1, hp2⟩ := hr r2
    obtain ⟨q, ws, _, rfl, hq, rq, _⟩ := r1.l sub
    cases rx
    cases ry
    obtain ⟨its, rv, pl, _⟩ := I.tuple hp
    obtain ⟨i1, rv1, pl1, _⟩ := I.list (SqL.of hp1)
    obtain ⟨i2, rv2, pl2, _⟩ := I.tuple hp2
    obtain ⟨i3, rv3, pl3, _⟩ := I.list (SqL.of hq)
    cases rv1
    cases rv2
    cases rv with | cons a1 b1 =>
    cases b1 with | cons a2 b2 =>
    cases b2
    cases a1
    cases a2
    have ne := SeqAt.ne_of_list_tuple pl1.isList pl2
    have hz : (i3.toArray.size == 0) = isEm xs := by
      rw [List.size_toArray, ← rv3.length, rq.length]
      cases xs <;> rfl
    refine SeqAt.in_tupleAt (fun y => match y with | .ref a => decide (a = p1) && isEm xs | _ => false) pl (fun w hw => ?_) ⟨.bl (isEm xs), H, I, ?_, k.at rp_bl0⟩
    · have hw : w = .ref p1 ∨ w = .ref p2 := by simpa using hw
      rcases hw with rfl | rfl
      · have := SeqAt.EqAt.nil_list (A := X.A.in1) pl1.isList pl3.isList (by show X.A.units + 1 < cLine; omega)
        rw [hz] at this
        simpa using this
      · have := SeqAt.EqAt.tuple_list (A := X.A.in1) pl2 pl3.isList (by show X.A.units + 1 < cLine; omega)
        simpa [Ne.symm ne] using this
    · simp [Ne.symm ne]
      exact rfl
  · rename_i xs o2
    cases hg
    obtain ⟨p, p1, p2, rfl, hp, hp1, hp2⟩ := hr r2
    obtain ⟨q, ws, rfl, hq, rq⟩ := r1.t
    cases rx
    cases ry
    obtain ⟨its, rv, pl, _⟩ := I.tuple hp
    obtain ⟨i1, rv1, pl1, _⟩ := I.list (SqL.of hp1)
    obtain ⟨i2, rv2, pl2, _⟩ := I.tuple hp2
    obtain ⟨i3, rv3, pl3, _⟩ := I.tuple hq
    cases rv1
    cases rv2
    cases rv with | cons a1 b1 =>
    cases b1 with | cons a2 b2 =>
    cases b2
    cases a1
    cases a2
    have ne := SeqAt.ne_of_list_tuple pl1.isList pl2
    have hz : (i3.toArray.size == 0) = isEm xs := by
      rw [List.size_toArray, ← rv3.length, rq.length]
      cases xs <;> rfl
    refine SeqAt.in_tupleAt (fun y => match y with | .ref a => decide (a = p2) && isEm xs | _ => false) pl (fun w hw => ?_) ⟨.bl (isEm xs), H, I, ?_, k.at rp_bl0⟩
    · have hw : w = .ref p1 ∨ w = .ref p2 := by simpa using hw
      rcases hw with rfl | rfl
      · have := SeqAt.EqAt.list_tuple (A := X.A.in1) pl1.isList pl3 (by show X.A.units + 1 < cLine; omega)
        simpa [ne] using this
      · have := SeqAt.EqAt.nil_tuple (A := X.A.in1) pl2 pl3 (by show X.A.units + 1 < cLine; omega)
        rw [hz] at this
        simpa using this
    · simp [ne]
      exact rfl
  · cases hg
end
end Fw

set_option Elab.async false
set_option linter.all false
set_option maxRecDepth 100000
namespace Fw
open PySem PySem.Spec PyProof.Rows L2
/-! _next_row -/
def m__next_row : Ms := (mSeq (mSet 3 (mLst (mCons (mC (.int 0)) mNil)))
  (mSeq (mFor (mEnum (mVar 2)) (bTup 2 (bsCons (bName 4) (bsCons (bName 5) bsNil))) (mExpr (mMt 3 gAppend (mCons (mIf (mBin eqB (.nm 5) (.nm 1)) (mBin addD (.ex (mIx (.nm 0) (.nm 4))) (.ex (mC (.int 1)))) (mFn2 max2D (mCons (mIx (.nm 0) (.ex (mBin addD (.nm 4) (.ex (mC (.int 1)))))) (mCons (mAlt (mIx (.nm 3) (.nm 4)) (mIx (.ex (mVar 3)) (.nm 4))) mNil)))) mNil))))
  (mRet (mMv 3))))
def f__next_row : Fn := mBody 6 m__next_row
/-! _law_bag -/
def m__law_bag : Ms := (mRet (mLst (mCons (mC (.int 0)) (mCons (mC (.int 1234567891)) (mCons (mC (.int 0)) (mCons (mLc (mIt (mSl (.nm 0) none (some (mC (.int 63))))) [1] (bName 1) (mC (.bl true)) (mUn absD (.nm 1))) mNil))))))
def f__law_bag : Fn := mBody 2 m__law_bag
/-! _law_take -/
def m__law_take : Ms := (mSeq (mIte (mBin eqB (.ex (mIx (.nm 0) (.ex (mC (.int 0))))) (.ex (mC (.int 0)))) (mSeq (mSet 2 (mC (.int 0)))
  (mSeq (mIte (mBin ltD (.ex (mIx (.nm 0) (.ex (mC (.int 2))))) (.ex (mUn lenD (.ex (mIx (.nm 0) (.ex (mC (.int 3)))))))) (mSet 2 (mLk (.ix (.ix (.nm 0) (.int 3)) (.ix (.nm 0) (.int 2))))) mSkip)
  (mSeq (mAugI 0 (.ex (mC (.int 2))) addI (mC (.int 1)))
  (mSeq (mIte (mBin geD (.nm 2) (.ex (mC (.int 1000000000000000000)))) (mStoreI 0 (.ex (mC (.int 0))) (mVar 2)) mSkip)
  (mStoreI 0 (.ex (mC (.int 1))) (mBin modD (.ex (mBin addD (.ex (mBin addD (.ex (mBin mulD (.ex (mIx (.nm 0) (.ex (mC (.int 1))))) (.ex (mC (.int 48271))))) (.ex (mBin modD (.nm 2) (.ex (mC (.int 2147483647))))))) (.ex (mBin mulD (.ex (mC (.int 7919))) (.ex (mIx (.nm 0) (.ex (mC (.int 2))))))))) (.ex (mC (.int 2147483647))))))))) mSkip)
  (mSeq (mIte (mBin gtD (.ex (mIx (.nm 0) (.ex (mC (.int 0))))) (.ex (mC (.int 0)))) (mSeq (mSet 3 (mBin modD (.ex (mIx (.nm 0) (.ex (mC (.int 0))))) (.nm 1)))
  (mSeq (mStoreI 0 (.ex (mC (.int 0))) (mBin fdivD (.ex (mIx (.nm 0) (.ex (mC (.int 0))))) (.nm 1)))
  (mRet (mMv 3)))) mSkip)
  (mSeq (mSet 4 (mBin modD (.ex (mBin mulD (.ex (mBin addD (.ex (mIx (.nm 0) (.ex (mC (.int 1))))) (.ex (mC (.int 1))))) (.ex (mC (.int 39373))))) (.ex (mC (.int 1000000007)))))
  (mSeq (mSet 5 (mBin modD (.ex (mBin mulD (.ex (mBin modD (.ex (mBin mulD (.nm 4) (.nm 4))) (.ex (mC (.int 998244353))))) (.ex (mC (.int 30011))))) (.ex (mC (.int 998244353)))))
  (mSeq (mIte (mBin gtD (.nm 1) (.ex (mC (.int 1000000)))) (mRet (mBin modD (.ex (mBin addD (.ex (mBin mulD (.nm 5) (.ex (mC (.int 1000000007))))) (.nm 4))) (.nm 1))) mSkip)
  (mRet (mBin modD (.ex (mBin fdivD (.nm 5) (.ex (mC (.int 7))))) (.nm 1))))))))
def f__law_take : Fn := mBody 6 m__law_take
/-! _law_alike -/
def m__law_alike : Ms := (mRet (mAnd (mBin eqB (.nm 0) (.nm 1)) (mBin eqB (.ex (mUn reprD (.nm 0))) (.ex (mUn reprD (.nm 1))))))
def f__law_alike : Fn := mBody 2 m__law_alike
/-! _law_fit -/
def m__law_fit : Ms := (mRet (mOr (mBin inB (.ex (mTup (mCons (mVar 1) (mCons (mVar 2) mNil)))) (.ex (mBin dkF (.nm 0) (.ex (mC (.str (Str.ofString "pairs"))))))) (mBin inB (.ex (mTup (mCons (mVar 2) (mCons (mVar 1) mNil)))) (.ex (mBin dkF (.nm 0) (.ex (mC (.str (Str.ofString "pairs")))))))))
def f__law_fit : Fn := mBody 3 m__law_fit
/-! _longest -/
def m__longest : Ms := (mSeq (mSet 2 (mLst (mCons (mBin mulD (.ex (mLst (mCons (mC (.int 0)) mNil))) (.ex (mBin addD (.ex (mUn lenD (.nm 1))) (.ex (mC (.int 1)))))) mNil)))
  (mSeq (mFor (mIt (mVar 0)) (bName 3) (mExpr (mMt 2 gAppend (mCons (mCallP 3 f__next_row [(.lk (.ix (.nm 2) (.int (-1)))), (.nm 3), (.nm 1)]) mNil))))
  (mRet (mMv 2))))
def f__longest : Fn := mBody 4 m__longest
/-! _law_names -/
def m__law_names : Ms := (mSeq (mSet 2 (mC (.str (Str.ofString "abcdefghijklmnopqrstuvwxyz"))))
  (mSeq (mAsg (bTup 2 (bsCons (bName 3) (bsCons (bName 4) bsNil))) (mTup (mCons (mCall 2 f__law_take (mCons (mVar 0) (mCons (mC (.int 5)) mNil))) (mCons (mCall 2 f__law_take (mCons (mVar 0) (mCons (mC (.int 26)) mNil))) mNil))))
  (mSeq (mIte (mBin eqB (.nm 3) (.ex (mC (.int 0)))) (mSeq (mSet 5 (mLst (mCons (mC (.str (Str.ofString "come"))) (mCons (mC (.str (Str.ofString "go"))) (mCons (mC (.str (Str.ofString "late"))) (mCons (mC (.str (Str.ofString "cut"))) (mCons (mC (.str (Str.ofString "back"))) (mCons (mC (.str (Str.ofString "line"))) (mCons (mC (.str (Str.ofString "more"))) (mCons (mC (.str (Str.ofString "alike"))) mNil))))))))))
  (mRet (mSl (.ex (mBin addD (.ex (mSl (.nm 5) (some (mBin modD (.nm 4) (.ex (mC (.int 8))))) none)) (.ex (mSl (.nm 5) none (some (mBin modD (.nm 4) (.ex (mC (.int 8))))))))) none (some (mVar 1))))) mSkip)
  (mSeq (mIte (mBin eqB (.nm 3) (.ex (mC (.int 1)))) (mRet (mLc (mRng1 (mCons (mVar 1) mNil)) [6] (bName 6) (mC (.bl true)) (mAlt (mIx (.nm 2) (.ex (mBin modD (.ex (mBin addD (.nm 4) (.ex (mBin mulD (.ex (mC (.int 3))) (.nm 6))))) (.ex (mC (.int 26)))))) (mIx (.ex (mVar 2)) (.ex (mBin modD (.ex (mBin addD (.nm 4) (.ex (mBin mulD (.ex (mC (.int 3))) (.nm 6))))) (.ex (mC (.int 26))))))))) mSkip)
  (mSeq (mIte (mBin eqB (.nm 3) (.ex (mC (.int 2)))) (mRet (mLc (mRng1 (mCons (mVar 1) mNil)) [6] (bName 6) (mC (.bl true)) (mBin mulD (.ex (mAlt (mIx (.nm 2) (.nm 4)) (mIx (.ex (mVar 2)) (.nm 4)))) (.ex (mBin addD (.nm 6) (.ex (mC (.int 1)))))))) mSkip)
  (mSeq (mSet 7 (mJoin (Str.ofString "") (.ex (mLc (mRng1 (mCons (mBin addD (.ex (mC (.int 1))) (.ex (mCall 2 f__law_take (mCons (mVar 0) (mCons (mC (.int 8)) mNil))))) mNil)) [6] (bName 6) (mC (.bl true)) (mAlt (mIx (.nm 2) (.ex (mCall 2 f__law_take (mCons (mVar 0) (mCons (mC (.int 26)) mNil))))) (mIx (.ex (mVar 2)) (.ex (mCall 2 f__law_take (mCons (mVar 0) (mCons (mC (.int 26)) mNil))))))))))
  (mSeq (mSet 8 (mCall 2 f__law_take (mCons (mVar 0) (mCons (mUn lenD (.nm 7)) mNil))))
  (mRet (mLc (mRng1 (mCons (mVar 1) mNil)) [6] (bName 6) (mC (.bl true)) (mBin addD (.ex (mBin addD (.ex (mSl (.nm 7) none (some (mVar 8)))) (.ex (mAlt (mIx (.nm 2) (.ex (mBin modD (.ex (mBin addD (.nm 4) (.ex (mBin mulD (.ex (mC (.int 5))) (.nm 6))))) (.ex (mC (.int 26)))))) (mIx (.ex (mVar 2)) (.ex (mBin modD (.ex (mBin addD (.nm 4) (.ex (mBin mulD (.ex (mC (.int 5))) (.nm 6))))) (.ex (mC (.int 26)))))))))) (.ex (mSl (.nm 7) (some (mBin addD (.nm 8) (.ex (mC (.int 1))))) none))))))))))))
def f__law_names : Fn := mBody 9 m__law_names
/-! _law_line -/
def m__law_line : Ms := (mSeq (mSet 3 (mLst mNil))
  (mSeq (mFor (mRng1 (mCons (mCall 2 f__law_take (mCons (mVar 0) (mCons (mBin addD (.nm 2) (.ex (mC (.int 1)))) mNil))) mNil)) (bName 4) (mSeq (mSet 5 (mIx (.ex (mBin dkF (.nm 1) (.ex (mC (.str (Str.ofString "kinds")))))) (.ex (mCall 2 f__law_take (mCons (mVar 0) (mCons (mUn lenD (.ex (mBin dkF (.nm 1) (.ex (mC (.str (Str.ofString "kinds"))))))) mNil))))))
  (mIte (mNot (mTru (.ex (mUn anyD (.ex (mLcN 3 [6] (bName 6) (mC (.bl true)) (mCallP 3 f__law_fit [(.nm 1), (.nm 5), (.nm 6)]))))))) (mExpr (mMt 3 gAppend (mCons (mVar 5) mNil))) mSkip)))
  (mRet (mMv 3))))
def f__law_line : Fn := mBody 7 m__law_line
/-! distance -/
def m_distance : Ms := (mRet (mBin subD (.ex (mBin addD (.ex (mUn lenD (.nm 0))) (.ex (mUn lenD (.nm 1))))) (.ex (mBin mulD (.ex (mC (.int 2))) (.ex (mIx (.ex (mIx (.ex (mCallP 2 f__longest [(.nm 0), (.nm 1)])) (.ex (mUn negD (.ex (mC (.int 1))))))) (.ex (mUn negD (.ex (mC (.int 1)))))))))))
def f_distance : Fn := mBody 2 m_distance
/-! _law_plan -/
def m__law_plan : Ms := (mSeq (mSet 2 (mBin addD (.ex (mC (.int 1))) (.ex (mCall 2 f__law_take (mCons (mVar 0) (mCons (mIx (.ex (mLst (mCons (mFn2 min2D (mCons (mC (.int 4)) (mCons (mVar 1) mNil))) (mCons (mVar 1) mNil)))) (.ex (mCall 2 f__law_take (mCons (mVar 0) (mCons (mC (.int 2)) mNil))))) mNil))))))
  (mSeq (mPar [3, 4] (mCons (mCall 2 f__law_names (mCons (mVar 0) (mCons (mVar 2) mNil))) (mCons (mLst mNil) mNil)))
  (mSeq (mPar [5, 6] (mCons (mCall 2 f__law_take (mCons (mVar 0) (mCons (mC (.int 6)) mNil))) (mCons (mCall 2 f__law_take (mCons (mVar 0) (mCons (mC (.int 3)) mNil))) mNil)))
  (mSeq (mFor (mRng1 (mCons (mVar 2) mNil)) (bName 7) (mFor (mRng1 (mCons (mBin addD (.nm 7) (.ex (mC (.int 1)))) mNil)) (bName 8) (mSeq (mSet 9 (mOr (mBin eqB (.ex (mBin subD (.nm 7) (.nm 8))) (.ex (mC (.int 1)))) (mAnd (mBin eqB (.nm 5) (.ex (mC (.int 0)))) (mAnd (mBin eqB (.nm 8) (.ex (mC (.int 0)))) (mBin eqB (.nm 7) (.ex (mBin subD (.nm 2) (.ex (mC (.int 1))))))))))
  (mSeq (mSet 10 (mIx (.ex (mLst (mCons (mBin mulD (.ex (mC (.int 4))) (.ex (mUn intD (.nm 9)))) (mCons (mBin mulD (.ex (mC (.int 4))) (.ex (mUn intD (.nm 9)))) (mCons (mC (.int 4)) (mCons (mC (.int 1)) (mCons (mC (.int 2)) (mCons (mC (.int 3)) mNil)))))))) (.nm 5)))
  (mSeq (mIte (mBin eqB (.nm 8) (.nm 7)) (mSet 10 (mIx (.ex (mLst (mCons (mC (.int 0)) (mCons (mC (.int 1)) (mCons (mC (.int 3)) mNil))))) (.nm 6))) mSkip)
  (mIte (mBin ltD (.ex (mCall 2 f__law_take (mCons (mVar 0) (mCons (mC (.int 4)) mNil)))) (.nm 10)) (mSeq (mSet 11 (mIx (.ex (mLst (mCons (mTup (mCons (mAlt (mIx (.nm 3) (.nm 8)) (mIx (.ex (mVar 3)) (.nm 8))) (mCons (mAlt (mIx (.nm 3) (.nm 7)) (mIx (.ex (mVar 3)) (.nm 7))) mNil))) (mCons (mTup (mCons (mAlt (mIx (.nm 3) (.nm 7)) (mIx (.ex (mVar 3)) (.nm 7))) (mCons (mAlt (mIx (.nm 3) (.nm 8)) (mIx (.ex (mVar 3)) (.nm 8))) mNil))) mNil)))) (.ex (mCall 2 f__law_take (mCons (mVar 0) (mCons (mC (.int 2)) mNil))))))
  (mExpr (mMt 4 gInsert (mCons (mCall 2 f__law_take (mCons (mVar 0) (mCons (mBin addD (.ex (mUn lenD (.nm 4))) (.ex (mC (.int 1)))) mNil))) (mCons (mVar 11) mNil))))) mSkip))))))
  (mRet (mDisp [((.inr (Str.ofString "kinds")), (mVar 3)), ((.inr (Str.ofString "pairs")), (mVar 4))]))))))
def f__law_plan : Fn := mBody 12 m__law_plan
/-! _law_two_lines -/
def m__law_two_lines : Ms := (mSeq (mSet 3 (mCall 3 f__law_line (mCons (mVar 0) (mCons (mVar 1) (mCons (mVar 2) mNil)))))
  (mSeq (mSet 4 (mLc (mIt (mVar 3)) [5] (bName 5) (mBin gtD (.ex (mCall 2 f__law_take (mCons (mVar 0) (mCons (mC (.int 3)) mNil)))) (.ex (mC (.int 0)))) (mVar 5)))
  (mSeq (mSet 6 (mCall 2 f__law_take (mCons (mVar 0) (mCons (mBin addD (.ex (mUn lenD (.nm 3))) (.ex (mC (.int 1)))) mNil))))
  (mSeq (mSet 7 (mLst (mCons (mCall 3 f__law_line (mCons (mVar 0) (mCons (mVar 1) (mCons (mVar 2) mNil)))) (mCons (mUn listD (.nm 3)) (mCons (mVar 4) (mCons (mBin addD (.ex (mSl (.nm 3) (some (mVar 6)) none)) (.ex (mSl (.nm 3) none (some (mVar 6))))) (mCons (mUn revD (.nm 4)) mNil)))))))
  (mRet (mTup (mCons (mVar 3) (mCons (mIx (.ex (mVar 7)) (.ex (mCall 2 f__law_take (mCons (mVar 0) (mCons (mC (.int 5)) mNil))))) mNil))))))))
def f__law_two_lines : Fn := mBody 8 m__law_two_lines
/-! is_integer -/
def m_is_integer : Ms := (mRet (mAnd (mUn (isiD "int") (.nm 0)) (mNot (mTru (.ex (mUn (isiD "bool") (.nm 0)))))))
def f_is_integer : Fn := mBody 1 m_is_integer
/-! do_ascend -/
def m_do_ascend : Ms := (mRet (mUn allD (.ex (mLc (mZip (mCons (mVar 0) (mCons (mSl (.nm 0) (some (mC (.int 1))) none) mNil))) [1, 2] (bTup 2 (bsCons (bName 1) (bsCons (bName 2) bsNil))) (mC (.bl true)) (mBin ltD (.nm 1) (.nm 2))))))
def f_do_ascend : Fn := mBody 3 m_do_ascend
/-! _law_longest -/
def m__law_longest : Ms := (mSeq (mSet 2 (mBin mulD (.ex (mLst (mCons (mC (.int 0)) mNil))) (.ex (mBin addD (.ex (mUn lenD (.nm 1))) (.ex (mC (.int 1)))))))
  (mSeq (mFor (mIt (mVar 0)) (bName 3) (mSeq (mSet 4 (mLst (mCons (mC (.int 0)) mNil)))
  (mSeq (mFor (mRng1 (mCons (mUn lenD (.nm 1)) mNil)) (bName 5) (mExpr (mMt 4 gAppend (mCons (mFn2 max3D (mCons (mAlt (mIx (.nm 4) (.nm 5)) (mIx (.ex (mVar 4)) (.nm 5))) (mCons (mAlt (mIx (.nm 2) (.ex (mBin addD (.nm 5) (.ex (mC (.int 1)))))) (mIx (.ex (mVar 2)) (.ex (mBin addD (.nm 5) (.ex (mC (.int 1))))))) (mCons (mBin mulD (.ex (mBin addD (.ex (mAlt (mIx (.nm 2) (.nm 5)) (mIx (.ex (mVar 2)) (.nm 5)))) (.ex (mC (.int 1))))) (.ex (mUn intD (.ex (mBin eqB (.ex (mIx (.nm 1) (.nm 5))) (.nm 3)))))) mNil)))) mNil))))
  (mSet 2 (mVar 4)))))
  (mRet (mAlt (mIx (.nm 2) (.ex (mUn negD (.ex (mC (.int 1)))))) (mIx (.ex (mVar 2)) (.ex (mUn negD (.ex (mC (.int 1))))))))))
def f__law_longest : Fn := mBody 6 m__law_longest
/-! is_index -/
def m_is_index : Ms := (mRet (mAnd (mCallP 1 f_is_integer [(.nm 0)]) (mChain leD ltD (mC (.int 0)) (mVar 0) (mVar 1))))
def f_is_index : Fn := mBody 2 m_is_index
/-! is_kind -/
def m_is_kind : Ms := (mSeq (mIte (mOr (mNot (mTru (.ex (mUn (isiD "str") (.nm 0))))) (mNot (mChain leD leD (mC (.int 1)) (mUn lenD (.nm 0)) (mC (.int 8))))) (mRet (mC (.bl false))) mSkip)
  (mRet (mUn allD (.ex (mLc (mIt (mVar 0)) [1] (bName 1) (mC (.bl true)) (mChain leD leD (mC (.str (Str.ofString "a"))) (mVar 1) (mC (.str (Str.ofString "z")))))))))
def f_is_kind : Fn := mBody 2 m_is_kind
/-! Suits.mates -/
def m_Suits_mates : Ms := (mSeq (mSet 2 (mLc (mIt (mLk (.fld (Str.ofString "Suits") (.nm 0) (Str.ofString "_kinds")))) [3] (bName 3) (mBin inB (.nm 3) (.nm 1)) (mVar 3)))
  (mRet (mLc (mIt (mLk (.fld (Str.ofString "Suits") (.nm 0) (Str.ofString "_kinds")))) [4] (bName 4) (mTru (.ex (mUn anyD (.ex (mLc (mIt (mVar 2)) [3] (bName 3) (mC (.bl true)) (mBin inB (.nm 3) (.ex (mLk (.dk (.fld (Str.ofString "Suits") (.nm 0) (Str.ofString "_mates")) (.nm 4)))))))))) (mVar 4))))
def f_Suits_mates : Fn := mBody 5 m_Suits_mates
/-! _ordered -/
def m__ordered : Ms := (mRet (mIf (mBin leD (.nm 0) (.nm 1)) (mTup (mCons (mVar 0) (mCons (mVar 1) mNil))) (mTup (mCons (mVar 1) (mCons (mVar 0) mNil)))))
def f__ordered : Fn := mBody 2 m__ordered
/-! _mates_of -/
def m__mates_of : Ms := (mRet (mLc (mIt (mVar 1)) [2, 3] (bTup 2 (bsCons (bName 2) (bsCons (bName 3) bsNil))) (mBin inTD (.nm 0) (.ex (mTup (mCons (mVar 2) (mCons (mVar 3) mNil))))) (mIf (mBin eqB (.nm 3) (.nm 0)) (mVar 2) (mVar 3))))
def f__mates_of : Fn := mBody 4 m__mates_of
/-! are_kinds -/
def m_are_kinds : Ms := (mRet (mAnd (mUn (isiD "list") (.nm 0)) (mUn allD (.ex (mLc (mIt (mVar 0)) [1] (bName 1) (mC (.bl true)) (mCallP 1 f_is_kind [(.nm 1)]))))))
def f_are_kinds : Fn := mBody 2 m_are_kinds
/-! _is_pair -/
def m__is_pair : Ms := (mSeq (mIte (mOr (mNot (mTru (.ex (mUn (isiD "tuple") (.nm 1))))) (mBin neB (.ex (mUn lenD (.nm 1))) (.ex (mC (.int 2))))) (mRet (mC (.bl false))) mSkip)
  (mRet (mUn allD (.ex (mLc (mIt (mVar 1)) [2] (bName 2) (mC (.bl true)) (mAnd (mCallP 1 f_is_kind [(.nm 2)]) (mBin inB (.nm 2) (.nm 0))))))))
def f__is_pair : Fn := mBody 3 m__is_pair
/-! _are_names -/
def m__are_names : Ms := (mSeq (mIte (mOr (mNot (mTru (.ex (mUn (isiD "list") (.nm 0))))) (mNot (mChain leD leD (mC (.int 1)) (mUn lenD (.nm 0)) (mC (.int 8))))) (mRet (mC (.bl false))) mSkip)
  (mRet (mAnd (mCallP 1 f_are_kinds [(.nm 0)]) (mBin eqB (.ex (mUn lenSetD (.nm 0))) (.ex (mUn lenD (.nm 0)))))))
def f__are_names : Fn := mBody 1 m__are_names
/-! _ordered_pairs -/
def m__ordered_pairs : Ms := (mSeq (mSet 2 (mLst mNil))
  (mSeq (mFor (mEnum (mVar 1)) (bTup 2 (bsCons (bName 3) (bsCons (bName 4) bsNil))) (mSeq (mIte (mNot (mTru (.ex (mCallP 2 f__is_pair [(.nm 0), (.nm 4)])))) mNever mSkip)
  (mSeq (mSet 5 (mCallP 2 f__ordered [(.lk (.ix (.nm 4) (.int 0))), (.lk (.ix (.nm 4) (.int 1)))]))
  (mSeq (mIte (mBin inB (.nm 5) (.nm 2)) mNever mSkip)
  (mExpr (mMt 2 gAppend (mCons (mVar 5) mNil)))))))
  (mRet (mUn sortedD (.nm 2)))))
def f__ordered_pairs : Fn := mBody 6 m__ordered_pairs
/-! Suits.__init__ -/
def m_Suits___init__ : Ms := (mSeq (mIte (mNot (mTru (.ex (mCallP 1 f__are_names [(.nm 1)])))) mNever mSkip)
  (mSeq (mIte (mOr (mNot (mTru (.ex (mUn (isiD "list") (.nm 2))))) (mBin gtD (.ex (mUn lenD (.nm 2))) (.ex (mC (.int 36))))) mNever mSkip)
  (mSeq (mSet 3 (mCallP 2 f__ordered_pairs [(.nm 1), (.nm 2)]))
  (mSeq (mFldS 0 (Str.ofString "Suits") (Str.ofString "_kinds") (mUn sortedD (.nm 1)))
  (mSeq (mFldS 0 (Str.ofString "Suits") (Str.ofString "_pairs") (mVar 3))
  (mFldS 0 (Str.ofString "Suits") (Str.ofString "_mates") (mDc (mIt (mVar 1)) [4] (bName 4) (mVar 4) (mCallP 2 f__mates_of [(.nm 4), (.nm 3)]))))))))
/-! _law_suits -/
def m__law_suits : Ms := (mRet (mNew (Str.ofString "Suits") 2 (mIni (Str.ofString "Suits") 5 m_Suits___init__) (mCons (mUn listD (.ex (mBin dkF (.nm 0) (.ex (mC (.str (Str.ofString "kinds"))))))) (mCons (mUn listD (.ex (mBin dkF (.nm 0) (.ex (mC (.str (Str.ofString "pairs"))))))) mNil))))
def f__law_suits : Fn := mBody 1 m__law_suits
/-! _is_link -/
def m__is_link : Ms := (mRet (mAnd (mBin neB (.nm 2) (.nm 1)) (mBin eqB (.ex (mIx (.nm 0) (.nm 2))) (.nm 1))))
def f__is_link : Fn := mBody 3 m__is_link
/-! come -/
def m_come : Ms := (mSeq (mSet 3 (mMethP (Str.ofString "Suits") (Str.ofString "mates") 2 f_Suits_mates (.nm 0) [(.ex (mLst (mCons (mVar 2) mNil)))]))
  (mSeq (mFor (mEnum (mVar 1)) (bTup 2 (bsCons (bName 4) (bsCons (bName 5) bsNil))) (mIte (mBin inB (.nm 5) (.nm 3)) (mRet (mTup (mCons (mVar 4) (mCons (mBin addD (.ex (mSl (.nm 1) none (some (mVar 4)))) (.ex (mSl (.nm 1) (some (mBin addD (.nm 4) (.ex (mC (.int 1))))) none))) mNil)))) mSkip))
  (mRet (mTup (mCons (mC .non) (mCons (mBin addD (.nm 1) (.ex (mLst (mCons (mVar 2) mNil)))) mNil))))))
def f_come : Fn := mBody 6 m_come
/-! _law_row -/
def m__law_row : Ms := (mRet (mLc (mRng1 (mCons (mCall 2 f__law_take (mCons (mVar 0) (mCons (mBin addD (.nm 2) (.ex (mC (.int 1)))) mNil))) mNil)) [3] (bName 3) (mC (.bl true)) (mIx (.ex (mBin dkF (.nm 1) (.ex (mC (.str (Str.ofString "kinds")))))) (.ex (mCall 2 f__law_take (mCons (mVar 0) (mCons (mUn lenD (.ex (mBin dkF (.nm 1) (.ex (mC (.str (Str.ofString "kinds"))))))) mNil)))))))
def f__law_row : Fn := mBody 4 m__law_row
/-! _law_run -/
def m__law_run : Ms := (mSeq (mAsg (bTup 2 (bsCons (bName 3) (bsCons (bName 4) bsNil))) (mTup (mCons (mUn enumD (.nm 1)) (mCons (mBin mulD (.ex (mLst (mCons (mC .non) mNil))) (.ex (mUn lenD (.nm 1)))) mNil))))
  (mSeq (mFor (mIt (mVar 2)) (bName 5) (mSeq (mSet 6 (mUn lenD (.nm 4)))
  (mSeq (mExpr (mMt 4 gAppend (mCons (mC .non) mNil)))
  (mSeq (mSet 7 (mLc (mRng1 (mCons (mUn lenD (.nm 3)) mNil)) [9] (bName 9) (mTru (.ex (mCallP 3 f__law_fit [(.nm 0), (.lk (.ix (.ix (.nm 3) (.nm 9)) (.int 1))), (.nm 5)]))) (mVar 9)))
  (mIte (mBin eqB (.nm 7) (.ex (mLst mNil))) (mExpr (mMt 3 gAppend (mCons (mTup (mCons (mVar 6) (mCons (mVar 5) mNil))) mNil))) (mSeq (mSet 8 (mIx (.ex (mMt 3 gPop (mCons (mAlt (mIx (.nm 7) (.ex (mC (.int 0)))) (mIx (.ex (mVar 7)) (.ex (mC (.int 0))))) mNil))) (.ex (mC (.int 0)))))
  (mStore2 4 (.nm 8) (.nm 6) (mTup (mCons (mVar 6) (mCons (mVar 8) mNil))))))))))
  (mRet (mTup (mCons (mMv 3) (mCons (mMv 4) mNil))))))
def f__law_run : Fn := mBody 10 m__law_run
/-! _law_suiting -/
def m__law_suiting : Ms := (mSeq (mSet 3 (mBin mulD (.ex (mLst (mCons (mC .non) mNil))) (.ex (mUn lenD (.nm 2)))))
  (mSeq (mFor (mRng1 (mCons (mUn lenD (.nm 2)) mNil)) (bName 4) (mSeq (mSet 5 (mLc (mRng1 (mCons (mVar 4) mNil)) [7] (bName 7) (mAnd (mBin isND (.ex (mAlt (mIx (.nm 3) (.nm 7)) (mIx (.ex (mVar 3)) (.nm 7)))) (.ex (mC .non))) (mTru (.ex (mCallP 3 f__law_fit [(.nm 1), (.lk (.ix (.nm 2) (.nm 7))), (.lk (.ix (.nm 2) (.nm 4)))])))) (mVar 7)))
  (mIte (mAnd (mBin neB (.nm 5) (.ex (mLst mNil))) (mBin gtD (.ex (mCall 2 f__law_take (mCons (mVar 0) (mCons (mC (.int 5)) mNil)))) (.ex (mC (.int 0))))) (mSeq (mSet 6 (mAlt (mIx (.nm 5) (.ex (mCall 2 f__law_take (mCons (mVar 0) (mCons (mUn lenD (.nm 5)) mNil))))) (mIx (.ex (mVar 5)) (.ex (mCall 2 f__law_take (mCons (mVar 0) (mCons (mUn lenD (.nm 5)) mNil)))))))
  (mStore2 3 (.nm 4) (.nm 6) (mTup (mCons (mVar 6) (mCons (mVar 4) mNil))))) mSkip)))
  (mRet (mMv 3))))
def f__law_suiting : Fn := mBody 8 m__law_suiting
/-! partners -/
def m_partners : Ms := (mSeq (mSet 3 (mBin mulD (.ex (mLst (mCons (mC .non) mNil))) (.ex (mBin addD (.ex (mUn lenD (.nm 1))) (.ex (mUn lenD (.nm 2)))))))
  (mSeq (mSet 4 (mLR1 (mUn lenD (.nm 1))))
  (mSeq (mSet 5 (mVar 1))
  (mSeq (mFor (mEnumK (mVar 2) (mUn lenD (.nm 1))) (bTup 2 (bsCons (bName 6) (bsCons (bName 7) bsNil))) (mSeq (mAsg (bTup 2 (bsCons (bName 8) (bsCons (bName 5) bsNil))) (mCallP 3 f_come [(.nm 0), (.nm 5), (.nm 7)]))
  (mIte (mBin isND (.nm 8) (.ex (mC .non))) (mExpr (mMt 4 gAppend (mCons (mVar 6) mNil))) (mSeq (mSet 9 (mMt 4 gPop (mCons (mVar 8) mNil)))
  (mSeq (mStoreI 3 (.nm 9) (mVar 6))
  (mStoreI 3 (.nm 6) (mVar 9)))))))
  (mRet (mMv 3))))))
def f_partners : Fn := mBody 10 m_partners
/-! are_links -/
def m_are_links : Ms := (mSeq (mIte (mOr (mNot (mTru (.ex (mUn (isiD "list") (.nm 1))))) (mBin neB (.ex (mUn lenD (.nm 1))) (.ex (mUn lenD (.nm 0))))) (mRet (mC (.bl false))) mSkip)
  (mSeq (mIte (mNot (mTru (.ex (mUn allD (.ex (mLc (mIt (mVar 1)) [2] (bName 2) (mC (.bl true)) (mOr (mBin isND (.nm 2) (.ex (mC .non))) (mCallP 2 f_is_index [(.nm 2), (.ex (mUn lenD (.nm 0)))])))))))) (mRet (mC (.bl false))) mSkip)
  (mRet (mUn allD (.ex (mLc (mEnum (mVar 1)) [2, 3] (bTup 2 (bsCons (bName 3) (bsCons (bName 2) bsNil))) (mC (.bl true)) (mOr (mBin isND (.nm 2) (.ex (mC .non))) (mCallP 3 f__is_link [(.nm 1), (.nm 3), (.nm 2)]))))))))
def f_are_links : Fn := mBody 4 m_are_links
/-! are_right -/
def m_are_right : Ms := (mRet (mAnd (mCallP 2 f_are_links [(.nm 1), (.nm 2)]) (mBin eqB (.nm 2) (.ex (mCallP 3 f_partners [(.nm 0), (.ex (mLst mNil)), (.nm 1)])))))
def f_are_right : Fn := mBody 3 m_are_right
/-! _law_stirred -/
def m__law_stirred : Ms := (mSeq (mSet 4 (mBin dkF (.nm 1) (.ex (mC (.str (Str.ofString "kinds"))))))
  (mSeq (mExpr (mMt 3 gAppend (mCons (mAlt (mIx (.nm 4) (.ex (mCall 2 f__law_take (mCons (mVar 0) (mCons (mUn lenD (.nm 4)) mNil))))) (mIx (.ex (mVar 4)) (.ex (mCall 2 f__law_take (mCons (mVar 0) (mCons (mUn lenD (.nm 4)) mNil)))))) mNil)))
  (mSeq (mStoreI 3 (.ex (mCall 2 f__law_take (mCons (mVar 0) (mCons (mUn lenD (.nm 3)) mNil)))) (mAlt (mIx (.nm 4) (.ex (mCall 2 f__law_take (mCons (mVar 0) (mCons (mUn lenD (.nm 4)) mNil))))) (mIx (.ex (mVar 4)) (.ex (mCall 2 f__law_take (mCons (mVar 0) (mCons (mUn lenD (.nm 4)) mNil)))))))
  (mIte (mBin neB (.nm 2) (.ex (mLst mNil))) (mExpr (mMt 2 gPop (mCons (mCall 2 f__law_take (mCons (mVar 0) (mCons (mUn lenD (.nm 2)) mNil))) mNil))) mSkip))))
def f__law_stirred : Fn := mBody 5 m__law_stirred
/-! _law_long -/
def m__law_long : Ms := (mSeq (mIte (mBin gtD (.ex (mCall 2 f__law_take (mCons (mVar 0) (mCons (mC (.int 6)) mNil)))) (.ex (mC (.int 0)))) (mRet (mTup (mCons (mCall 3 f__law_line (mCons (mVar 0) (mCons (mVar 1) (mCons (mC (.int 12)) mNil)))) (mCons (mCall 3 f__law_row (mCons (mVar 0) (mCons (mVar 1) (mCons (mVar 2) mNil)))) mNil)))) mSkip)
  (mSeq (mSet 3 (mCall 3 f__law_line (mCons (mVar 0) (mCons (mVar 1) (mCons (mC (.int 20)) mNil)))))
  (mSeq (mIte (mAnd (mBin neB (.nm 3) (.ex (mLst mNil))) (mNot (mTru (.ex (mCallP 3 f__law_fit [(.nm 1), (.lk (.ix (.nm 3) (.int 0))), (.lk (.ix (.nm 3) (.int 0)))]))))) (mSet 3 (mBin addD (.ex (mBin mulD (.ex (mLst (mCons (mAlt (mIx (.nm 3) (.ex (mC (.int 0)))) (mIx (.ex (mVar 3)) (.ex (mC (.int 0))))) mNil))) (.ex (mIx (.ex (mLst (mCons (mBin addD (.ex (mC (.int 1))) (.ex (mCall 2 f__law_take (mCons (mVar 0) (mCons (mC (.int 180)) mNil))))) (mCons (mBin subD (.ex (mC (.int 201))) (.ex (mUn lenD (.nm 3)))) mNil)))) (.ex (mCall 2 f__law_take (mCons (mVar 0) (mCons (mC (.int 2)) mNil)))))))) (.ex (mSl (.nm 3) (some (mC (.int 1))) none)))) mSkip)
  (mRet (mTup (mCons (mVar 3) (mCons (mSl (.ex (mBin mulD (.ex (mCall 3 f__law_row (mCons (mVar 0) (mCons (mVar 1) (mCons (mC (.int 60)) mNil))))) (.ex (mC (.int 4))))) none (some (mC (.int 200)))) mNil)))))))
def f__law_long : Fn := mBody 4 m__law_long
/-! _law_by_persons -/
def m__law_by_persons : Ms := (mSeq (mPar [3, 4] (mCons (mLst mNil) (mCons (mLR1 (mUn lenD (.nm 2))) mNil)))
  (mSeq (mFor (mIt (mVar 1)) (bName 5) (mSeq (mSet 6 (mLc (mIt (mVar 4)) [7] (bName 7) (mTru (.ex (mCallP 3 f__law_fit [(.nm 0), (.lk (.ix (.nm 2) (.nm 7))), (.nm 5)]))) (mVar 7)))
  (mSeq (mExpr (mMt 3 gAppend (mCons (mIx (.ex (mBin addD (.nm 6) (.ex (mLst (mCons (mC .non) mNil))))) (.ex (mC (.int 0)))) mNil)))
  (mSet 4 (mLc (mIt (mVar 4)) [7] (bName 7) (mBin niB (.nm 7) (.ex (mSl (.nm 6) none (some (mC (.int 1)))))) (mVar 7))))))
  (mRet (mMv 3))))
def f__law_by_persons : Fn := mBody 8 m__law_by_persons
/-! _law_by_newcomers -/
def m__law_by_newcomers : Ms := (mSeq (mPar [3, 4] (mCons (mLst mNil) (mCons (mLR1 (mUn lenD (.nm 1))) mNil)))
  (mSeq (mFor (mIt (mVar 2)) (bName 5) (mSeq (mSet 6 (mLc (mIt (mVar 4)) [7] (bName 7) (mTru (.ex (mCallP 3 f__law_fit [(.nm 0), (.lk (.ix (.nm 1) (.nm 7))), (.nm 5)]))) (mVar 7)))
  (mSeq (mExpr (mMt 3 gAppend (mCons (mIx (.ex (mBin addD (.nm 6) (.ex (mLst (mCons (mC .non) mNil))))) (.ex (mC (.int 0)))) mNil)))
  (mSet 4 (mLc (mIt (mVar 4)) [7] (bName 7) (mBin niB (.nm 7) (.ex (mSl (.nm 6) none (some (mC (.int 1)))))) (mVar 7))))))
  (mRet (mMv 3))))
def f__law_by_newcomers : Fn := mBody 8 m__law_by_newcomers
/-! by_newcomers -/
def m_by_newcomers : Ms := (mSeq (mSet 3 (mUn lenD (.nm 1)))
  (mSeq (mSet 4 (mSl (.ex (mCallP 3 f_partners [(.nm 0), (.nm 1), (.nm 2)])) (some (mVar 3)) none))
  (mRet (mLc (mIt (mVar 4)) [5] (bName 5) (mC (.bl true)) (mIf (mOr (mBin isND (.nm 5) (.ex (mC .non))) (mBin geD (.nm 5) (.nm 3))) (mC .non) (mVar 5))))))
def f_by_newcomers : Fn := mBody 6 m_by_newcomers
/-! by_persons -/
def m_by_persons : Ms := (mSeq (mSet 3 (mUn lenD (.nm 1)))
  (mSeq (mSet 4 (mSl (.ex (mCallP 3 f_partners [(.nm 0), (.nm 1), (.nm 2)])) none (some (mVar 3))))
  (mRet (mLc (mIt (mVar 4)) [5] (bName 5) (mC (.bl true)) (mIf (mBin isND (.nm 5) (.ex (mC .non))) (mC .non) (mBin subD (.nm 5) (.nm 3)))))))
def f_by_persons : Fn := mBody 6 m_by_persons
/-! _first_of -/
def m__first_of : Ms := (mSeq (mSet 3 (mLc (mIt (mVar 0)) [4] (bName 4) (mBin ltD (.ex (mLk (.dk (.nm 2) (.nm 4)))) (.ex (mUn lenD (.ex (mLk (.dk (.nm 1) (.nm 4))))))) (mTup (mCons (mLk (.ix (.dk (.nm 1) (.nm 4)) (.dk (.nm 2) (.nm 4)))) (mCons (mVar 4) mNil)))))
  (mRet (mIf (mTru (.nm 3)) (mIx (.ex (mUn minP (.nm 3))) (.ex (mC (.int 1)))) (mC .non))))
def f__first_of : Fn := mBody 5 m__first_of
/-! Suits.kinds -/
def m_Suits_kinds : Ms := (mRet (mUn listD (.ex (mLk (.fld (Str.ofString "Suits") (.nm 0) (Str.ofString "_kinds"))))))
def f_Suits_kinds : Fn := mBody 1 m_Suits_kinds
/-! _law_places -/
def m__law_places : Ms := (mSeq (mSet 1 (mLst mNil))
  (mSeq (mFor (mRng1 (mCons (mVar 0) mNil)) (bName 2) (mExpr (mMt 1 gExtend (mCons (mLc (mRng1 (mCons (mVar 2) mNil)) [3] (bName 3) (mC (.bl true)) (mTup (mCons (mVar 3) (mCons (mVar 2) mNil)))) mNil))))
  (mRet (mMv 1))))
def f__law_places : Fn := mBody 4 m__law_places
/-! after -/
def m_after : Ms := (mSeq (mSet 3 (mDc (mIt (mMethP (Str.ofString "Suits") (Str.ofString "kinds") 1 f_Suits_kinds (.nm 0) [])) [4] (bName 4) (mVar 4) (mMethP (Str.ofString "Suits") (Str.ofString "mates") 2 f_Suits_mates (.nm 0) [(.ex (mLst (mCons (mVar 4) mNil)))])))
  (mSeq (mSet 5 (mDcN 3 [4] (bName 4) (mVar 4) (mLst mNil)))
  (mSeq (mSet 6 (mDcN 3 [4] (bName 4) (mVar 4) (mC (.int 0))))
  (mSeq (mFor (mEnum (mVar 1)) (bTup 2 (bsCons (bName 7) (bsCons (bName 4) bsNil))) (mExpr (mDapp 5 4 7)))
  (mSeq (mFor (mEnumK (mVar 2) (mUn lenD (.nm 1))) (bTup 2 (bsCons (bName 7) (bsCons (bName 4) bsNil))) (mSeq (mSet 8 (mCallP 3 f__first_of [(.lk (.dk (.nm 3) (.nm 4))), (.nm 5), (.nm 6)]))
  (mIte (mBin isND (.nm 8) (.ex (mC .non))) (mExpr (mDapp 5 4 7)) (mDaug 6 8 1))))
  (mSeq (mSet 9 (mBin addD (.nm 1) (.nm 2)))
  (mSeq (mSet 10 (mFlatD 5 6 [4, 7] 4 7))
  (mRet (mLc (mIt (mUn sortedG (.nm 10))) [7] (bName 7) (mC (.bl true)) (mAlt (mIx (.nm 9) (.nm 7)) (mIx (.ex (mVar 9)) (.nm 7))))))))))))
def f_after : Fn := mBody 11 m_after
/-! _law_mates -/
def m__law_mates : Ms := (mRet (mUn sortedD (.ex (mLc (mIt (mBin dkF (.nm 0) (.ex (mC (.str (Str.ofString "kinds")))))) [2] (bName 2) (mTru (.ex (mUn anyD (.ex (mLc (mIt (mVar 1)) [3] (bName 3) (mC (.bl true)) (mCallP 3 f__law_fit [(.nm 0), (.nm 2), (.nm 3)])))))) (mVar 2)))))
def f__law_mates : Fn := mBody 4 m__law_mates
/-! _law_like -/
def m__law_like : Ms := (mSeq (mSet 3 (mUn listD (.nm 2)))
  (mSeq (mFor (mRng1 (mCons (mCall 2 f__law_take (mCons (mVar 0) (mCons (mC (.int 4)) mNil))) mNil)) (bName 4) (mSeq (mPar [5, 6] (mCons (mCall 2 f__law_take (mCons (mVar 0) (mCons (mBin addD (.ex (mUn lenD (.nm 3))) (.ex (mC (.int 1)))) mNil))) (mCons (mCall 2 f__law_take (mCons (mVar 0) (mCons (mC (.int 3)) mNil))) mNil)))
  (mIte (mBin eqB (.nm 6) (.ex (mC (.int 0)))) (mSet 3 (mBin addD (.ex (mBin addD (.ex (mSl (.nm 3) none (some (mVar 5)))) (.ex (mUn revD (.ex (mSl (.nm 3) (some (mVar 5)) (some (mBin addD (.nm 5) (.ex (mC (.int 2))))))))))) (.ex (mSl (.nm 3) (some (mBin addD (.nm 5) (.ex (mC (.int 2))))) none)))) (mIte (mAnd (mBin eqB (.nm 6) (.ex (mC (.int 1)))) (mAnd (mBin gtD (.ex (mUn lenD (.nm 3))) (.ex (mBin addD (.nm 5) (.ex (mC (.int 1)))))) (mTru (.ex (mCallP 3 f__law_fit [(.nm 1), (.lk (.ix (.nm 3) (.nm 5))), (.lk (.ix (.nm 3) (.add (.nm 5) (.int 1))))]))))) (mSet 3 (mBin addD (.ex (mSl (.nm 3) none (some (mVar 5)))) (.ex (mSl (.nm 3) (some (mBin addD (.nm 5) (.ex (mC (.int 2))))) none)))) (mIte (mAnd (mBin eqB (.nm 6) (.ex (mC (.int 2)))) (mBin neB (.ex (mBin dkF (.nm 1) (.ex (mC (.str (Str.ofString "pairs")))))) (.ex (mLst mNil)))) (mSet 3 (mBin addD (.ex (mBin addD (.ex (mSl (.nm 3) none (some (mVar 5)))) (.ex (mUn listD (.ex (mIx (.ex (mBin dkF (.nm 1) (.ex (mC (.str (Str.ofString "pairs")))))) (.ex (mCall 2 f__law_take (mCons (mVar 0) (mCons (mUn lenD (.ex (mBin dkF (.nm 1) (.ex (mC (.str (Str.ofString "pairs"))))))) mNil)))))))))) (.ex (mSl (.nm 3) (some (mVar 5)) none)))) mSkip)))))
  (mRet (mMv 3))))
def f__law_like : Fn := mBody 7 m__law_like
/-! separates -/
def m_separates : Ms := (mRet (mBin neB (.ex (mCallP 3 f_after [(.nm 0), (.nm 3), (.nm 1)])) (.ex (mCallP 3 f_after [(.nm 0), (.nm 3), (.nm 2)]))))
def f_separates : Fn := mBody 4 m_separates
/-! _law_is_calm -/
def m__law_is_calm : Ms := (mRet (mBin eqB (.ex (mLc (mIt (mCallP 2 f__law_mates [(.nm 0), (.nm 1)])) [2] (bName 2) (mBin inB (.nm 2) (.nm 1)) (mVar 2))) (.ex (mLst mNil))))
def f__law_is_calm : Fn := mBody 3 m__law_is_calm
/-! _law_few -/
def m__law_few : Ms := (mSeq (mSet 2 (mCall 2 f__law_plan (mCons (mVar 0) (mCons (mVar 1) mNil))))
  (mSeq (mIte (mBin eqB (.ex (mCall 2 f__law_take (mCons (mVar 0) (mCons (mC (.int 2)) mNil)))) (.ex (mC (.int 0)))) (mSeq (mSet 3 (mLc (mIt (mBin dkF (.nm 2) (.ex (mC (.str (Str.ofString "pairs")))))) [5] (bName 5) (mBin eqB (.ex (mAlt (mIx (.nm 5) (.ex (mC (.int 0)))) (mIx (.ex (mVar 5)) (.ex (mC (.int 0)))))) (.ex (mAlt (mIx (.nm 5) (.ex (mC (.int 1)))) (mIx (.ex (mVar 5)) (.ex (mC (.int 1))))))) (mVar 5)))
  (mSeq (mSet 4 (mBin dkF (.nm 2) (.ex (mC (.str (Str.ofString "kinds"))))))
  (mDset 2 (Str.ofString "pairs") (mBin addD (.nm 3) (.ex (mLc (mIt (mCallP 1 f__law_places [(.ex (mUn lenD (.nm 4)))])) [6, 7] (bTup 2 (bsCons (bName 6) (bsCons (bName 7) bsNil))) (mC (.bl true)) (mTup (mCons (mAlt (mIx (.nm 4) (.nm 6)) (mIx (.ex (mVar 4)) (.nm 6))) (mCons (mAlt (mIx (.nm 4) (.nm 7)) (mIx (.ex (mVar 4)) (.nm 7))) mNil))))))))) mSkip)
  (mRet (mMv 2))))
def f__law_few : Fn := mBody 8 m__law_few
/-! parted -/
def m_parted : Ms := (mSeq (mSet 3 (mCallP 3 f_by_persons [(.nm 0), (.nm 1), (.nm 2)]))
  (mSeq (mSet 4 (mCallP 3 f_by_newcomers [(.nm 0), (.nm 1), (.nm 2)]))
  (mSeq (mSet 5 (mLc (mZip (mCons (mVar 1) (mCons (mVar 3) mNil))) [6, 7] (bTup 2 (bsCons (bName 6) (bsCons (bName 7) bsNil))) (mBin isND (.nm 7) (.ex (mC .non))) (mVar 6)))
  (mSeq (mSet 8 (mLc (mZip (mCons (mVar 2) (mCons (mVar 4) mNil))) [6, 9] (bTup 2 (bsCons (bName 6) (bsCons (bName 9) bsNil))) (mBin isND (.nm 9) (.ex (mC .non))) (mVar 6)))
  (mRet (mTup (mCons (mMv 5) (mCons (mMv 8) mNil))))))))
def f_parted : Fn := mBody 10 m_parted
end Fw

set_option Elab.async false
set_option linter.all false
set_option maxRecDepth 100000
namespace Fw
open PySem PySem.Spec PyProof.Rows L2
def bagD (a b c : Int) (xs : List Int) : D := .lst true [.int a, .int b, .int c, .lst false (xs.map .int)]
theorem eqB_int (i j : Int) : eqB (.int i) (.int j) = some (.bl (decide (i = j))) := by
  have h : eqD (.int i) (.int j) = some (decide (i = j)) := by
    unfold eqD
    simp only [D.pd]
    have s : ∀ k, SeqAt.shaped (.int k) = true := fun k => rfl
    rw [if_pos ⟨s i, s j⟩]
    simp only [PyData.eqv, Option.some.injEq]
    by_cases e : i = j
    · subst e; simp
    · rw [decide_eq_false e]; exact beq_eq_false_iff_ne.mpr e
  simp [eqB, eqD2, h]
theorem mulD_l {i j : Int} (h : -(2 ^ 64) < i ∧ i < 2 ^ 64) : mulD (.int i) (.int j) = some (.int (i * j)) := by
  exact if_pos (by unfold mulOk; rw [Bool.or_eq_true]; exact .inl (decide_eq_true (.inl h)))
theorem mulD_r {i j : Int} (h : -(2 ^ 64) < j ∧ j < 2 ^ 64) : mulD (.int i) (.int j) = some (.int (i * j)) := by
  exact if_pos (by unfold mulOk; rw [Bool.or_eq_true]; exact .inl (decide_eq_true (.inr h)))
theorem modD_l {i j : Int} (h : 0 < j) : modD (.int i) (.int j) = some (.int (i % j)) := by
  unfold modD
  exact if_pos h
theorem fdivD_l {i j : Int} (h : 0 < j ∧ j < 1073741824) : fdivD (.int i) (.int j) = some (.int (i / j)) := by
  unfold fdivD
  exact if_pos h
theorem ixD_map {o : Bool} {xs : List Int} {c : Int} (h0 : 0 ≤ c) (h1 : c < xs.length) : ∃ x, x ∈ xs ∧ ixD (.lst o (xs.map .int)) (.int c) = some (.int x) := by
  have hl : c.toNat < xs.length := by omega
  refine ⟨xs[c.toNat], List.getElem_mem hl, ?_⟩
  unfold ixD atD ixN
  dsimp only
  rw [if_pos h0, if_pos (by rw [List.length_map]; exact h1)]
  show (xs.map D.int)[c.toNat]? = _
  rw [List.getElem?_map, List.getElem?_eq_getElem hl]
  rfl
local macro_rules | `(tactic| w_fin) => `(tactic| ((first | (with_reducible refine W_seq ?_) | (with_reducible refine W_ite ?_) | (with_reducible refine Nx_nx ?_) | (with_reducible refine Nx_rt ?_) | (with_reducible refine Br_t ?_) | (with_reducible refine Br_f ?_) | (with_reducible refine W_skip ?_) | (with_reducible refine W_set ?_) | (with_reducible refine W_ret ?_) | (with_reducible refine W_bin ?_) | (with_reducible refine W_un ?_) | (with_reducible refine W_c ?_) | (with_reducible refine W_xx ?_) | (with_reducible refine W_xn ?_) | (with_reducible refine W_ox ?_) | (with_reducible refine W_nil ?_) | (with_reducible refine W_cons ?_) | (with_reducible refine W_lst ?_) | (with_reducible refine W_tup ?_) | (with_reducible refine W_ixx ?_) | (with_reducible refine W_ixn ?_) | (with_reducible refine W_and ?_) | (with_reducible refine W_or ?_) | (with_reducible refine W_not ?_) | (with_reducible refine W_tru ?_) | (with_reducible refine W_storeI ?_) | (with_reducible refine W_nix ?_) | ((with_reducible refine' W_var ?h1 ?h2 ?_); (case h1 => exact rfl); (case h2 => exact rfl)) | ((with_reducible refine' W_mv ?h1 ?_); (case h1 => exact rfl)) | ((with_reducible refine' W_nx ?h1 ?_); (case h1 => exact rfl)) | ((with_reducible refine' W_nn ?h1 ?h2 ?_); (case h1 => exact rfl); (case h2 => exact rfl)) | ((with_reducible refine' W_on ?h1 ?_); (case h1 => exact rfl)) | ((with_reducible refine' W_augI ?h1 ?_); (case h1 => exact rfl)) | (with_reducible refine Exists.intro _ (And.intro (eqB_int _ _) ?_)) | ((with_reducible refine' Exists.intro _ (And.intro (mulD_l ?h1) ?_)); (case h1 => decide)) | ((with_reducible refine' Exists.intro _ (And.intro (mulD_r ?h1) ?_)); (case h1 => decide)) | ((with_reducible refine' Exists.intro _ (And.intro (modD_l ?h1) ?_)); (case h1 => decide)) | ((with_reducible refine' Exists.intro _ (And.intro (fdivD_l ?h1) ?_)); (case h1 => decide)) | ((with_reducible refine' Exists.intro _ (And.intro ?h1 ?_)); (case h1 => exact rfl)) | ((with_reducible refine' And.intro ?h1 ?_); (case h1 => first | exact rfl | exact of_decide_eq_true rfl)) | skip); try dsimp only [List.set_cons_zero, List.set_cons_succ, placeSet, peek, deref, D.isN', List.getElem?_cons_zero, List.getElem?_cons_succ, Int.reduceToNat]))
theorem take_ok (a b c many : Int) (xs : List Int) (rest : Sto) (ha : 0 ≤ a) (hb : 0 ≤ b) (hc : 0 ≤ c) (hx : ∀ x ∈ xs, 0 ≤ x) (hm : 0 < many) (hm2 : many < 1000000) :
    WF f__law_take [.cel 0, .int many] (bagD a b c xs :: rest) fun d s => ∃ r a' b' c', d = .int r ∧ s = bagD a' b' c' xs :: rest ∧ 0 ≤ r ∧ r < many ∧ 0 ≤ a' ∧ 0 ≤ b' ∧ 0 ≤ c' := by
  refine WF_of ?_
  unfold m__law_take bagD
  show W _ [some (.cel 0), some (.int many), none, none, none, none] _ _
  refine W_seq (W.imp (Q := fun f e s => ∃ a b c x2, f = .nx ∧ 0 ≤ a ∧ 0 ≤ b ∧ 0 ≤ c ∧ e = [some (.cel 0), some (.int many), x2, none, none, none] ∧ s = .lst true [.int a, .int b, .int c, .lst false (xs.map .int)] :: rest) ?_ ?_)
  · iterate 10 w_fin
    w_fin
    w_fin
    w_fin
    refine Br_b (fun h => ?_) (fun h => ?_)
    · iterate 34 w_fin
      have h0 := of_decide_eq_true h
      refine Br_b (fun h => ?_) (fun h => ?_)
      · iterate 20 w_fin
        have h1 := of_decide_eq_true h
        rw [List.length_map] at h1
        obtain ⟨x, hx1, hx2⟩ := ixD_map (o := false) hc h1
        refine W_lk (d := .int x) hx2 rfl ?_
        have hx0 := hx x hx1
        iterate 50 w_fin
        refine Br_b (fun h => ?_) (fun h => ?_)
        · iterate 60 w_fin
          exact ⟨x, _, c + 1, _, rfl, hx0, Int.emod_nonneg _ (by omega), by omega, rfl, rfl⟩
        · iterate 60 w_fin
          exact ⟨a, _, c + 1, _, rfl, ha, Int.emod_nonneg _ (by omega), by omega, rfl, rfl⟩
      · iterate 60 w_fin
        refine Br_b (fun h => ?_) (fun h => ?_)
        · have := of_decide_eq_true h
          omega
        · iterate 60 w_fin
          exact ⟨a, _, c + 1, _, rfl, ha, Int.emod_nonneg _ (by omega), by omega, rfl, rfl⟩
    · w_fin
      exact ⟨a, b, c, none, rfl, ha, hb, hc, rfl, rfl⟩
  · rintro f e s ⟨a, b, c, x2, rfl, ha, hb, hc, rfl, rfl⟩
    iterate 20 w_fin
    refine Br_b (fun h => ?_) (fun h => ?_)
    · iterate 14 w_fin
      refine ⟨_, modD_l hm, ?_⟩
      iterate 30 w_fin
      refine ⟨_, fdivD_l ⟨hm, by omega⟩, ?_⟩
      iterate 30 w_fin
      have h0 := of_decide_eq_true h
      exact ⟨_, _, b, c, rfl, rfl, Int.emod_nonneg _ (by omega), Int.emod_lt_of_pos _ hm, Int.ediv_nonneg ha (by omega), hb, hc⟩
    · iterate 40 w_fin
      refine ⟨_, mulD_l (by omega), ?_⟩
      iterate 40 w_fin
      refine Br_b (fun h => ?_) (fun h => ?_)
      · have := of_decide_eq_true h
        omega
      · iterate 40 w_fin
        refine ⟨_, modD_l hm, ?_⟩
        exact ⟨_, a, b, c, rfl, rfl, Int.emod_nonneg _ (by omega), Int.emod_lt_of_pos _ hm, ha, hb, hc⟩
theorem set_none {e : DEnv} {v : Nat} (h : e[v]? = some none) (x : Option D) : (e.set v x).set v none = e := by
  rw [List.set_set]
  apply List.ext_getElem?
  intro i
  by_cases hi : v = i
  · subst hi
    rw [List.getElem?_set_self (List.getElem?_eq_some_iff.mp h).1, h]
  · rw [List.getElem?_set_ne hi]
theorem lc_pure {v : Nat} {t elt : Mo D} {P : D → Bool} {F : D → D} {e : DEnv} {s : Sto} (hn : e[v]? = some none) : ∀ ds : List D, (∀ d ∈ ds, t (e.set v (some d)) s = some (.bl (P d), e.set v (some d), s) ∧ (P d = true → elt (e.set v (some d)) s = some (F d, e.set v (some d), s))) →
    lcL [v] (bName v) t elt ds e s = some ((ds.filter P).map F, e, s)
  | [], _ => rfl
  | d :: ds, h => by
    obtain ⟨h1, h2⟩ := h d (by simp)
    have ih := lc_pure (t := t) (elt := elt) (P := P) (F := F) hn ds fun d hd => h d (List.mem_cons_of_mem _ hd)
    have hl := (List.getElem?_eq_some_iff.mp hn).1
    have hb : bName v d e = some (e.set v (some d)) := if_pos hl
    unfold lcL
    rw [hb]
    dsimp only
    rw [h1]
    dsimp only
    cases hp : P d with
    | true =>
      rw [if_pos rfl, h2 hp]
      dsimp only [wipeE]
      rw [set_none hn, ih, List.filter_cons_of_pos hp, List.map_cons]
    | false =>
      rw [if_neg (by decide)]
      dsimp only [wipeE]
      rw [set_none hn, ih, List.filter_cons_of_neg (by rw [hp]; decide)]
theorem W_lcp {v : Nat} {t elt : Mo D} (P : D → Bool) (F : D → D) {m : Mo (List D)} {env : DEnv} {st : Sto} {Q : D → DEnv → Sto → Prop} (w : W m env st (fun items e s => e[v]? = some none ∧ szOk items.length = true ∧
      (∀ d ∈ items, t (e.set v (some d)) s = some (.bl (P d), e.set v (some d), s) ∧ (P d = true → elt (e.set v (some d)) s = some (F d, e.set v (some d), s))) ∧ Q (.lst true ((items.filter P).map F)) e s)) : W (mLc m [v] (bName v) t elt) env st Q := by
  refine W_lc (w.imp fun items e s hh => ?_)
  obtain ⟨h1, h2, h3, q⟩ := hh
  refine ⟨?_, W_of (a := (items.filter P).map F) (e := e) (s := s) ?_ ⟨?_, ?_⟩⟩
  · unfold savedOk; rw [h1]; rfl
  · have hw : wipeE e [v] = e := by
      have := set_none h1 none
      rw [List.set_set] at this
      exact this
    rw [hw]
    exact lc_pure h1 items h3
  · unfold szOk at h2 ⊢
    have h2 := of_decide_eq_true h2
    have h4 := List.length_filter_le P items
    rw [List.length_map]
    exact decide_eq_true (by omega)
  · have hk : keepE e e [v] = e := by
      unfold keepE keepE
      rw [h1]
      have := set_none h1 none
      rw [List.set_set] at this
      exact this
    rw [hk]
    exact q
theorem eqB_nil (o o' : Bool) (l : List D) : eqB (.lst o l) (.lst o' []) = some (.bl l.isEmpty) := by
  cases l with
  | nil => rfl
  | cons a l =>
    unfold eqB eqD2
    cases h : eqD (.lst o (a :: l)) (.lst o' []) with
    | none =>
      dsimp only
      rw [if_neg (by simp)]
      rfl
    | some b =>
      obtain ⟨d, e, h1, h2, _, _, rfl⟩ := eqD_of h
      have h2 : some (PyData.list []) = some e := h2
      cases h2
      simp only [D.pd] at h1
      cases q : D.pds (a :: l) with
      | none => rw [q] at h1; cases h1
      | some es =>
        rw [q] at h1
        cases h1
        have : es ≠ [] := fun z => by
          subst z
          simp only [D.pds] at q
          split at q
          · cases q
          · cases q
        cases es with
        | nil => exact absurd rfl this
        | cons x xs => simp [PyData.eqv, PyData.eqvAll]
/-- the store begins with the bag -/
def BagR (rest s : Sto) : Prop := ∃ a b c xs, 0 ≤ a ∧ 0 ≤ b ∧ 0 ≤ c ∧ (∀ x ∈ xs, 0 ≤ x) ∧ s = bagD a b c xs :: rest
abbrev BagS (s : Sto) : Prop := BagR [] s
theorem take_r {rest s : Sto} (h : BagR rest s) {many : Int} (hm : 0 < many) (hm2 : many < 1000000) : ∃ r s', f__law_take [.cel 0, .int many] s = some (.int r, s') ∧ 0 ≤ r ∧ r < many ∧ BagR rest s' := by
  obtain ⟨a, b, c, xs, ha, hb, hc, hx, rfl⟩ := h
  obtain ⟨d, s', h, r, a', b', c', rfl, rfl, h0, h1, h2, h3, h4⟩ := take_ok a b c many xs rest ha hb hc hx hm hm2
  exact ⟨r, _, h, h0, h1, ⟨a', b', c', xs, h2, h3, h4, hx, rfl⟩⟩
theorem take_s {s : Sto} (h : BagS s) {many : Int} (hm : 0 < many) (hm2 : many < 1000000) : ∃ r s', f__law_take [.cel 0, .int many] s = some (.int r, s') ∧ 0 ≤ r ∧ r < many ∧ BagS s' ∧ s'.tail = s.tail := by
  obtain ⟨r, s', h1, h2, h3, h4⟩ := take_r h hm hm2
  refine ⟨r, s', h1, h2, h3, h4, ?_⟩
  obtain ⟨_, _, _, _, _, _, _, _, rfl⟩ := h
  obtain ⟨_, _, _, _, _, _, _, _, rfl⟩ := h4
  rfl
section
variable {env : DEnv} {s : Sto} {Q : D → DEnv → Sto → Prop} {i : Nat}
theorem W_tk {me : Mo D} (h : env[i]? = some (some (.cel 0))) (w : W me env s (fun d e s' => ∃ many : Int, d = .int many ∧ 0 < many ∧ many < 1000000 ∧ BagS s' ∧ ∀ r s'', 0 ≤ r → r < many → BagS s'' → Q (.int r) e s'')) :
    W (mCall 2 f__law_take (mCons (mVar i) (mCons me mNil))) env s Q := by
  refine W_call (W_cons (W_var h rfl (W_cons ?_)))
  refine w.imp fun d e s' ⟨many, hd, h0, h1, hb, q⟩ => ?_
  subst hd
  obtain ⟨r, s'', hr, g0, g1, g2, _⟩ := take_s hb h0 h1
  exact W_nil ⟨rfl, rfl, _, _, hr, q r s'' g0 g1 g2⟩
theorem W_tkc {many : Int} (h : env[i]? = some (some (.cel 0))) (h0 : 0 < many ∧ many < 1000000) (hb : BagS s) (q : ∀ r s', 0 ≤ r → r < many → BagS s' → Q (.int r) env s') : W (mCall 2 f__law_take (mCons (mVar i) (mCons (mC (.int many)) mNil))) env s Q :=
  W_tk h (W_c ⟨many, rfl, h0.1, h0.2, hb, q⟩)
end
theorem joinL_one : ∀ cs : List Nat, TL.joinL [] (cs.map fun c => [c]) = cs
  | [] => rfl
  | [c] => rfl
  | c :: d :: r => by
    show [c] ++ ([] ++ TL.joinL [] ([d] :: r.map fun c => [c])) = _
    have ih := joinL_one (d :: r)
    rw [List.map_cons] at ih
    rw [ih]
    rfl
theorem join_one (cs : List Nat) : (Txt.join (Str.ofString "") (cs.map fun c => (⟨#[c]⟩ : Str))).cps.toList = cs := by
  have h := (congrArg TL.tl (TL.join_eq (Str.ofString "") (cs.map fun c => (⟨#[c]⟩ : Str)))).trans (TL.tl_join (Str.ofString "") (cs.map fun c => (⟨#[c]⟩ : Str)))
  have e : TL.tl (Str.ofString "") = [] := by decide +kernel
  rw [e, List.map_map] at h
  exact h.trans (joinL_one cs)
theorem fzs_map (xs : List D) : D.fzs xs = xs.map D.fz := by
  induction xs with
  | nil => rfl
  | cons a r ih => rw [D.fzs, ih, List.map_cons]
theorem nobs_of {xs : List D} (h : ∀ x ∈ xs, x.nob = true) : D.nobs xs = true := by
  induction xs with
  | nil => rfl
  | cons a r ih => rw [D.nobs, h a (by simp), ih fun x hx => h x (List.mem_cons_of_mem _ hx)]; rfl
theorem frs_of {xs : List D} (h : ∀ x ∈ xs, x.fr = true) : D.frs xs = true := by
  induction xs with
  | nil => rfl
  | cons a r ih => rw [D.frs, h a (by simp), ih fun x hx => h x (List.mem_cons_of_mem _ hx)]; rfl
def absOf : D → Int
  | .int i => if i < 0 then -i else i
  | _ => 0
theorem fzs_ints (xs : List Int) : D.fzs (xs.map .int) = xs.map .int := by
  rw [fzs_map, List.map_map]
  apply List.map_congr_left
  intro x _
  rfl
theorem nobs_ints (xs : List Int) : D.nobs (xs.map .int) = true := nobs_of fun x hx => by
  obtain ⟨i, _, rfl⟩ := List.mem_map.mp hx
  rfl
theorem bag_ok (ns : List Int) (hl : ns.length ≤ 63) : ∃ xs : List Int, (∀ x ∈ xs, 0 ≤ x) ∧ f__law_bag [.scr ns] [] = some (.lst true [.int 0, .int 1234567891, .int 0, .lst true (xs.map .int)], []) := by
  have w : WF f__law_bag [.scr ns] [] fun d s => s = [] ∧ ∃ xs : List Int, (∀ x ∈ xs, 0 ≤ x) ∧ d = .lst true [.int 0, .int 1234567891, .int 0, .lst true (xs.map .int)] := by
    refine WF_of ?_
    unfold m__law_bag
    show W _ [some (.scr ns), none] _ _
    obtain ⟨ms, hms⟩ : ∃ ms : List Int, cutD (ns.map D.int) none (some 63) = ms.map .int ∧ ms.length ≤ 63 := by
      refine ⟨(ns.drop (HT.sIx (ns.map D.int).length 0 none)).take (HT.sIx (ns.map D.int).length (ns.map D.int).length (some 63) - HT.sIx (ns.map D.int).length 0 none), ?_, ?_⟩
      · unfold cutD
        rw [List.map_take, List.map_drop]
      · rw [List.length_take, List.length_drop]
        omega
    refine W_ret (W_lst (W_cons (W_c (W_cons (W_c (W_cons (W_c (W_cons ?_)))))))) 
    refine W_lcp (fun _ => true) (fun d => .int (absOf d)) (W_it (W_sln rfl (W_p0 (W_p1 (W_c ⟨_, rfl, _, rfl, _, rfl, ?_, ?_⟩)))))
    · rw [hms.1, D.nob]; exact nobs_ints ms
    · refine ⟨ms.map .int, ?_, rfl, ?_, ?_, ?_⟩
      · rw [hms.1, D.fz, if_pos rfl, fzs_ints]; rfl
      · rw [List.length_map]; exact decide_eq_true (by omega)
      · intro d hd
        obtain ⟨i, _, rfl⟩ := List.mem_map.mp hd
        exact ⟨rfl, fun _ => rfl⟩
      · refine W_nil ⟨of_decide_eq_true rfl, rfl, (ms.map fun i => if i < 0 then -i else i), ?_, ?_⟩
        · intro x hx
          obtain ⟨i, _, rfl⟩ := List.mem_map.mp hx
          split <;> omega
        · rw [List.filter_eq_self.mpr fun _ _ => rfl, List.map_map, List.map_map]
          rfl
  obtain ⟨d, s, h, rfl, xs, h1, rfl⟩ := w
  exact ⟨xs, h1, h⟩
end Fw

set_option Elab.async false
set_option linter.all false
set_option maxRecDepth 100000
namespace Fw
open PySem PySem.Spec PyProof.Rows L2
theorem W_eq {α : Type} {m : DEnv → Sto → Option (α × DEnv × Sto)} {e e' : DEnv} {s s' : Sto} {x : α} (w : W m e s fun d e2 s2 => d = x ∧ e2 = e' ∧ s2 = s') : m e s = some (x, e', s') := by
  obtain ⟨d, e2, s2, h, rfl, rfl, rfl⟩ := w
  exact h
theorem hold_mul {a b : D} {P : D → Prop} (h : ∃ z, mulD a b = some z ∧ P z) : ∃ z, mulD a b = some z ∧ P z := h
theorem hold_small {i : Int} {P : Prop} (h : smallI i = true ∧ P) : smallI i = true ∧ P := h
/-! ### texts by their signs -/
abbrev sS (l : List Nat) : Str := ⟨l.toArray⟩
abbrev tl (x : Str) : List Nat := x.cps.toList
theorem tl_len (x : Str) : (tl x).length = x.length := by simp [Str.length]
theorem str_ext {x y : Str} (h : tl x = tl y) : x = y := by
  cases x with
  | mk c => cases y with
    | mk d =>
      have : c.toList = d.toList := h
      rw [Array.toList_inj] at this
      rw [this]
theorem tl_sS (l : List Nat) : tl (sS l) = l := rfl
theorem tl_app (x y : Str) : tl (x ++ y) = tl x ++ tl y := by
  show (Str.mk (x.cps ++ y.cps)).cps.toList = _
  simp
/-- a kind -/
def KindS (x : Str) : Prop := 1 ≤ (tl x).length ∧ (tl x).length ≤ 8 ∧ ∀ c ∈ tl x, 97 ≤ c ∧ c ≤ 122
abbrev LT : Str := Str.ofString "abcdefghijklmnopqrstuvwxyz"
theorem lt_tl : tl LT = List.range' 97 26 := by decide +kernel
theorem lt_at {r : Int} (h0 : 0 ≤ r) (h1 : r < 26) : ixD (.str LT) (.int r) = some (.str (sS [97 + r.toNat])) := by
  have hl : (tl LT).length = 26 := by rw [lt_tl]; rfl
  have e : atI (tl LT) r = some (97 + r.toNat) := by
    unfold atI ixN
    rw [if_pos h0, hl, if_pos (by omega)]
    show (tl LT)[r.toNat]? = _
    rw [lt_tl, List.getElem?_eq_getElem (by simp; omega)]
    simp
  show (if szOk LT.length = true then (atI (tl LT) r).map fun c => D.str ⟨#[c]⟩ else none) = _
  rw [if_pos (by decide +kernel), e]
  rfl
theorem addD_str {x y : Str} (h : x.length + y.length ≤ 1000) : addD (.str x) (.str y) = some (.str (x ++ y)) := if_pos (decide_eq_true (by omega))
theorem slD_str {z : Str} {lo hi : Option Int} (h : z.length ≤ 1000) : slD (.str z) lo hi = some (.str (cutS z lo hi)) := if_pos (decide_eq_true (by omega))
theorem lenD_str {x : Str} (h : x.length ≤ 1000) : lenD (.str x) = some (.int x.length) := if_pos (decide_eq_true (by omega))
theorem sIx_at {n d : Nat} {i : Int} (h0 : 0 ≤ i) (h1 : i ≤ n) : HT.sIx n d (some i) = i.toNat := by
  show (if i < 0 then (i + (n : Int)).toNat else min i.toNat n) = _
  rw [if_neg (by omega)]; omega
theorem cut_lo {z : Str} {i : Int} (h0 : 0 ≤ i) (h1 : i ≤ z.length) : tl (cutS z none (some i)) = (tl z).take i.toNat := by
  unfold cutS
  rw [sIx_at h0 h1, HT.sIx_none]; simp
theorem cut_hi {z : Str} {i : Int} (h0 : 0 ≤ i) (h1 : i ≤ z.length) : tl (cutS z (some i) none) = (tl z).drop i.toNat := by
  unfold cutS
  rw [sIx_at h0 h1, HT.sIx_none]
  show ((tl z).drop i.toNat).take (z.length - i.toNat) = _
  apply List.take_of_length_le
  rw [List.length_drop, tl_len]; omega
theorem cutD_lo {xs : List D} {i : Int} (h0 : 0 ≤ i) (h1 : i ≤ xs.length) : cutD xs none (some i) = xs.take i.toNat := by
  unfold cutD
  rw [sIx_at h0 h1, HT.sIx_none]; simp
theorem cutD_hi {xs : List D} {i : Int} (h0 : 0 ≤ i) (h1 : i ≤ xs.length) : cutD xs (some i) none = xs.drop i.toNat := by
  unfold cutD
  rw [sIx_at h0 h1, HT.sIx_none]
  apply List.take_of_length_le
  rw [List.length_drop]; omega
theorem frs_strs (ks : List Str) : D.frs (ks.map .str) = true := frs_of fun x hx => by
  obtain ⟨k, _, rfl⟩ := List.mem_map.mp hx
  rfl
theorem nobs_strs (ks : List Str) : D.nobs (ks.map .str) = true := nobs_of fun x hx => by
  obtain ⟨k, _, rfl⟩ := List.mem_map.mp hx
  rfl
theorem fzs_strs (ks : List Str) : D.fzs (ks.map .str) = ks.map .str := D.fzs_of (frs_strs ks)
/-- a range's images are different -/
theorem range_nodup {α : Type} {n : Nat} {g : Nat → α} (h : ∀ i j, i < j → j < n → g i ≠ g j) : ((List.range n).map g).Nodup := by
  unfold List.Nodup
  rw [List.pairwise_map]
  refine List.Pairwise.imp_of_mem ?_ List.pairwise_lt_range
  intro a b _ hb hab
  exact h a b hab (List.mem_range.mp hb)
theorem rangeOf_map {n : Nat} {F : D → D} {G : Nat → D} (h : ∀ i, i < n → F (.int i) = G i) : ((rangeOf 0 n).filter fun _ => true).map F = (List.range n).map G := by
  rw [List.filter_eq_self.mpr fun _ _ => rfl]
  unfold rangeOf
  rw [List.map_map]
  apply List.map_congr_left
  intro i hi
  show F (.int (0 + (i : Int))) = _
  rw [Int.zero_add]
  exact h i (List.mem_range.mp hi)
/-- what a comprehension over a range of draws gives, one by one -/
theorem W_lcr {v : Nat} {elt : Mo D} (G : Nat → D) {m : Mo (List D)} {env : DEnv} {st : Sto} {Q : D → DEnv → Sto → Prop}
    (w : W m env st fun items e s => ∃ n : Nat, items = rangeOf 0 n ∧ n ≤ 100000 ∧ e[v]? = some none ∧ (∀ i : Nat, i < n → elt (e.set v (some (.int i))) s = some (G i, e.set v (some (.int i)), s)) ∧ Q (.lst true ((List.range n).map G)) e s) : W (mLc m [v] (bName v) (mC (.bl true)) elt) env st Q := by
  refine W_lcp (fun _ => true) (fun d => match d with | .int i => G i.toNat | _ => .non) (w.imp fun items e s hh => ?_)
  obtain ⟨n, rfl, hn, h1, h2, q⟩ := hh
  refine ⟨h1, decide_eq_true (by unfold rangeOf; rw [List.length_map, List.length_range]; omega), fun d hd => ⟨rfl, fun _ => ?_⟩, ?_⟩
  · obtain ⟨i, hi, rfl⟩ := List.mem_map.mp (show d ∈ (List.range n).map fun (i : Nat) => D.int (0 + (i : Int)) from hd)
    have := h2 i (List.mem_range.mp hi)
    rw [Int.zero_add]
    simpa using this
  · rw [rangeOf_map (G := G) fun i hi => by simp]
    exact q
theorem atD_of {xs : List D} {i : Int} {d : D} (h0 : 0 ≤ i) (h : xs[i.toNat]? = some d) : atD xs i = some d := by
  have hl := (List.getElem?_eq_some_iff.mp h).1
  unfold atD ixN
  rw [if_pos h0, if_pos (by omega)]
  exact h
def wordsL : List Str := [Str.ofString "come", Str.ofString "go", Str.ofString "late", Str.ofString "cut", Str.ofString "back", Str.ofString "line", Str.ofString "more", Str.ofString "alike"]
theorem words_nodup : (wordsL.map tl).Nodup := by decide +kernel
theorem words_kind : ∀ k ∈ wordsL.map tl, 1 ≤ k.length ∧ k.length ≤ 8 ∧ ∀ c ∈ k, 97 ≤ c ∧ c ≤ 122 := by decide +kernel
theorem nodup_of_map {α β : Type} {f : α → β} {l : List α} (h : (l.map f).Nodup) : l.Nodup := by
  unfold List.Nodup at *
  rw [List.pairwise_map] at h
  exact h.imp fun hab e => hab (by rw [e])
end Fw

set_option Elab.async false
set_option linter.all false
set_option maxRecDepth 100000
namespace Fw
open PySem PySem.Spec PyProof.Rows L2
theorem Br_nt {A B : DEnv → Sto → Prop} {e : DEnv} {s : Sto} (q : B e s) : Br A B (.bl (!true)) e s := Br_f q
theorem Br_nf {A B : DEnv → Sto → Prop} {e : DEnv} {s : Sto} (q : A e s) : Br A B (.bl (!false)) e s := Br_t q
local macro_rules | `(tactic| w_fin) => `(tactic| first | ((first | (with_reducible refine W_seq ?_) | (with_reducible refine W_ite ?_) | (with_reducible refine Nx_nx ?_) | (with_reducible refine Nx_rt ?_) | (with_reducible refine Nx_bk ?_) | (with_reducible refine Nx_ct ?_) | (with_reducible refine Br_t ?_) | (with_reducible refine Br_f ?_) | (with_reducible refine Br_nt ?_) | (with_reducible refine Br_nf ?_) | (with_reducible refine W_for ?_) | (with_reducible refine W_skip ?_) | (with_reducible refine W_pass ?_) | (with_reducible refine W_set ?_) | (with_reducible refine W_ret ?_) | (with_reducible refine W_expr ?_) | (with_reducible refine W_bin ?_) | (with_reducible refine W_un ?_) | (with_reducible refine W_c ?_) | (with_reducible refine W_xx ?_) | (with_reducible refine W_xn ?_) | (with_reducible refine W_ox ?_) | (with_reducible refine W_nil ?_) | (with_reducible refine W_cons ?_) | (with_reducible refine W_lst ?_) | (with_reducible refine W_tup ?_) | (with_reducible refine W_ixx ?_) | (with_reducible refine W_ixn ?_) | (with_reducible refine W_p0 ?_) | (with_reducible refine W_p1 ?_) | (with_reducible refine W_slx ?_) | (with_reducible refine W_nix ?_) | (with_reducible refine W_and ?_) | (with_reducible refine W_or ?_) | (with_reducible refine W_not ?_) | (with_reducible refine W_tru ?_) | (with_reducible refine W_if ?_) | (with_reducible refine W_par ?_) | (with_reducible refine W_asg ?_) | (with_reducible refine W_rng1 ?_) | (with_reducible refine W_storeI ?_) | (with_reducible refine W_dnew ?_) | (with_reducible refine W_ps0 ?_) | (with_reducible refine W_ps1 ?_) | (with_reducible refine W_o0 ?_) | (with_reducible refine W_ox' ?_) | (with_reducible refine W_break ?_) | (with_reducible refine W_cont ?_) | ((with_reducible refine' W_sln ?h1 ?_); (case h1 => exact rfl)) | ((with_reducible refine' W_var ?h1 ?h2 ?_); (case h1 => exact rfl); (case h2 => exact rfl)) | ((with_reducible refine' W_mv ?h1 ?_); (case h1 => exact rfl)) | ((with_reducible refine' W_nx ?h1 ?_); (case h1 => exact rfl)) | ((with_reducible refine' W_nn ?h1 ?h2 ?_); (case h1 => exact rfl); (case h2 => exact rfl)) | ((with_reducible refine' W_on ?h1 ?_); (case h1 => exact rfl)) | ((with_reducible refine' W_on' ?h1 ?_); (case h1 => exact rfl)) | ((with_reducible refine' W_augI ?h1 ?_); (case h1 => exact rfl)) | ((with_reducible refine' W_aug ?h1 ?_); (case h1 => exact rfl)) | ((with_reducible refine' W_mt ?h1 ?_); (case h1 => exact rfl)) | (with_reducible refine Exists.intro _ (And.intro (eqB_int _ _) ?_)) | (with_reducible refine Exists.intro _ (And.intro (max2_nat _ _) ?_)) | (with_reducible refine Exists.intro _ (And.intro (max3_nat _ _ _) ?_)) | (with_reducible refine W_fn2 ?_) | (with_reducible refine Exists.intro _ (And.intro (eqB_str _ _) ?_)) | ((with_reducible refine' Exists.intro _ (And.intro (mulD_l ?h1) ?_)); (case h1 => decide)) | ((with_reducible refine' Exists.intro _ (And.intro (mulD_r ?h1) ?_)); (case h1 => decide)) | ((with_reducible refine' Exists.intro _ (And.intro (modD_l ?h1) ?_)); (case h1 => decide)) | ((with_reducible refine' Exists.intro _ (And.intro (fdivD_l ?h1) ?_)); (case h1 => decide)) | ((with_reducible refine' Exists.intro _ (And.intro (slD_str ?h1) ?_)); (case h1 => first | assumption | omega)) | ((with_reducible refine' Exists.intro _ (And.intro (lenD_str ?h1) ?_)); (case h1 => first | assumption | omega)) | ((with_reducible refine' Exists.intro _ (And.intro (addD_str ?h1) ?_)); (case h1 => first | assumption | omega)) | ((with_reducible refine' And.intro (smallI_of ?h1) ?_); (case h1 => omega))); (try dsimp only [List.set_cons_zero, List.set_cons_succ, placeSet, peek, deref, D.isN', List.getElem?_cons_zero, List.getElem?_cons_succ, Int.reduceToNat, D.fz, D.fzs, setAll, keepE, wipeE, Option.getD_some, Option.getD_none]); w_fin) | (with_reducible refine hold_mul ?_) | (with_reducible refine hold_mod ?_) | (with_reducible refine hold_fdiv ?_) | (with_reducible refine hold_small ?_) | ((first | ((with_reducible refine' Exists.intro _ (And.intro ?h1 ?_)); (case h1 => exact rfl)) | ((with_reducible refine' And.intro ?h1 ?_); (case h1 => first | exact rfl | exact of_decide_eq_true rfl))); (try dsimp only [List.set_cons_zero, List.set_cons_succ, placeSet, peek, deref, D.isN', List.getElem?_cons_zero, List.getElem?_cons_succ, Int.reduceToNat, D.fz, D.fzs, setAll, keepE, wipeE, Option.getD_some, Option.getD_none]); w_fin) | skip)
theorem kind_one {c : Nat} (h : 97 ≤ c ∧ c ≤ 122) : KindS (sS [c]) := ⟨Nat.le_refl 1, by show 1 ≤ 8; decide, fun x hx => by
  rw [tl_sS, List.mem_singleton] at hx; subst hx; exact h⟩
theorem addD_strs {o o' : Bool} {xs ys : List Str} (h : xs.length + ys.length ≤ 1000) : addD (.lst o (xs.map .str)) (.lst o' (ys.map .str)) = some (.lst true ((xs ++ ys).map .str)) := by
  show (if _ then _ else _) = _
  rw [if_pos ⟨by rw [List.length_map, List.length_map]; exact decide_eq_true (by omega), frs_strs _, frs_strs _⟩, List.map_append]
theorem slD_strs {o : Bool} (xs : List Str) (lo hi : Option Int) : slD (.lst o (xs.map .str)) lo hi = some (.lst true (cutD (xs.map .str) lo hi)) := if_pos (frs_strs _)
theorem join_letters (cs : List Nat) (h : cs.length ≤ 1000) : joinD (.str (Str.ofString "")) (.lst true (cs.map fun c => .str (sS [c]))) = some (.str (sS cs)) := by
  have h3 : strsOf (cs.map fun c => D.str (sS [c])) = some (cs.map fun c => (⟨#[c]⟩ : Str)) := by
    clear h
    induction cs with
    | nil => rfl
    | cons c r ih => rw [List.map_cons, List.map_cons, strsOf, ih]; rfl
  show (match strsOf (cs.map fun c => D.str (sS [c])) with | some ys' => if (ys'.map Str.length).sum + ys'.length * (Str.ofString "").length ≤ 16777216 then some (D.str (Txt.join (Str.ofString "") ys')) else none | none => none) = _
  rw [h3]
  dsimp only
  have e1 : ((cs.map fun c => (⟨#[c]⟩ : Str)).map Str.length).sum = cs.length := by
    clear h3 h
    induction cs with
    | nil => rfl
    | cons c r ih =>
      rw [List.map_cons, List.map_cons, List.sum_cons, ih, List.length_cons]
      show 1 + _ = _
      omega
  have e2 : (Str.ofString "").length = 0 := by decide +kernel
  rw [if_pos (by rw [e1, e2]; omega)]
  congr 2
  exact str_ext (join_one cs)
theorem repS_tl (x : Str) (k : Int) : tl (repS x k) = (List.replicate k.toNat (tl x)).flatten := by simp [repS]
/-- what the drawn names are -/
def NamesR (many : Int) (d : D) (s' : Sto) : Prop := BagS s' ∧ ∃ ks : List Str, d = .lst true (ks.map .str) ∧ ks.length = many.toNat ∧ ks.Nodup ∧ ∀ k ∈ ks, KindS k
theorem names_map {many : Int} {s : Sto} (hb : BagS s) (G : Nat → Str) (h1 : ∀ i, i < many.toNat → KindS (G i)) (h2 : ∀ i j, i < j → j < many.toNat → G i ≠ G j) : NamesR many (.lst true ((List.range many.toNat).map fun i => .str (G i))) s := by
  refine ⟨hb, (List.range many.toNat).map G, by rw [List.map_map]; rfl, by simp, range_nodup h2, fun k hk => ?_⟩
  obtain ⟨i, hi, rfl⟩ := List.mem_map.mp hk
  exact h1 i (List.mem_range.mp hi)
theorem names_ok {s : Sto} (hb : BagS s) {many : Int} (h : 1 ≤ many ∧ many ≤ 8) : WF f__law_names [.cel 0, .int many] s (NamesR many) := by
  refine WF_of ?_
  unfold m__law_names
  show W _ [some (.cel 0), some (.int many), none, none, none, none, none, none, none] _ _
  w_fin
  refine W_tkc rfl (by decide) hb fun way s1 w0 w1 hb1 => ?_
  w_fin
  refine W_tkc rfl (by decide) hb1 fun turn s2 t0 t1 hb2 => ?_
  have sm : smallI many = true := decide_eq_true (by omega)
  w_fin
  refine Br_b (fun h0 => ?_) (fun h0 => ?_)
  · -- words
    w_fin
    have t8 : 0 ≤ turn % 8 ∧ turn % 8 < 8 := ⟨Int.emod_nonneg _ (by decide), Int.emod_lt_of_pos _ (by decide)⟩
    have e1 := cutD_hi (xs := wordsL.map D.str) (i := turn % 8) t8.1 (by show turn % 8 ≤ 8; omega)
    have e2 := cutD_lo (xs := wordsL.map D.str) (i := turn % 8) t8.1 (by show turn % 8 ≤ 8; omega)
    rw [← List.map_drop] at e1
    rw [← List.map_take] at e2
    refine ⟨_, (show addD (.lst true (cutD (wordsL.map D.str) (some (turn % 8)) none)) (.lst true (cutD (wordsL.map D.str) none (some (turn % 8)))) = _ by rw [e1, e2]; exact addD_strs (by rw [List.length_drop, List.length_take]; show 8 - _ + min _ 8 ≤ 1000; omega)), ?_⟩
    w_fin
    refine ⟨_, slD_strs _ none (some many), ?_⟩
    have hlen : (wordsL.drop (turn % 8).toNat ++ wordsL.take (turn % 8).toNat).length = 8 := by
      rw [List.length_append, List.length_drop, List.length_take]; show 8 - _ + min _ 8 = 8; omega
    rw [cutD_lo (by omega) (by rw [List.length_map, hlen]; omega), ← List.map_take]
    w_fin
    have hp : (wordsL.drop (turn % 8).toNat ++ wordsL.take (turn % 8).toNat).Perm wordsL := by
      refine List.perm_append_comm.trans ?_
      rw [List.take_append_drop]
    refine ⟨hb2, _, rfl, by rw [List.length_take, hlen]; omega, ((nodup_of_map words_nodup).perm hp.symm).sublist (List.take_sublist _ _), fun k hk => ?_⟩
    exact words_kind _ (List.mem_map_of_mem (hp.mem_iff.mp (List.mem_of_mem_take hk)))
  · w_fin
    refine Br_b (fun h1 => ?_) (fun h1 => ?_)
    · -- letters
      w_fin
      refine W_lcr (fun i => .str (sS [97 + ((turn + 3 * (i : Int)) % 26).toNat])) ?_
      w_fin
      refine ⟨sm, many.toNat, rfl, by omega, rfl, fun i hi => W_eq ?_, ?_⟩
      · refine W_alt ?_
        w_fin
        refine ⟨_, lt_at (Int.emod_nonneg _ (by decide)) (Int.emod_lt_of_pos _ (by decide)), rfl, rfl, rfl, rfl⟩
      · refine names_map hb2 (fun i => sS [97 + ((turn + 3 * (i : Int)) % 26).toNat]) (fun i hi => kind_one (by omega)) fun i j hij hj e => ?_
        have := congrArg tl e
        simp only [tl_sS, List.cons.injEq, and_true] at this
        omega
    · w_fin
      refine Br_b (fun h2 => ?_) (fun h2 => ?_)
      · -- one letter, several times
        w_fin
        refine W_lcr (fun i => .str (repS (sS [97 + turn.toNat]) ((i : Int) + 1))) ?_
        w_fin
        refine ⟨sm, many.toNat, rfl, by omega, rfl, fun i hi => W_eq ?_, ?_⟩
        · w_fin
          refine W_alt ?_
          w_fin
          refine ⟨_, lt_at t0 t1, rfl, ?_⟩
          w_fin
          refine ⟨_, if_pos ⟨by omega, by omega, by show 1 ≤ 1000; decide⟩, rfl, rfl, rfl⟩
        · refine names_map hb2 (fun i => repS (sS [97 + turn.toNat]) ((i : Int) + 1)) (fun i hi => ?_) fun i j hij hj e => ?_
          · have e : tl (repS (sS [97 + turn.toNat]) ((i : Int) + 1)) = List.replicate (i + 1) (97 + turn.toNat) := by
              rw [repS_tl, tl_sS]
              have : ((i : Int) + 1).toNat = i + 1 := by omega
              rw [this]
              simp
            refine ⟨by rw [e, List.length_replicate]; omega, by rw [e, List.length_replicate]; omega, fun c hc => ?_⟩
            rw [e] at hc
            have := List.eq_of_mem_replicate hc
            omega
          · have := congrArg (fun x => (tl x).length) e
            simp only [repS_tl, tl_sS] at this
            simp at this
            omega
      · w_fin
        refine W_un (W_ox (W_lc ?_))
        w_fin
        refine W_tkc rfl (by decide) hb2 fun q s3 q0 q1 hb3 => ?_
        w_fin
        refine ⟨decide_eq_true ⟨by omega, by omega⟩, rfl, ?_⟩
        refine lcL_inv (fun ds acc e s => e = [some (.cel 0), some (.int many), some (.str LT), some (.int way), some (.int turn), none, none, none, none] ∧ BagS s ∧ (∃ cs : List Nat, acc = cs.map (fun c => .str (sS [c])) ∧ ∀ c ∈ cs, 97 ≤ c ∧ c ≤ 122) ∧ acc.length + ds.length = (1 + q).toNat) ?_ (rangeOf 0 (1 + q).toNat) [] _ _ ⟨rfl, hb3, ⟨[], rfl, by simp⟩, by unfold rangeOf; simp⟩ ?_
        · rintro d ds acc e s ⟨rfl, hb, ⟨cs, rfl, hc⟩, hl⟩
          refine ⟨_, rfl, W_c (Br_t (W_alt (W_nix (W_nx rfl (W_tkc rfl (by decide) hb fun l s4 l0 l1 hb4 => ⟨_, rfl, ?_⟩)))))⟩
          refine ⟨_, lt_at l0 l1, rfl, rfl, hb4, ⟨cs ++ [97 + l.toNat], by rw [List.map_append]; rfl, fun c hc' => ?_⟩, ?_⟩
          · rcases List.mem_append.mp hc' with w | w
            · exact hc c w
            · rw [List.mem_singleton.mp w]; omega
          · rw [List.length_append, List.length_singleton]; rw [List.length_cons] at hl; omega
        · rintro ys e s ⟨rfl, hb4, ⟨cs, hys, hc⟩, hl⟩
          rw [List.nil_append] at hys
          subst hys
          have hcs : cs.length = (1 + q).toNat := by simpa using hl
          have hT := join_letters cs (by omega)
          refine ⟨decide_eq_true (by rw [List.length_map]; omega), _, hT, of_decide_eq_true rfl, ?_⟩
          have hTl : (sS cs).length = cs.length := by rw [← tl_len]
          w_fin
          refine W_tk rfl ?_
          w_fin
          refine ⟨by omega, by omega, hb4, fun at_ s5 a0 a1 hb5 => ?_⟩
          w_fin
          refine W_lcr (fun i => .str (sS (cs.take at_.toNat ++ ([97 + ((turn + 5 * (i : Int)) % 26).toNat] ++ cs.drop (at_.toNat + 1))))) ?_
          w_fin
          refine ⟨sm, many.toNat, rfl, by omega, rfl, fun i hi => W_eq ?_, ?_⟩
          · have c1 : tl (cutS (sS cs) none (some at_)) = cs.take at_.toNat := cut_lo a0 (by omega)
            have c2 : tl (cutS (sS cs) (some (at_ + 1)) none) = cs.drop (at_.toNat + 1) := by
              rw [cut_hi (by omega) (by omega)]
              have : (at_ + 1).toNat = at_.toNat + 1 := by omega
              rw [this]
            have l1 : (cutS (sS cs) none (some at_)).length ≤ 9 := by rw [← tl_len, c1, List.length_take]; omega
            have l2 : (cutS (sS cs) (some (at_ + 1)) none).length ≤ 9 := by rw [← tl_len, c2, List.length_drop]; omega
            have l3 : ∀ c : Nat, (sS [c]).length = 1 := fun _ => rfl
            w_fin
            refine W_alt ?_
            w_fin
            refine ⟨_, lt_at (Int.emod_nonneg _ (by decide)) (Int.emod_lt_of_pos _ (by decide)), rfl, _, addD_str (by rw [l3]; omega), ?_⟩
            w_fin
            refine ⟨_, addD_str (by rw [strLen_append, l3]; omega), ?_, rfl, rfl⟩
            congr 1
            apply str_ext
            rw [tl_app, tl_app, c1, c2, List.append_assoc]
          · have ha : at_.toNat < cs.length := by omega
            refine names_map hb5 (fun i => sS (cs.take at_.toNat ++ ([97 + ((turn + 5 * (i : Int)) % 26).toNat] ++ cs.drop (at_.toNat + 1)))) (fun i hi => ?_) fun i j hij hj e => ?_
            · refine ⟨?_, ?_, fun c hc' => ?_⟩
              · simp; omega
              · simp; omega
              · rw [tl_sS] at hc'
                rcases List.mem_append.mp hc' with w | w
                · exact hc c (List.mem_of_mem_take w)
                · rcases List.mem_append.mp w with w | w
                  · rw [List.mem_singleton.mp w]; omega
                  · exact hc c (List.mem_of_mem_drop w)
            · have := congrArg tl e
              simp only [tl_sS, List.append_cancel_left_eq, List.cons_append, List.nil_append, List.cons.injEq, and_true] at this
              omega
end Fw

set_option Elab.async false
set_option linter.all false
set_option maxRecDepth 100000
namespace Fw
open PySem PySem.Spec PyProof.Rows L2
/-! ### values of a kind of Lean's, as data -/
class PyEnc (α : Type) [DecidableEq α] where
  e : α → PyData
  eq : ∀ a b, PyData.eqv (e a) (e b) = decide (a = b)
  dep : Nat
  dp : ∀ a, (e a).depth ≤ dep
  lay : α → Prop
  ly : ∀ a, lay a → (e a).canLay0 = true
theorem strOk_of {x : Str} (h : ∀ c ∈ tl x, c < 55296) : PyData.strOk x = true := by
  unfold PyData.strOk
  rw [← Array.all_toList, List.all_eq_true]
  intro c hc
  have := h c hc
  exact decide_eq_true (by omega)
instance : PyEnc Str where
  e x := .str x
  eq a b := by
    show (a == b) = _
    by_cases h : a = b
    · subst h; simp
    · rw [decide_eq_false h]; exact beq_eq_false_iff_ne.mpr h
  dep := 0
  dp a := Nat.le_refl 0
  lay x := ∀ c ∈ tl x, c < 55296
  ly x h := strOk_of h
instance : PyEnc Int where
  e x := .int x
  eq a b := by
    show (a == b) = _
    by_cases h : a = b
    · subst h; simp
    · rw [decide_eq_false h]; exact beq_eq_false_iff_ne.mpr h
  dep := 0
  dp a := Nat.le_refl 0
  lay x := True
  ly x h := rfl
instance : PyEnc Bool where
  e x := .bool x
  eq a b := by
    show (a == b) = _
    by_cases h : a = b
    · subst h; simp
    · rw [decide_eq_false h]; exact beq_eq_false_iff_ne.mpr h
  dep := 0
  dp a := Nat.le_refl 0
  lay x := True
  ly x h := rfl
theorem eqvAll_map {α : Type} [DecidableEq α] [PyEnc α] : ∀ (xs ys : List α), PyData.eqvAll (xs.map PyEnc.e) (ys.map PyEnc.e) = decide (xs = ys)
  | [], [] => by simp [PyData.eqvAll]
  | [], _ :: _ => by simp [PyData.eqvAll]
  | _ :: _, [] => by simp [PyData.eqvAll]
  | x :: xs, y :: ys => by
    rw [List.map_cons, List.map_cons, PyData.eqvAll, PyEnc.eq, eqvAll_map xs ys]
    by_cases h : x = y <;> by_cases h2 : xs = ys <;> simp [h, h2]
theorem depthAll_map {α : Type} [DecidableEq α] [PyEnc α] : ∀ (xs : List α), PyData.depthAll (xs.map PyEnc.e) ≤ PyEnc.dep α
  | [] => Nat.zero_le _
  | x :: xs => by
    rw [List.map_cons, PyData.depthAll]
    exact Nat.max_le.mpr ⟨PyEnc.dp x, depthAll_map xs⟩
theorem layAll_map {α : Type} [DecidableEq α] [PyEnc α] : ∀ (xs : List α), (∀ x ∈ xs, PyEnc.lay x) → PyData.canLayAll0 (xs.map PyEnc.e) = true
  | [], _ => rfl
  | x :: xs, h => by
    rw [List.map_cons, PyData.canLayAll0, PyEnc.ly x (h x (by simp)), layAll_map xs fun y hy => h y (List.mem_cons_of_mem _ hy)]
    rfl
instance {α : Type} [DecidableEq α] [PyEnc α] : PyEnc (List α) where
  e xs := .list (xs.map PyEnc.e)
  eq a b := eqvAll_map a b
  dep := PyEnc.dep α + 1
  dp a := by show PyData.depthAll _ + 1 ≤ _; have := depthAll_map a; omega
  lay xs := ∀ x ∈ xs, PyEnc.lay x
  ly xs h := layAll_map xs h
instance {α β : Type} [DecidableEq α] [PyEnc α] [DecidableEq β] [PyEnc β] : PyEnc (α × β) where
  e p := .tuple [PyEnc.e p.1, PyEnc.e p.2]
  eq a b := by
    show (PyData.eqv _ _ && (PyData.eqv _ _ && true)) = _
    rw [PyEnc.eq, PyEnc.eq, Bool.and_true]
    obtain ⟨a1, a2⟩ := a
    obtain ⟨b1, b2⟩ := b
    by_cases h : a1 = b1 <;> by_cases h2 : a2 = b2 <;> simp [h, h2]
  dep := max (PyEnc.dep α) (PyEnc.dep β) + 1
  dp a := by
    show max (PyData.depth _) (max (PyData.depth _) 0) + 1 ≤ _
    have h1 := PyEnc.dp a.1
    have h2 := PyEnc.dp a.2
    omega
  lay p := PyEnc.lay p.1 ∧ PyEnc.lay p.2
  ly p h := by
    show (PyData.canLay0 _ && (PyData.canLay0 _ && true)) = true
    rw [PyEnc.ly _ h.1, PyEnc.ly _ h.2]; rfl
/-- a value that stands for a -/
abbrev IsE {α : Type} [DecidableEq α] [PyEnc α] (a : α) (x : D) : Prop := x.pd = some (PyEnc.e a)
section
variable {α β : Type} [DecidableEq α] [PyEnc α] [DecidableEq β] [PyEnc β]
theorem shaped_of {a : α} (h : PyEnc.lay a) (hd : PyEnc.dep α ≤ 60) : SeqAt.shaped (PyEnc.e a) = true := by
  unfold SeqAt.shaped
  rw [PyEnc.ly a h, decide_eq_true (Nat.le_trans (PyEnc.dp a) (by omega))]
  rfl
theorem eqD_enc {a b : α} {x y : D} (hx : IsE a x) (hy : IsE b y) (la : PyEnc.lay a) (lb : PyEnc.lay b) (hd : PyEnc.dep α ≤ 60 := by decide) : eqD x y = some (decide (a = b)) := by
  unfold eqD
  rw [hx, hy]
  dsimp only
  rw [if_pos ⟨shaped_of la hd, shaped_of lb hd⟩, PyEnc.eq]
theorem eqB_enc {a b : α} {x y : D} (hx : IsE a x) (hy : IsE b y) (la : PyEnc.lay a) (lb : PyEnc.lay b) (hd : PyEnc.dep α ≤ 60 := by decide) : eqB x y = some (.bl (decide (a = b))) := by
  unfold eqB eqD2
  rw [eqD_enc hx hy la lb hd]
  rfl
theorem neB_enc {a b : α} {x y : D} (hx : IsE a x) (hy : IsE b y) (la : PyEnc.lay a) (lb : PyEnc.lay b) (hd : PyEnc.dep α ≤ 60 := by decide) : neB x y = some (.bl (!decide (a = b))) := by
  unfold neB
  rw [eqD_enc hx hy la lb hd]
theorem pds_map {f : α → D} (h : ∀ a, IsE a (f a)) : ∀ xs : List α, D.pds (xs.map f) = some (xs.map PyEnc.e)
  | [] => rfl
  | x :: xs => by rw [List.map_cons, D.pds, h x, pds_map h xs]; rfl
theorem isE_lst {o : Bool} {f : α → D} (h : ∀ a, IsE a (f a)) (xs : List α) : IsE xs (.lst o (xs.map f)) := by
  show (D.pds _).map _ = _
  rw [pds_map h xs]; rfl
theorem isE_str (x : Str) : IsE x (.str x) := rfl
theorem isE_int (x : Int) : IsE x (.int x) := rfl
theorem isE_pair {a : α} {b : β} {x y : D} (hx : IsE a x) (hy : IsE b y) : IsE (a, b) (.tup [x, y]) := by
  show (D.pds _).map _ = _
  rw [D.pds, hx, D.pds, hy]; rfl
theorem inD_enc {a : α} {xs : List α} [dec : Decidable (a ∈ xs)] {x : D} {o : Bool} {f : α → D} (hx : IsE a x) (h : ∀ a, IsE a (f a)) (la : PyEnc.lay a) (ll : ∀ x ∈ xs, PyEnc.lay x) (hd : PyEnc.dep α ≤ 59 := by decide) : inD x (.lst o (xs.map f)) = some (decide (a ∈ xs)) := by
  have s2 : SeqAt.shaped (.list (xs.map PyEnc.e)) = true := shaped_of (α := List α) (a := xs) ll (by show PyEnc.dep α + 1 ≤ 60; omega)
  unfold inD
  dsimp only
  rw [hx, pds_map h xs]
  dsimp only
  rw [if_pos ⟨shaped_of la (by omega), s2⟩]
  congr 1
  rw [Bool.eq_iff_iff, decide_eq_true_iff]
  clear s2 ll
  rw [List.any_map, List.any_eq_true]
  constructor
  · rintro ⟨z, hz, h2⟩
    have h2 : PyData.eqv (PyEnc.e z) (PyEnc.e a) = true := h2
    rw [PyEnc.eq, decide_eq_true_iff] at h2
    rw [← h2]; exact hz
  · intro h2
    exact ⟨a, h2, by show PyData.eqv (PyEnc.e a) (PyEnc.e a) = true; rw [PyEnc.eq]; simp⟩
theorem inB_enc {a : α} {xs : List α} [dec : Decidable (a ∈ xs)] {x : D} {o : Bool} {f : α → D} (hx : IsE a x) (h : ∀ a, IsE a (f a)) (la : PyEnc.lay a) (ll : ∀ x ∈ xs, PyEnc.lay x) (hd : PyEnc.dep α ≤ 59 := by decide) : inB x (.lst o (xs.map f)) = some (.bl (decide (a ∈ xs))) := by
  unfold inB
  rw [inD_enc hx h la ll hd]; rfl
end
theorem KindS.lay {x : Str} (h : KindS x) : PyEnc.lay x := fun c hc => by have := h.2.2 c hc; omega
/-! ### a drawn relation -/
def pairD (p : Str × Str) : D := .tup [.str p.1, .str p.2]
theorem isE_pairD (p : Str × Str) : IsE p (pairD p) := isE_pair (isE_str p.1) (isE_str p.2)
/-- the relation's kinds and pairs -/
structure PlanOk (ks : List Str) (ps : List (Str × Str)) : Prop where
  pos : 1 ≤ ks.length
  le : ks.length ≤ 8
  nd : ks.Nodup
  kind : ∀ k ∈ ks, KindS k
  mem : ∀ p ∈ ps, p.1 ∈ ks ∧ p.2 ∈ ks
  ple : ps.length ≤ 36
  pnd : ps.Pairwise fun p q => p ≠ q ∧ p ≠ (q.2, q.1)
def planD (o : Bool) (ks : List Str) (ps : List (Str × Str)) : D := .dic o [(.inr (Str.ofString "kinds"), .lst false (ks.map .str)), (.inr (Str.ofString "pairs"), .lst false (ps.map pairD))]
/-- whether two kinds suit -/
def fits (ps : List (Str × Str)) (a b : Str) : Bool := decide ((a, b) ∈ ps) || decide ((b, a) ∈ ps)
theorem frs_pairs (ps : List (Str × Str)) : D.frs (ps.map pairD) = true := frs_of fun x hx => by
  obtain ⟨k, _, rfl⟩ := List.mem_map.mp hx
  rfl
theorem nobs_pairs (ps : List (Str × Str)) : D.nobs (ps.map pairD) = true := nobs_of fun x hx => by
  obtain ⟨k, _, rfl⟩ := List.mem_map.mp hx
  rfl
theorem fzs_pairs (ps : List (Str × Str)) : D.fzs (ps.map pairD) = ps.map pairD := D.fzs_of (frs_pairs ps)
theorem PlanOk.playS {ks : List Str} {ps : List (Str × Str)} (h : PlanOk ks ps) : ∀ p ∈ ps, PyEnc.lay p := fun p hp => ⟨(h.kind _ (h.mem p hp).1).lay, (h.kind _ (h.mem p hp).2).lay⟩
theorem dkF_pairs (o : Bool) (ks : List Str) (ps : List (Str × Str)) : dkF (planD o ks ps) (.str (Str.ofString "pairs")) = some (.lst false (ps.map pairD)) := by
  unfold dkF planD dkD lookK
  have e : (decide ((Sum.inr (Str.ofString "kinds") : Key) = Sum.inr (Str.ofString "pairs"))) = false := by decide +kernel
  dsimp only
  rw [List.find?_cons, e]
  simp [D.fr]
theorem dkF_kinds (o : Bool) (ks : List Str) (ps : List (Str × Str)) : dkF (planD o ks ps) (.str (Str.ofString "kinds")) = some (.lst false (ks.map .str)) := by
  unfold dkF planD dkD lookK
  simp [List.find?_cons, D.fr]
/-- the law's own look at two kinds -/
theorem fit_ok {ks : List Str} {ps : List (Str × Str)} (h : PlanOk ks ps) {a b : Str} (ha : PyEnc.lay a) (hb : PyEnc.lay b) (o : Bool) (s : Sto) : WF f__law_fit [planD o ks ps, .str a, .str b] s fun r s' => r = .bl (fits ps a b) ∧ s' = s := by
  refine WF_of ?_
  unfold m__law_fit
  show W _ [some (planD o ks ps), some (.str a), some (.str b)] _ _
  have k : ∀ a b : Str, PyEnc.lay a → PyEnc.lay b → inB (.tup [.str a, .str b]) (.lst false (ps.map pairD)) = some (.bl (decide ((a, b) ∈ ps))) := fun a b ha hb => inB_enc (isE_pair (isE_str a) (isE_str b)) isE_pairD ⟨ha, hb⟩ h.playS
  refine W_ret (W_or (W_bin (W_xx (W_tup (W_cons (W_var rfl rfl (W_cons (W_var rfl rfl (W_nil ⟨rfl, W_bin (W_nx rfl (W_c ⟨_, rfl, _, dkF_pairs o ks ps, _, k a b ha hb, ?_⟩))⟩)))))))))
  refine Br_b (fun w => ?_) (fun w => ?_)
  · exact ⟨by unfold fits; rw [w]; rfl, rfl⟩
  · refine W_bin (W_xx (W_tup (W_cons (W_var rfl rfl (W_cons (W_var rfl rfl (W_nil ⟨rfl, W_bin (W_nx rfl (W_c ⟨_, rfl, _, dkF_pairs o ks ps, _, k b a hb ha, ?_⟩))⟩)))))))
    exact ⟨by unfold fits; rw [w]; rfl, rfl⟩
end Fw

set_option Elab.async false
set_option linter.all false
set_option maxRecDepth 100000
namespace Fw
open PySem PySem.Spec PyProof.Rows L2
/-! tests whose answer does not matter -/
def AnyB (m : Mo D) (e : DEnv) (s : Sto) : Prop := ∃ b, m e s = some (.bl b, e, s)
section
variable {a b : Mo D} {e : DEnv} {s : Sto}
theorem anyB_or (ha : AnyB a e s) (hb : AnyB b e s) : AnyB (mOr a b) e s := by
  obtain ⟨x, hx⟩ := ha
  obtain ⟨y, hy⟩ := hb
  unfold AnyB mOr
  rw [hx]
  cases x with
  | true => exact ⟨true, rfl⟩
  | false => exact ⟨y, by dsimp only; rw [if_neg (by decide), hy]⟩
theorem anyB_and (ha : AnyB a e s) (hb : AnyB b e s) : AnyB (mAnd a b) e s := by
  obtain ⟨x, hx⟩ := ha
  obtain ⟨y, hy⟩ := hb
  unfold AnyB mAnd
  rw [hx]
  cases x with
  | true => exact ⟨y, by dsimp only; rw [if_pos rfl, hy]⟩
  | false => exact ⟨false, rfl⟩
theorem anyB_of (w : W a e s fun d e2 s2 => (∃ x, d = .bl x) ∧ e2 = e ∧ s2 = s) : AnyB a e s := by
  obtain ⟨d, e2, s2, h, ⟨x, rfl⟩, rfl, rfl⟩ := w
  exact ⟨x, h⟩
theorem W_any {Q : D → DEnv → Sto → Prop} (h : AnyB a e s) (q : ∀ x, Q (.bl x) e s) : W a e s Q := by
  obtain ⟨x, hx⟩ := h
  exact ⟨_, _, _, hx, q x⟩
end
theorem ixD_ints {o : Bool} {ns : List Int} {i : Int} (h0 : 0 ≤ i) (h1 : i < ns.length) : ∃ x, x ∈ ns ∧ ixD (.lst o (ns.map .int)) (.int i) = some (.int x) := ixD_map h0 h1
theorem ixD_at {o : Bool} {xs : List D} {i : Nat} {d : D} (h : xs[i]? = some d) : ixD (.lst o xs) (.int (i : Int)) = some d := atD_of (by omega) (by simpa using h)
theorem ixD_strs {o : Bool} {ks : List Str} {i : Nat} (h : i < ks.length) : ixD (.lst o (ks.map .str)) (.int (i : Int)) = some (.str ks[i]) := ixD_at (by rw [List.getElem?_map, List.getElem?_eq_getElem h]; rfl)
/-- pairs of the kinds up to (k, j) -/
structure PairsUp (ks : List Str) (k j : Nat) (ps : List (Str × Str)) : Prop where
  mem : ∀ p ∈ ps, ∃ i l : Nat, l ≤ i ∧ (i < k ∨ (i = k ∧ l < j)) ∧ ∃ (hi : i < ks.length) (hl : l < ks.length), p = (ks[l], ks[i]) ∨ p = (ks[i], ks[l])
  len : 2 * ps.length ≤ k * (k + 1) + 2 * j
  pnd : ps.Pairwise fun p q => p ≠ q ∧ p ≠ (q.2, q.1)
theorem PairsUp.skip {ks : List Str} {k j : Nat} {ps : List (Str × Str)} (h : PairsUp ks k j ps) : PairsUp ks k (j + 1) ps :=
  ⟨fun p hp => let ⟨i, l, a, b, c⟩ := h.mem p hp; ⟨i, l, a, by omega, c⟩, by have := h.len; omega, h.pnd⟩
theorem PairsUp.next {ks : List Str} {k : Nat} {ps : List (Str × Str)} (h : PairsUp ks k (k + 1) ps) : PairsUp ks (k + 1) 0 ps :=
  ⟨fun p hp => let ⟨i, l, a, b, c⟩ := h.mem p hp; ⟨i, l, a, by omega, c⟩, by
    have := h.len
    have e : (k + 1) * (k + 1 + 1) = k * (k + 1) + 2 * (k + 1) := by
      rw [Nat.add_mul, Nat.mul_add k (k+1) 1, Nat.one_mul]; omega
    omega, h.pnd⟩
theorem PairsUp.put {ks : List Str} {k j : Nat} {ps : List (Str × Str)} (nd : ks.Nodup) (h : PairsUp ks k j ps) (hj : j ≤ k) (hk : k < ks.length) {p : Str × Str} (hp : p = (ks[j]'(by omega), ks[k]) ∨ p = (ks[k], ks[j]'(by omega))) (n : Nat) : PairsUp ks k (j + 1) (ps.take n ++ [p] ++ ps.drop n) := by
  have inj : ∀ {a b : Nat} (ha : a < ks.length) (hb : b < ks.length), ks[a] = ks[b] → a = b := fun ha hb e => (List.getElem_inj nd).mp e
  have pm : (ps.take n ++ [p] ++ ps.drop n).Perm (p :: ps) := by
    rw [List.append_assoc]
    refine (List.perm_append_comm (l₁ := ps.take n) (l₂ := [p] ++ ps.drop n)).trans ?_
    rw [List.append_assoc, List.singleton_append]
    refine List.Perm.cons p (List.perm_append_comm.trans ?_)
    rw [List.take_append_drop]
  have new : ∀ q ∈ ps, p ≠ q ∧ p ≠ (q.2, q.1) := by
    intro q hq
    obtain ⟨i, l, a, b, hi, hl, c⟩ := h.mem q hq
    have key : ∀ (x y : Nat) (hx : x < ks.length) (hy : y < ks.length), ((x = j ∧ y = k) ∨ (x = k ∧ y = j)) → ((ks[x], ks[y]) : Str × Str) = (ks[l], ks[i]) ∨ ((ks[x], ks[y]) : Str × Str) = (ks[i], ks[l]) → False := by
      intro x y hx hy e1 e2
      rcases e2 with e2 | e2
      · rw [Prod.mk.injEq] at e2
        have := inj hx hl e2.1
        have := inj hy hi e2.2
        omega
      · rw [Prod.mk.injEq] at e2
        have := inj hx hi e2.1
        have := inj hy hl e2.2
        omega
    have hp' : ∃ (x y : Nat) (hx : x < ks.length) (hy : y < ks.length), ((x = j ∧ y = k) ∨ (x = k ∧ y = j)) ∧ p = (ks[x], ks[y]) := by
      rcases hp with e | e
      · exact ⟨j, k, by omega, hk, .inl ⟨rfl, rfl⟩, e⟩
      · exact ⟨k, j, hk, by omega, .inr ⟨rfl, rfl⟩, e⟩
    obtain ⟨x, y, hx, hy, e1, rfl⟩ := hp'
    refine ⟨fun e => key x y hx hy e1 ?_, fun e => key x y hx hy e1 ?_⟩
    · rw [e]; exact c
    · rw [e]
      rcases c with c | c
      · rw [c]; exact .inr rfl
      · rw [c]; exact .inl rfl
  refine ⟨fun q hq => ?_, ?_, ?_⟩
  · rcases List.mem_cons.mp (pm.mem_iff.mp hq) with rfl | w
    · exact ⟨k, j, hj, .inr ⟨rfl, by omega⟩, hk, by omega, hp⟩
    · obtain ⟨i, l, a, b, c⟩ := h.mem q w
      exact ⟨i, l, a, by omega, c⟩
  · rw [pm.length_eq, List.length_cons]; have := h.len; omega
  · refine (pm.pairwise_iff fun {a b} hab => ?_).mpr (List.pairwise_cons.mpr ⟨new, h.pnd⟩)
    refine ⟨Ne.symm hab.1, fun e => hab.2 ?_⟩
    rw [e]
theorem PairsUp.plan {ks : List Str} {ps : List (Str × Str)} (h : PairsUp ks ks.length 0 ps) (p1 : 1 ≤ ks.length) (p8 : ks.length ≤ 8) (nd : ks.Nodup) (kd : ∀ k ∈ ks, KindS k) : PlanOk ks ps := by
  refine ⟨p1, p8, nd, kd, fun p hp => ?_, ?_, h.pnd⟩
  · obtain ⟨i, l, _, _, hi, hl, c⟩ := h.mem p hp
    rcases c with rfl | rfl
    · exact ⟨List.getElem_mem hl, List.getElem_mem hi⟩
    · exact ⟨List.getElem_mem hi, List.getElem_mem hl⟩
  · have := h.len
    have : ks.length * (ks.length + 1) ≤ 8 * 9 := Nat.mul_le_mul p8 (by omega)
    omega
theorem gInsert_at {xs : List D} {i : Int} {d : D} (h0 : 0 ≤ i) (h1 : i < 2 ^ 60) (hl : xs.length < 100000) : gInsert xs [.int i, d] = some (.non, xs.take i.toNat ++ [d] ++ xs.drop i.toNat) :=
  if_pos ⟨decide_eq_true (by omega), h0, by omega⟩
local macro_rules | `(tactic| w_fin) => `(tactic| first | ((first | (with_reducible refine W_seq ?_) | (with_reducible refine W_ite ?_) | (with_reducible refine Nx_nx ?_) | (with_reducible refine Nx_rt ?_) | (with_reducible refine Nx_bk ?_) | (with_reducible refine Nx_ct ?_) | (with_reducible refine Br_t ?_) | (with_reducible refine Br_f ?_) | (with_reducible refine Br_nt ?_) | (with_reducible refine Br_nf ?_) | (with_reducible refine W_for ?_) | (with_reducible refine W_skip ?_) | (with_reducible refine W_pass ?_) | (with_reducible refine W_set ?_) | (with_reducible refine W_ret ?_) | (with_reducible refine W_expr ?_) | (with_reducible refine W_bin ?_) | (with_reducible refine W_un ?_) | (with_reducible refine W_c ?_) | (with_reducible refine W_xx ?_) | (with_reducible refine W_xn ?_) | (with_reducible refine W_ox ?_) | (with_reducible refine W_nil ?_) | (with_reducible refine W_cons ?_) | (with_reducible refine W_lst ?_) | (with_reducible refine W_tup ?_) | (with_reducible refine W_ixx ?_) | (with_reducible refine W_ixn ?_) | (with_reducible refine W_p0 ?_) | (with_reducible refine W_p1 ?_) | (with_reducible refine W_slx ?_) | (with_reducible refine W_nix ?_) | (with_reducible refine W_and ?_) | (with_reducible refine W_or ?_) | (with_reducible refine W_not ?_) | (with_reducible refine W_tru ?_) | (with_reducible refine W_if ?_) | (with_reducible refine W_par ?_) | (with_reducible refine W_asg ?_) | (with_reducible refine W_rng1 ?_) | (with_reducible refine W_storeI ?_) | (with_reducible refine W_dnew ?_) | (with_reducible refine W_ps0 ?_) | (with_reducible refine W_ps1 ?_) | (with_reducible refine W_o0 ?_) | (with_reducible refine W_ox' ?_) | (with_reducible refine W_break ?_) | (with_reducible refine W_cont ?_) | ((with_reducible refine' W_sln ?h1 ?_); (case h1 => exact rfl)) | ((with_reducible refine' W_var ?h1 ?h2 ?_); (case h1 => exact rfl); (case h2 => exact rfl)) | ((with_reducible refine' W_mv ?h1 ?_); (case h1 => exact rfl)) | ((with_reducible refine' W_nx ?h1 ?_); (case h1 => exact rfl)) | ((with_reducible refine' W_nn ?h1 ?h2 ?_); (case h1 => exact rfl); (case h2 => exact rfl)) | ((with_reducible refine' W_on ?h1 ?_); (case h1 => exact rfl)) | ((with_reducible refine' W_on' ?h1 ?_); (case h1 => exact rfl)) | ((with_reducible refine' W_augI ?h1 ?_); (case h1 => exact rfl)) | ((with_reducible refine' W_aug ?h1 ?_); (case h1 => exact rfl)) | ((with_reducible refine' W_mt ?h1 ?_); (case h1 => exact rfl)) | (with_reducible refine Exists.intro _ (And.intro (eqB_int _ _) ?_)) | (with_reducible refine Exists.intro _ (And.intro (max2_nat _ _) ?_)) | (with_reducible refine Exists.intro _ (And.intro (max3_nat _ _ _) ?_)) | (with_reducible refine W_fn2 ?_) | (with_reducible refine Exists.intro _ (And.intro (eqB_str _ _) ?_)) | ((with_reducible refine' Exists.intro _ (And.intro (mulD_l ?h1) ?_)); (case h1 => decide)) | ((with_reducible refine' Exists.intro _ (And.intro (mulD_r ?h1) ?_)); (case h1 => decide)) | ((with_reducible refine' Exists.intro _ (And.intro (modD_l ?h1) ?_)); (case h1 => decide)) | ((with_reducible refine' Exists.intro _ (And.intro (fdivD_l ?h1) ?_)); (case h1 => decide)) | ((with_reducible refine' Exists.intro _ (And.intro (slD_str ?h1) ?_)); (case h1 => first | assumption | omega)) | ((with_reducible refine' Exists.intro _ (And.intro (lenD_str ?h1) ?_)); (case h1 => first | assumption | omega)) | ((with_reducible refine' Exists.intro _ (And.intro (addD_str ?h1) ?_)); (case h1 => first | assumption | omega)) | ((with_reducible refine' And.intro (smallI_of ?h1) ?_); (case h1 => omega))); (try dsimp only [List.set_cons_zero, List.set_cons_succ, placeSet, peek, deref, D.isN', List.getElem?_cons_zero, List.getElem?_cons_succ, Int.reduceToNat, D.fz, D.fzs, setAll, keepE, wipeE, Option.getD_some, Option.getD_none]); w_fin) | (with_reducible refine hold_mul ?_) | (with_reducible refine hold_mod ?_) | (with_reducible refine hold_fdiv ?_) | (with_reducible refine hold_small ?_) | ((first | ((with_reducible refine' Exists.intro _ (And.intro ?h1 ?_)); (case h1 => exact rfl)) | ((with_reducible refine' And.intro ?h1 ?_); (case h1 => first | exact rfl | exact of_decide_eq_true rfl))); (try dsimp only [List.set_cons_zero, List.set_cons_succ, placeSet, peek, deref, D.isN', List.getElem?_cons_zero, List.getElem?_cons_succ, Int.reduceToNat, D.fz, D.fzs, setAll, keepE, wipeE, Option.getD_some, Option.getD_none]); w_fin) | skip)
theorem rangeOf_cons {lo : Int} {n : Nat} {d : D} {ds : List D} (h : rangeOf lo n = d :: ds) : ∃ m, n = m + 1 ∧ d = .int lo ∧ ds = rangeOf (lo + 1) m := by
  cases n with
  | zero => simp [rangeOf] at h
  | succ m =>
    unfold rangeOf at h ⊢
    rw [List.range_succ_eq_map, List.map_cons, List.map_map] at h
    injection h with h1 h2
    refine ⟨m, rfl, by rw [← h1]; simp, ?_⟩
    rw [← h2]
    apply List.map_congr_left
    intro i _
    show D.int (lo + ((i + 1 : Nat) : Int)) = D.int (lo + 1 + (i : Int))
    congr 1
    omega
end Fw

set_option Elab.async false
set_option linter.all false
set_option maxRecDepth 100000
namespace Fw
set_option maxHeartbeats 1000000
open PySem PySem.Spec PyProof.Rows L2
theorem WF.imp {f : Fn} {ds : List D} {s : Sto} {Q Q' : D → Sto → Prop} (w : WF f ds s Q) (k : ∀ d s', Q d s' → Q' d s') : WF f ds s Q' := let ⟨d, s', h, q⟩ := w; ⟨d, s', h, k d s' q⟩
theorem smallI_of {i : Int} (h : -4611686018427387904 ≤ i ∧ i < 4611686018427387904) : smallI i = true := decide_eq_true (by omega)
local macro_rules | `(tactic| w_fin) => `(tactic| first | ((first | (with_reducible refine W_seq ?_) | (with_reducible refine W_ite ?_) | (with_reducible refine Nx_nx ?_) | (with_reducible refine Nx_rt ?_) | (with_reducible refine Nx_bk ?_) | (with_reducible refine Nx_ct ?_) | (with_reducible refine Br_t ?_) | (with_reducible refine Br_f ?_) | (with_reducible refine Br_nt ?_) | (with_reducible refine Br_nf ?_) | (with_reducible refine W_for ?_) | (with_reducible refine W_skip ?_) | (with_reducible refine W_pass ?_) | (with_reducible refine W_set ?_) | (with_reducible refine W_ret ?_) | (with_reducible refine W_expr ?_) | (with_reducible refine W_bin ?_) | (with_reducible refine W_un ?_) | (with_reducible refine W_c ?_) | (with_reducible refine W_xx ?_) | (with_reducible refine W_xn ?_) | (with_reducible refine W_ox ?_) | (with_reducible refine W_nil ?_) | (with_reducible refine W_cons ?_) | (with_reducible refine W_lst ?_) | (with_reducible refine W_tup ?_) | (with_reducible refine W_ixx ?_) | (with_reducible refine W_ixn ?_) | (with_reducible refine W_p0 ?_) | (with_reducible refine W_p1 ?_) | (with_reducible refine W_slx ?_) | (with_reducible refine W_nix ?_) | (with_reducible refine W_and ?_) | (with_reducible refine W_or ?_) | (with_reducible refine W_not ?_) | (with_reducible refine W_tru ?_) | (with_reducible refine W_if ?_) | (with_reducible refine W_par ?_) | (with_reducible refine W_asg ?_) | (with_reducible refine W_rng1 ?_) | (with_reducible refine W_storeI ?_) | (with_reducible refine W_dnew ?_) | (with_reducible refine W_ps0 ?_) | (with_reducible refine W_ps1 ?_) | (with_reducible refine W_o0 ?_) | (with_reducible refine W_ox' ?_) | (with_reducible refine W_break ?_) | (with_reducible refine W_cont ?_) | ((with_reducible refine' W_sln ?h1 ?_); (case h1 => exact rfl)) | ((with_reducible refine' W_var ?h1 ?h2 ?_); (case h1 => exact rfl); (case h2 => exact rfl)) | ((with_reducible refine' W_mv ?h1 ?_); (case h1 => exact rfl)) | ((with_reducible refine' W_nx ?h1 ?_); (case h1 => exact rfl)) | ((with_reducible refine' W_nn ?h1 ?h2 ?_); (case h1 => exact rfl); (case h2 => exact rfl)) | ((with_reducible refine' W_on ?h1 ?_); (case h1 => exact rfl)) | ((with_reducible refine' W_on' ?h1 ?_); (case h1 => exact rfl)) | ((with_reducible refine' W_augI ?h1 ?_); (case h1 => exact rfl)) | ((with_reducible refine' W_aug ?h1 ?_); (case h1 => exact rfl)) | ((with_reducible refine' W_mt ?h1 ?_); (case h1 => exact rfl)) | (with_reducible refine Exists.intro _ (And.intro (eqB_int _ _) ?_)) | (with_reducible refine Exists.intro _ (And.intro (max2_nat _ _) ?_)) | (with_reducible refine Exists.intro _ (And.intro (max3_nat _ _ _) ?_)) | (with_reducible refine W_fn2 ?_) | (with_reducible refine Exists.intro _ (And.intro (eqB_str _ _) ?_)) | ((with_reducible refine' Exists.intro _ (And.intro (mulD_l ?h1) ?_)); (case h1 => decide)) | ((with_reducible refine' Exists.intro _ (And.intro (mulD_r ?h1) ?_)); (case h1 => decide)) | ((with_reducible refine' Exists.intro _ (And.intro (modD_l ?h1) ?_)); (case h1 => decide)) | ((with_reducible refine' Exists.intro _ (And.intro (fdivD_l ?h1) ?_)); (case h1 => decide)) | ((with_reducible refine' Exists.intro _ (And.intro (slD_str ?h1) ?_)); (case h1 => first | assumption | omega)) | ((with_reducible refine' Exists.intro _ (And.intro (lenD_str ?h1) ?_)); (case h1 => first | assumption | omega)) | ((with_reducible refine' Exists.intro _ (And.intro (addD_str ?h1) ?_)); (case h1 => first | assumption | omega)) | ((with_reducible refine' And.intro (smallI_of ?h1) ?_); (case h1 => omega))); (try dsimp only [List.set_cons_zero, List.set_cons_succ, placeSet, peek, deref, D.isN', List.getElem?_cons_zero, List.getElem?_cons_succ, Int.reduceToNat, D.fz, D.fzs, setAll, keepE, wipeE, Option.getD_some, Option.getD_none]); w_fin) | (with_reducible refine hold_mul ?_) | (with_reducible refine hold_mod ?_) | (with_reducible refine hold_fdiv ?_) | (with_reducible refine hold_small ?_) | ((first | ((with_reducible refine' Exists.intro _ (And.intro ?h1 ?_)); (case h1 => exact rfl)) | ((with_reducible refine' And.intro ?h1 ?_); (case h1 => first | exact rfl | exact of_decide_eq_true rfl))); (try dsimp only [List.set_cons_zero, List.set_cons_succ, placeSet, peek, deref, D.isN', List.getElem?_cons_zero, List.getElem?_cons_succ, Int.reduceToNat, D.fz, D.fzs, setAll, keepE, wipeE, Option.getD_some, Option.getD_none]); w_fin) | skip)
/-- a loop over numbers -/
theorem forL_range {bi : Bi} {mb : Ms} {Q : Fl → DEnv → Sto → Prop} {n : Nat} (J : Nat → DEnv → Sto → Prop) (step : ∀ k e s, k < n → J k e s → ∃ e1, bi (.int (k : Int)) e = some e1 ∧ W mb e1 s (fun f e2 s2 => match f with | .nx => J (k + 1) e2 s2 | .ct => J (k + 1) e2 s2 | .bk => Q .nx e2 s2 | .rt r => Q (.rt r) e2 s2))
    (fin : ∀ e s, J n e s → Q .nx e s) {e : DEnv} {s : Sto} (h : J 0 e s) : W (forL bi mb (rangeOf 0 n)) e s Q := by
  refine forL_inv (fun ds e s => ∃ k, k ≤ n ∧ ds = rangeOf (k : Int) (n - k) ∧ J k e s) ?_ ?_ _ _ _ ⟨0, Nat.zero_le _, rfl, h⟩
  · rintro d ds e s ⟨k, hk, hd, hj⟩
    obtain ⟨m, hm, rfl, rfl⟩ := rangeOf_cons hd.symm
    obtain ⟨e1, h1, w⟩ := step k e s (by omega) hj
    refine ⟨e1, h1, w.imp fun f e2 s2 q => ?_⟩
    have nxt : J (k + 1) e2 s2 → ∃ k', k' ≤ n ∧ rangeOf ((k : Int) + 1) m = rangeOf (k' : Int) (n - k') ∧ J k' e2 s2 := fun z => ⟨k + 1, by omega, by rw [show n - (k + 1) = m by omega]; congr 1, z⟩
    cases f with
    | nx => exact nxt q
    | ct => exact nxt q
    | bk => exact q
    | rt r => exact q
  · rintro e s ⟨k, hk, hd, hj⟩
    have : (rangeOf (k : Int) (n - k)).length = 0 := by rw [← hd]; rfl
    have e0 : n - k = 0 := by unfold rangeOf at this; simpa using this
    have : k = n := by omega
    subst this
    exact fin e s hj
abbrev planE (most many style loops : Int) (ks : List Str) (ps : List (Str × Str)) (x7 x8 x9 x10 x11 : Option D) : DEnv := [some (.cel 0), some (.int most), some (.int many), some (.lst true (ks.map .str)), some (.lst true (ps.map pairD)), some (.int style), some (.int loops), x7, x8, x9, x10, x11]
theorem plan_ok {s : Sto} (hb : BagS s) {most : Int} (h : 1 ≤ most ∧ most ≤ 8) : WF f__law_plan [.cel 0, .int most] s fun d s' => BagS s' ∧ ∃ ks ps, d = planD true ks ps ∧ PlanOk ks ps ∧ (ks.length : Int) ≤ most := by
  refine WF_of ?_
  unfold m__law_plan
  show W _ [some (.cel 0), some (.int most), none, none, none, none, none, none, none, none, none, none] _ _
  w_fin
  refine W_tk rfl ?_
  w_fin
  refine W_of (a := .int (if most < 4 then most else 4)) (e := [some (.cel 0), some (.int most), none, none, none, none, none, none, none, none, none, none]) (s := s) (by rfl) ?_
  w_fin
  refine W_tkc rfl (by decide) hb fun r s1 r0 r1 hb1 => ?_
  have hx : ∃ x : Int, 1 ≤ x ∧ x ≤ most ∧ ixD (.lst true [.int (if most < 4 then most else 4), .int most]) (.int r) = some (.int x) := by
    have : r = 0 ∨ r = 1 := by omega
    rcases this with rfl | rfl
    · exact ⟨_, by split <;> omega, by split <;> omega, rfl⟩
    · exact ⟨_, h.1, Int.le_refl _, rfl⟩
  obtain ⟨x, x1, x2, hx⟩ := hx
  refine ⟨_, hx, x, rfl, by omega, by omega, hb1, fun q s2 q0 q1 hb2 => ?_⟩
  w_fin
  obtain ⟨many, hm, hme⟩ : ∃ many : Nat, 1 ≤ many ∧ (1 + q : Int) = many := ⟨(1 + q).toNat, by omega, by omega⟩
  rw [hme]
  have hm8 : many ≤ 8 := by omega
  refine W_call ?_
  w_fin
  refine WF.imp (names_ok hb2 (many := many) (by omega)) fun d s3 ⟨hb3, ks, hd, hkl, hnd, hkd⟩ => ?_
  subst hd
  have hkl : ks.length = many := by omega
  w_fin
  refine W_tkc rfl (by decide) hb3 fun style s4 t0 t1 hb4 => ?_
  w_fin
  refine W_tkc rfl (by decide) hb4 fun loops s5 l0 l1 hb5 => ?_
  w_fin
  -- the state between two turns
  refine forL_range (n := many) (fun k e s => BagS s ∧ ∃ x7 x8 x9 x10 x11 ps, e = planE most many style loops ks ps x7 x8 x9 x10 x11 ∧ PairsUp ks k 0 ps) ?_ ?_ ⟨hb5, none, none, none, none, none, [], rfl, ⟨by simp, by simp, List.Pairwise.nil⟩⟩
  · rintro k e s hk ⟨hb, x7, x8, x9, x10, x11, ps, rfl, hp⟩
    refine ⟨_, rfl, ?_⟩
    dsimp only [planE]
    w_fin
    have ek : ((k : Int) + 1).toNat = k + 1 := by omega
    rw [ek]
    refine forL_range (n := k + 1) (fun j e s => BagS s ∧ ∃ x8 x9 x10 x11 ps, e = planE most many style loops ks ps (some (.int (k : Int))) x8 x9 x10 x11 ∧ PairsUp ks k j ps) ?_ ?_ ⟨hb, x8, x9, x10, x11, ps, rfl, hp⟩
    · rintro j e s hj ⟨hb, x8, x9, x10, x11, ps, rfl, hp⟩
      refine ⟨_, rfl, ?_⟩
      dsimp only [planE, List.set_cons_zero, List.set_cons_succ]
      refine W_seq (W_set ?_)
      refine W_any (anyB_or (anyB_of ?a) (anyB_and (anyB_of ?b) (anyB_and (anyB_of ?c) (anyB_of ?d)))) fun near => ?_
      case a => w_fin; exact ⟨⟨_, rfl⟩, rfl, rfl⟩
      case b => w_fin; exact ⟨⟨_, rfl⟩, rfl, rfl⟩
      case c => w_fin; exact ⟨⟨_, rfl⟩, rfl, rfl⟩
      case d => w_fin; exact ⟨⟨_, rfl⟩, rfl, rfl⟩
      w_fin
      obtain ⟨o1, _, ho1⟩ := ixD_ints (o := true) (ns := [4 * (if near then 1 else 0), 4 * (if near then 1 else 0), 4, 1, 2, 3]) (i := style) t0 (by show style < 6; exact t1)
      refine ⟨_, ho1, of_decide_eq_true rfl, Nx_nx (W_seq (W.imp (Q := fun f e s' => f = .nx ∧ s' = s ∧ ∃ odds : Int, e = planE most many style loops ks ps (some (.int (k : Int))) (some (.int (j : Int))) (some (.bl near)) (some (.int odds)) x11) ?_ ?_))⟩
      · w_fin
        refine Br_b (fun h1 => ?_) (fun h1 => ?_)
        · w_fin
          obtain ⟨o2, _, ho2⟩ := ixD_ints (o := true) (ns := [0, 1, 3]) (i := loops) l0 (by show loops < 3; exact l1)
          refine ⟨_, ho2, of_decide_eq_true rfl, rfl, rfl, o2, rfl⟩
        · w_fin
          exact ⟨o1, rfl⟩
      · rintro f e s' ⟨rfl, rfl, odds, rfl⟩
        dsimp only [planE]
        w_fin
        refine W_tkc rfl (by decide) hb fun q4 s6 u0 u1 hb6 => ?_
        w_fin
        refine Br_b (fun h1 => ?_) (fun h1 => ?_)
        · w_fin
          have hj' : j < ks.length := by omega
          have hk' : k < ks.length := by omega
          refine W_alt ?_
          w_fin
          refine ⟨_, ixD_strs hj', rfl, ?_⟩
          refine W_cons (W_alt ?_)
          w_fin
          refine ⟨_, ixD_strs hk', rfl, ?_⟩
          w_fin
          refine W_alt ?_
          w_fin
          refine ⟨_, ixD_strs hk', rfl, ?_⟩
          refine W_cons (W_alt ?_)
          w_fin
          refine ⟨_, ixD_strs hj', rfl, ?_⟩
          w_fin
          refine W_tkc rfl (by decide) hb6 fun q5 s7 v0 v1 hb7 => ?_
          obtain ⟨p, hpp, hix⟩ : ∃ p : Str × Str, (p = (ks[j], ks[k]) ∨ p = (ks[k], ks[j])) ∧ ixD (.lst true [.tup [.str ks[j], .str ks[k]], .tup [.str ks[k], .str ks[j]]]) (.int q5) = some (pairD p) := by
            have : q5 = 0 ∨ q5 = 1 := by omega
            rcases this with rfl | rfl
            · exact ⟨_, .inl rfl, rfl⟩
            · exact ⟨_, .inr rfl, rfl⟩
          refine ⟨_, hix, ?_⟩
          w_fin
          have hpl : (ps.map pairD).length ≤ 100 := by
            rw [List.length_map]
            have := hp.len
            have : k * (k + 1) ≤ 8 * 9 := Nat.mul_le_mul (by omega) (by omega)
            omega
          refine W_tk rfl ?_
          w_fin
          refine ⟨by omega, by omega, hb7, fun at_ s8 a0 a1 hb8 => ?_⟩
          refine W_cons (W_var (d := pairD p) rfl rfl ?_)
          refine W_nil ⟨_, rfl, _, gInsert_at a0 (by omega) (by omega), hb8, some (.int (j : Int)), some (.bl near), some (.int odds), some (pairD p), ps.take at_.toNat ++ [p] ++ ps.drop at_.toNat, ?_, hp.put hnd (by omega) hk' hpp _⟩
          rw [List.map_append, List.map_append, List.map_take, List.map_drop]
          rfl
        · w_fin
          exact ⟨hb6, _, _, _, _, ps, rfl, hp.skip⟩
    · rintro e s ⟨hb, x8, x9, x10, x11, ps, rfl, hp⟩
      exact ⟨hb, _, x8, x9, x10, x11, ps, rfl, hp.next⟩
  · rintro e s ⟨hb, x7, x8, x9, x10, x11, ps, rfl, hp⟩
    dsimp only [planE]
    w_fin
    refine W_disp (by decide) (by decide +kernel) (W_ps1 (W_varz rfl rfl ?_ (W_ps1 (W_varz rfl rfl ?_ (W_ps0 ?_)))))
    · exact nobs_strs ks
    · exact nobs_pairs ps
    · refine ⟨hb, ks, ps, ?_, ?_, by omega⟩
      · unfold planD
        rw [D.fz, if_pos rfl, fzs_strs, D.fz, if_pos rfl, fzs_pairs]
      · refine PairsUp.plan ?_ (by omega) (by omega) hnd hkd
        rw [hkl]; exact hp
end Fw

set_option Elab.async false
set_option linter.all false
set_option maxRecDepth 100000
namespace Fw
open PySem PySem.Spec PyProof.Rows L2
theorem gAppend_of {xs : List D} {d : D} (h : xs.length < 1000000) : gAppend xs [d] = some (.non, xs ++ [d]) := if_pos (decide_eq_true (by omega))
local macro_rules | `(tactic| w_fin) => `(tactic| first | ((first | (with_reducible refine W_seq ?_) | (with_reducible refine W_ite ?_) | (with_reducible refine Nx_nx ?_) | (with_reducible refine Nx_rt ?_) | (with_reducible refine Nx_bk ?_) | (with_reducible refine Nx_ct ?_) | (with_reducible refine Br_t ?_) | (with_reducible refine Br_f ?_) | (with_reducible refine Br_nt ?_) | (with_reducible refine Br_nf ?_) | (with_reducible refine W_for ?_) | (with_reducible refine W_skip ?_) | (with_reducible refine W_pass ?_) | (with_reducible refine W_set ?_) | (with_reducible refine W_ret ?_) | (with_reducible refine W_expr ?_) | (with_reducible refine W_bin ?_) | (with_reducible refine W_un ?_) | (with_reducible refine W_c ?_) | (with_reducible refine W_xx ?_) | (with_reducible refine W_xn ?_) | (with_reducible refine W_ox ?_) | (with_reducible refine W_nil ?_) | (with_reducible refine W_cons ?_) | (with_reducible refine W_lst ?_) | (with_reducible refine W_tup ?_) | (with_reducible refine W_ixx ?_) | (with_reducible refine W_ixn ?_) | (with_reducible refine W_p0 ?_) | (with_reducible refine W_p1 ?_) | (with_reducible refine W_slx ?_) | (with_reducible refine W_nix ?_) | (with_reducible refine W_and ?_) | (with_reducible refine W_or ?_) | (with_reducible refine W_not ?_) | (with_reducible refine W_tru ?_) | (with_reducible refine W_if ?_) | (with_reducible refine W_par ?_) | (with_reducible refine W_asg ?_) | (with_reducible refine W_rng1 ?_) | (with_reducible refine W_storeI ?_) | (with_reducible refine W_dnew ?_) | (with_reducible refine W_ps0 ?_) | (with_reducible refine W_ps1 ?_) | (with_reducible refine W_o0 ?_) | (with_reducible refine W_ox' ?_) | (with_reducible refine W_break ?_) | (with_reducible refine W_cont ?_) | ((with_reducible refine' W_sln ?h1 ?_); (case h1 => exact rfl)) | ((with_reducible refine' W_var ?h1 ?h2 ?_); (case h1 => exact rfl); (case h2 => exact rfl)) | ((with_reducible refine' W_mv ?h1 ?_); (case h1 => exact rfl)) | ((with_reducible refine' W_nx ?h1 ?_); (case h1 => exact rfl)) | ((with_reducible refine' W_nn ?h1 ?h2 ?_); (case h1 => exact rfl); (case h2 => exact rfl)) | ((with_reducible refine' W_on ?h1 ?_); (case h1 => exact rfl)) | ((with_reducible refine' W_on' ?h1 ?_); (case h1 => exact rfl)) | ((with_reducible refine' W_augI ?h1 ?_); (case h1 => exact rfl)) | ((with_reducible refine' W_aug ?h1 ?_); (case h1 => exact rfl)) | ((with_reducible refine' W_mt ?h1 ?_); (case h1 => exact rfl)) | (with_reducible refine Exists.intro _ (And.intro (eqB_int _ _) ?_)) | (with_reducible refine Exists.intro _ (And.intro (max2_nat _ _) ?_)) | (with_reducible refine Exists.intro _ (And.intro (max3_nat _ _ _) ?_)) | (with_reducible refine W_fn2 ?_) | (with_reducible refine Exists.intro _ (And.intro (eqB_str _ _) ?_)) | ((with_reducible refine' Exists.intro _ (And.intro (mulD_l ?h1) ?_)); (case h1 => decide)) | ((with_reducible refine' Exists.intro _ (And.intro (mulD_r ?h1) ?_)); (case h1 => decide)) | ((with_reducible refine' Exists.intro _ (And.intro (modD_l ?h1) ?_)); (case h1 => decide)) | ((with_reducible refine' Exists.intro _ (And.intro (fdivD_l ?h1) ?_)); (case h1 => decide)) | ((with_reducible refine' Exists.intro _ (And.intro (slD_str ?h1) ?_)); (case h1 => first | assumption | omega)) | ((with_reducible refine' Exists.intro _ (And.intro (lenD_str ?h1) ?_)); (case h1 => first | assumption | omega)) | ((with_reducible refine' Exists.intro _ (And.intro (addD_str ?h1) ?_)); (case h1 => first | assumption | omega)) | ((with_reducible refine' And.intro (smallI_of ?h1) ?_); (case h1 => omega))); (try dsimp only [List.set_cons_zero, List.set_cons_succ, placeSet, peek, deref, D.isN', List.getElem?_cons_zero, List.getElem?_cons_succ, Int.reduceToNat, D.fz, D.fzs, setAll, keepE, wipeE, Option.getD_some, Option.getD_none]); w_fin) | (with_reducible refine hold_mul ?_) | (with_reducible refine hold_mod ?_) | (with_reducible refine hold_fdiv ?_) | (with_reducible refine hold_small ?_) | ((first | ((with_reducible refine' Exists.intro _ (And.intro ?h1 ?_)); (case h1 => exact rfl)) | ((with_reducible refine' And.intro ?h1 ?_); (case h1 => first | exact rfl | exact of_decide_eq_true rfl))); (try dsimp only [List.set_cons_zero, List.set_cons_succ, placeSet, peek, deref, D.isN', List.getElem?_cons_zero, List.getElem?_cons_succ, Int.reduceToNat, D.fz, D.fzs, setAll, keepE, wipeE, Option.getD_some, Option.getD_none]); w_fin) | skip)
/-- a line of the relation: no two that suit -/
structure LineOk (ks : List Str) (ps : List (Str × Str)) (ls : List Str) : Prop where
  mem : ∀ l ∈ ls, l ∈ ks
  calm : ls.Pairwise fun a b => fits ps a b = false
abbrev strD (o : Bool) (ls : List Str) : D := .lst o (ls.map .str)
theorem nob_plan (o : Bool) (ks : List Str) (ps : List (Str × Str)) : (planD o ks ps).nob = true := by
  unfold planD
  rw [D.nob, D.nobk, D.nobk, D.nobk, D.nob, D.nob, nobs_strs, nobs_pairs]; rfl
theorem fz_plan (o : Bool) (ks : List Str) (ps : List (Str × Str)) : (planD o ks ps).fz = planD false ks ps := by
  cases o
  · exact D.fz_of rfl
  · unfold planD
    rw [D.fz, if_pos rfl, D.fzk, D.fzk, D.fzk, D.fz, D.fz]; rfl
end Fw

set_option linter.all false
namespace Fw
section
variable {α : Type} [DecidableEq α]
/-- the length of a longest common part, from the ends -/
def lcs : List α → List α → Nat
  | [], _ => 0
  | _ :: _, [] => 0
  | a :: x, b :: y => if a = b then lcs x y + 1 else max (lcs x (b :: y)) (lcs (a :: x) y)
termination_by x y => x.length + y.length
/-- the first j columns of a row -/
def lrow (x y : List α) : List Nat := (List.range (y.length + 1)).map fun j => lcs x.reverse (y.take j).reverse
/-- a row by its beginnings: j + 1 columns -/
def lpre (x y : List α) (j : Nat) : List Nat := (lrow x y).take (j + 1)
/-- all parts, as the law makes them -/
def parts : List α → List (List α) → List (List α)
  | [], s => s
  | a :: x, s => parts x (s ++ s.map (· ++ [a]))
/-- the greedy look -/
def greedy (some_ : List α) : List α → Nat → Nat
  | [], at_ => at_
  | k :: l, at_ => greedy some_ l (if some_[at_]? = some k then at_ + 1 else at_)
end
end Fw

set_option Elab.async false
set_option linter.all false
set_option maxRecDepth 100000
namespace Fw
open PySem PySem.Spec PyProof.Rows L2
theorem W_enum {a : Mo D} {env : DEnv} {st : Sto} {Q : List D → DEnv → Sto → Prop} (w : W a env st (fun d e s => d.nob = true ∧ ∃ xs, d.fz = .lst false xs ∧ Q (enumOf 0 xs) e s)) : W (mEnum a) env st Q := by
  obtain ⟨d, e, s, h, h1, xs, h2, q⟩ := w
  unfold W mEnum
  rw [h]
  dsimp only
  rw [if_pos h1, h2]
  exact ⟨_, _, _, rfl, q⟩
/-- a loop over a list, by places -/
theorem forL_at {bi : Bi} {mb : Ms} {Q : Fl → DEnv → Sto → Prop} {ds : List D} (J : Nat → DEnv → Sto → Prop) (step : ∀ k e s d, ds[k]? = some d → J k e s → ∃ e1, bi d e = some e1 ∧ W mb e1 s (fun f e2 s2 => match f with | .nx => J (k + 1) e2 s2 | .ct => J (k + 1) e2 s2 | .bk => Q .nx e2 s2 | .rt r => Q (.rt r) e2 s2))
    (fin : ∀ e s, J ds.length e s → Q .nx e s) {e : DEnv} {s : Sto} (h : J 0 e s) : W (forL bi mb ds) e s Q := by
  refine forL_inv (fun r e s => ∃ k, k ≤ ds.length ∧ r = ds.drop k ∧ J k e s) ?_ ?_ _ _ _ ⟨0, Nat.zero_le _, rfl, h⟩
  · rintro d r e s ⟨k, hk, hd, hj⟩
    have hlt : k < ds.length := by
      cases Nat.lt_or_ge k ds.length with
      | inl z => exact z
      | inr z => rw [List.drop_eq_nil_of_le z] at hd; cases hd
    rw [List.drop_eq_getElem_cons hlt] at hd
    injection hd with h1 h2
    obtain ⟨e1, h3, w⟩ := step k e s d (by rw [List.getElem?_eq_getElem hlt, h1]) hj
    refine ⟨e1, h3, w.imp fun f e2 s2 q => ?_⟩
    have nxt : J (k + 1) e2 s2 → ∃ k', k' ≤ ds.length ∧ r = ds.drop k' ∧ J k' e2 s2 := fun z => ⟨k + 1, hlt, h2, z⟩
    cases f with
    | nx => exact nxt q
    | ct => exact nxt q
    | bk => exact q
    | rt r => exact q
  · rintro e s ⟨k, hk, hd, hj⟩
    have : k = ds.length := by
      have : (ds.drop k).length = 0 := by rw [← hd]; rfl
      rw [List.length_drop] at this; omega
    subst this
    exact fin e s hj
abbrev natD (o : Bool) (l : List Nat) : D := .lst o (l.map fun (n : Nat) => D.int (n : Int))
theorem fz_strD (o : Bool) (l : List Str) : (strD o l).fz = strD false l := by
  cases o
  · exact D.fz_of rfl
  · rw [D.fz, if_pos rfl, fzs_strs]
theorem unSs_of {xs : List D} (h : ∀ x ∈ xs, x.unS = true) : D.unSs xs = true := by
  induction xs with
  | nil => rfl
  | cons a r ih => rw [D.unSs, h a (by simp), ih fun x hx => h x (List.mem_cons_of_mem _ hx)]; rfl
theorem mulD_rep {o : Bool} {d : D} {n : Nat} (h : n ≤ 1000000) (hf : d.fr = true) : mulD (.lst o [d]) (.int (n : Int)) = some (.lst true (repL (n : Int) [d])) := by
  unfold mulD
  exact if_pos ⟨by omega, by omega, decide_eq_true (by rw [List.length_singleton]; omega), by rw [D.frs, hf]; rfl⟩
local macro_rules | `(tactic| w_fin) => `(tactic| first | ((first | (with_reducible refine W_seq ?_) | (with_reducible refine W_ite ?_) | (with_reducible refine Nx_nx ?_) | (with_reducible refine Nx_rt ?_) | (with_reducible refine Nx_bk ?_) | (with_reducible refine Nx_ct ?_) | (with_reducible refine Br_t ?_) | (with_reducible refine Br_f ?_) | (with_reducible refine Br_nt ?_) | (with_reducible refine Br_nf ?_) | (with_reducible refine W_for ?_) | (with_reducible refine W_skip ?_) | (with_reducible refine W_pass ?_) | (with_reducible refine W_set ?_) | (with_reducible refine W_ret ?_) | (with_reducible refine W_expr ?_) | (with_reducible refine W_bin ?_) | (with_reducible refine W_un ?_) | (with_reducible refine W_c ?_) | (with_reducible refine W_xx ?_) | (with_reducible refine W_xn ?_) | (with_reducible refine W_ox ?_) | (with_reducible refine W_nil ?_) | (with_reducible refine W_cons ?_) | (with_reducible refine W_lst ?_) | (with_reducible refine W_tup ?_) | (with_reducible refine W_ixx ?_) | (with_reducible refine W_ixn ?_) | (with_reducible refine W_p0 ?_) | (with_reducible refine W_p1 ?_) | (with_reducible refine W_slx ?_) | (with_reducible refine W_nix ?_) | (with_reducible refine W_and ?_) | (with_reducible refine W_or ?_) | (with_reducible refine W_not ?_) | (with_reducible refine W_tru ?_) | (with_reducible refine W_if ?_) | (with_reducible refine W_par ?_) | (with_reducible refine W_asg ?_) | (with_reducible refine W_rng1 ?_) | (with_reducible refine W_storeI ?_) | (with_reducible refine W_dnew ?_) | (with_reducible refine W_ps0 ?_) | (with_reducible refine W_ps1 ?_) | (with_reducible refine W_o0 ?_) | (with_reducible refine W_ox' ?_) | (with_reducible refine W_break ?_) | (with_reducible refine W_cont ?_) | ((with_reducible refine' W_sln ?h1 ?_); (case h1 => exact rfl)) | ((with_reducible refine' W_var ?h1 ?h2 ?_); (case h1 => exact rfl); (case h2 => exact rfl)) | ((with_reducible refine' W_mv ?h1 ?_); (case h1 => exact rfl)) | ((with_reducible refine' W_nx ?h1 ?_); (case h1 => exact rfl)) | ((with_reducible refine' W_nn ?h1 ?h2 ?_); (case h1 => exact rfl); (case h2 => exact rfl)) | ((with_reducible refine' W_on ?h1 ?_); (case h1 => exact rfl)) | ((with_reducible refine' W_on' ?h1 ?_); (case h1 => exact rfl)) | ((with_reducible refine' W_augI ?h1 ?_); (case h1 => exact rfl)) | ((with_reducible refine' W_aug ?h1 ?_); (case h1 => exact rfl)) | ((with_reducible refine' W_mt ?h1 ?_); (case h1 => exact rfl)) | (with_reducible refine Exists.intro _ (And.intro (eqB_int _ _) ?_)) | (with_reducible refine Exists.intro _ (And.intro (max2_nat _ _) ?_)) | (with_reducible refine Exists.intro _ (And.intro (max3_nat _ _ _) ?_)) | (with_reducible refine W_fn2 ?_) | (with_reducible refine Exists.intro _ (And.intro (eqB_str _ _) ?_)) | ((with_reducible refine' Exists.intro _ (And.intro (mulD_l ?h1) ?_)); (case h1 => decide)) | ((with_reducible refine' Exists.intro _ (And.intro (mulD_r ?h1) ?_)); (case h1 => decide)) | ((with_reducible refine' Exists.intro _ (And.intro (modD_l ?h1) ?_)); (case h1 => decide)) | ((with_reducible refine' Exists.intro _ (And.intro (fdivD_l ?h1) ?_)); (case h1 => decide)) | ((with_reducible refine' Exists.intro _ (And.intro (slD_str ?h1) ?_)); (case h1 => first | assumption | omega)) | ((with_reducible refine' Exists.intro _ (And.intro (lenD_str ?h1) ?_)); (case h1 => first | assumption | omega)) | ((with_reducible refine' Exists.intro _ (And.intro (addD_str ?h1) ?_)); (case h1 => first | assumption | omega)) | ((with_reducible refine' And.intro (smallI_of ?h1) ?_); (case h1 => omega))); (try dsimp only [List.set_cons_zero, List.set_cons_succ, placeSet, peek, deref, D.isN', List.getElem?_cons_zero, List.getElem?_cons_succ, Int.reduceToNat, D.fz, D.fzs, setAll, keepE, wipeE, Option.getD_some, Option.getD_none]); w_fin) | (with_reducible refine hold_mul ?_) | (with_reducible refine hold_mod ?_) | (with_reducible refine hold_fdiv ?_) | (with_reducible refine hold_small ?_) | ((first | ((with_reducible refine' Exists.intro _ (And.intro ?h1 ?_)); (case h1 => exact rfl)) | ((with_reducible refine' And.intro ?h1 ?_); (case h1 => first | exact rfl | exact of_decide_eq_true rfl))); (try dsimp only [List.set_cons_zero, List.set_cons_succ, placeSet, peek, deref, D.isN', List.getElem?_cons_zero, List.getElem?_cons_succ, Int.reduceToNat, D.fz, D.fzs, setAll, keepE, wipeE, Option.getD_some, Option.getD_none]); w_fin) | skip)
end Fw

set_option Elab.async false
set_option linter.all false
set_option maxRecDepth 100000
namespace Fw
open PySem PySem.Spec PyProof.Rows L2
local macro_rules | `(tactic| w_fin) => `(tactic| first | ((first | (with_reducible refine W_seq ?_) | (with_reducible refine W_ite ?_) | (with_reducible refine Nx_nx ?_) | (with_reducible refine Nx_rt ?_) | (with_reducible refine Nx_bk ?_) | (with_reducible refine Nx_ct ?_) | (with_reducible refine Br_t ?_) | (with_reducible refine Br_f ?_) | (with_reducible refine Br_nt ?_) | (with_reducible refine Br_nf ?_) | (with_reducible refine W_for ?_) | (with_reducible refine W_skip ?_) | (with_reducible refine W_pass ?_) | (with_reducible refine W_set ?_) | (with_reducible refine W_ret ?_) | (with_reducible refine W_expr ?_) | (with_reducible refine W_bin ?_) | (with_reducible refine W_un ?_) | (with_reducible refine W_c ?_) | (with_reducible refine W_xx ?_) | (with_reducible refine W_xn ?_) | (with_reducible refine W_ox ?_) | (with_reducible refine W_nil ?_) | (with_reducible refine W_cons ?_) | (with_reducible refine W_lst ?_) | (with_reducible refine W_tup ?_) | (with_reducible refine W_ixx ?_) | (with_reducible refine W_ixn ?_) | (with_reducible refine W_p0 ?_) | (with_reducible refine W_p1 ?_) | (with_reducible refine W_slx ?_) | (with_reducible refine W_nix ?_) | (with_reducible refine W_and ?_) | (with_reducible refine W_or ?_) | (with_reducible refine W_not ?_) | (with_reducible refine W_tru ?_) | (with_reducible refine W_if ?_) | (with_reducible refine W_par ?_) | (with_reducible refine W_asg ?_) | (with_reducible refine W_rng1 ?_) | (with_reducible refine W_storeI ?_) | (with_reducible refine W_dnew ?_) | (with_reducible refine W_ps0 ?_) | (with_reducible refine W_ps1 ?_) | (with_reducible refine W_o0 ?_) | (with_reducible refine W_ox' ?_) | (with_reducible refine W_break ?_) | (with_reducible refine W_cont ?_) | ((with_reducible refine' W_sln ?h1 ?_); (case h1 => exact rfl)) | ((with_reducible refine' W_var ?h1 ?h2 ?_); (case h1 => exact rfl); (case h2 => exact rfl)) | ((with_reducible refine' W_mv ?h1 ?_); (case h1 => exact rfl)) | ((with_reducible refine' W_nx ?h1 ?_); (case h1 => exact rfl)) | ((with_reducible refine' W_nn ?h1 ?h2 ?_); (case h1 => exact rfl); (case h2 => exact rfl)) | ((with_reducible refine' W_on ?h1 ?_); (case h1 => exact rfl)) | ((with_reducible refine' W_on' ?h1 ?_); (case h1 => exact rfl)) | ((with_reducible refine' W_augI ?h1 ?_); (case h1 => exact rfl)) | ((with_reducible refine' W_aug ?h1 ?_); (case h1 => exact rfl)) | ((with_reducible refine' W_mt ?h1 ?_); (case h1 => exact rfl)) | (with_reducible refine Exists.intro _ (And.intro (eqB_int _ _) ?_)) | (with_reducible refine Exists.intro _ (And.intro (max2_nat _ _) ?_)) | (with_reducible refine Exists.intro _ (And.intro (max3_nat _ _ _) ?_)) | (with_reducible refine W_fn2 ?_) | (with_reducible refine Exists.intro _ (And.intro (eqB_str _ _) ?_)) | ((with_reducible refine' Exists.intro _ (And.intro (mulD_l ?h1) ?_)); (case h1 => decide)) | ((with_reducible refine' Exists.intro _ (And.intro (mulD_r ?h1) ?_)); (case h1 => decide)) | ((with_reducible refine' Exists.intro _ (And.intro (modD_l ?h1) ?_)); (case h1 => decide)) | ((with_reducible refine' Exists.intro _ (And.intro (fdivD_l ?h1) ?_)); (case h1 => decide)) | ((with_reducible refine' Exists.intro _ (And.intro (slD_str ?h1) ?_)); (case h1 => first | assumption | omega)) | ((with_reducible refine' Exists.intro _ (And.intro (lenD_str ?h1) ?_)); (case h1 => first | assumption | omega)) | ((with_reducible refine' Exists.intro _ (And.intro (addD_str ?h1) ?_)); (case h1 => first | assumption | omega)) | ((with_reducible refine' And.intro (smallI_of ?h1) ?_); (case h1 => omega))); (try dsimp only [List.set_cons_zero, List.set_cons_succ, placeSet, peek, deref, D.isN', List.getElem?_cons_zero, List.getElem?_cons_succ, Int.reduceToNat, D.fz, D.fzs, setAll, keepE, wipeE, Option.getD_some, Option.getD_none]); w_fin) | (with_reducible refine hold_mul ?_) | (with_reducible refine hold_mod ?_) | (with_reducible refine hold_fdiv ?_) | (with_reducible refine hold_small ?_) | ((first | ((with_reducible refine' Exists.intro _ (And.intro ?h1 ?_)); (case h1 => exact rfl)) | ((with_reducible refine' And.intro ?h1 ?_); (case h1 => first | exact rfl | exact of_decide_eq_true rfl))); (try dsimp only [List.set_cons_zero, List.set_cons_succ, placeSet, peek, deref, D.isN', List.getElem?_cons_zero, List.getElem?_cons_succ, Int.reduceToNat, D.fz, D.fzs, setAll, keepE, wipeE, Option.getD_some, Option.getD_none]); w_fin) | skip)
/-- the rows up to the i-th person of the first line -/
def rowsD (o o' : Bool) (x y : List Str) (i : Nat) : D := .lst o ((List.range (i + 1)).map fun k => natD o' (lrow (x.take k) y))
theorem nob_strD (o : Bool) (l : List Str) : (strD o l).nob = true := by rw [D.nob]; exact nobs_strs l
/-- a call of two lists of texts, by what it answers -/
theorem peek_of' {env : DEnv} {i : Nat} {d : D} (h : env[i]? = some (some d)) : peek i env = some d := by unfold peek; rw [h]
theorem look_of' {env : DEnv} {st : Sto} {i : Nat} {d : D} (h : env[i]? = some (some d)) (h2 : deref st d = d) : look i env st = some d := by unfold look; rw [peek_of' h]; show some _ = _; rw [h2]
def distN (x y : List Str) : Int := (x.length : Int) + y.length - 2 * (lcs x y : Int)
end Fw

set_option Elab.async false
set_option linter.all false
set_option maxRecDepth 100000
namespace Fw
open PySem PySem.Spec PyProof.Rows L2
local macro_rules | `(tactic| w_fin) => `(tactic| first | ((first | (with_reducible refine W_seq ?_) | (with_reducible refine W_ite ?_) | (with_reducible refine Nx_nx ?_) | (with_reducible refine Nx_rt ?_) | (with_reducible refine Nx_bk ?_) | (with_reducible refine Nx_ct ?_) | (with_reducible refine Br_t ?_) | (with_reducible refine Br_f ?_) | (with_reducible refine Br_nt ?_) | (with_reducible refine Br_nf ?_) | (with_reducible refine W_for ?_) | (with_reducible refine W_skip ?_) | (with_reducible refine W_pass ?_) | (with_reducible refine W_set ?_) | (with_reducible refine W_ret ?_) | (with_reducible refine W_expr ?_) | (with_reducible refine W_bin ?_) | (with_reducible refine W_un ?_) | (with_reducible refine W_c ?_) | (with_reducible refine W_xx ?_) | (with_reducible refine W_xn ?_) | (with_reducible refine W_ox ?_) | (with_reducible refine W_nil ?_) | (with_reducible refine W_cons ?_) | (with_reducible refine W_lst ?_) | (with_reducible refine W_tup ?_) | (with_reducible refine W_ixx ?_) | (with_reducible refine W_ixn ?_) | (with_reducible refine W_p0 ?_) | (with_reducible refine W_p1 ?_) | (with_reducible refine W_slx ?_) | (with_reducible refine W_nix ?_) | (with_reducible refine W_and ?_) | (with_reducible refine W_or ?_) | (with_reducible refine W_not ?_) | (with_reducible refine W_tru ?_) | (with_reducible refine W_if ?_) | (with_reducible refine W_par ?_) | (with_reducible refine W_asg ?_) | (with_reducible refine W_rng1 ?_) | (with_reducible refine W_storeI ?_) | (with_reducible refine W_dnew ?_) | (with_reducible refine W_ps0 ?_) | (with_reducible refine W_ps1 ?_) | (with_reducible refine W_o0 ?_) | (with_reducible refine W_ox' ?_) | (with_reducible refine W_break ?_) | (with_reducible refine W_cont ?_) | ((with_reducible refine' W_sln ?h1 ?_); (case h1 => exact rfl)) | ((with_reducible refine' W_var ?h1 ?h2 ?_); (case h1 => exact rfl); (case h2 => exact rfl)) | ((with_reducible refine' W_mv ?h1 ?_); (case h1 => exact rfl)) | ((with_reducible refine' W_nx ?h1 ?_); (case h1 => exact rfl)) | ((with_reducible refine' W_nn ?h1 ?h2 ?_); (case h1 => exact rfl); (case h2 => exact rfl)) | ((with_reducible refine' W_on ?h1 ?_); (case h1 => exact rfl)) | ((with_reducible refine' W_on' ?h1 ?_); (case h1 => exact rfl)) | ((with_reducible refine' W_augI ?h1 ?_); (case h1 => exact rfl)) | ((with_reducible refine' W_aug ?h1 ?_); (case h1 => exact rfl)) | ((with_reducible refine' W_mt ?h1 ?_); (case h1 => exact rfl)) | (with_reducible refine Exists.intro _ (And.intro (eqB_int _ _) ?_)) | (with_reducible refine Exists.intro _ (And.intro (max2_nat _ _) ?_)) | (with_reducible refine Exists.intro _ (And.intro (max3_nat _ _ _) ?_)) | (with_reducible refine W_fn2 ?_) | (with_reducible refine Exists.intro _ (And.intro (eqB_str _ _) ?_)) | ((with_reducible refine' Exists.intro _ (And.intro (mulD_l ?h1) ?_)); (case h1 => decide)) | ((with_reducible refine' Exists.intro _ (And.intro (mulD_r ?h1) ?_)); (case h1 => decide)) | ((with_reducible refine' Exists.intro _ (And.intro (modD_l ?h1) ?_)); (case h1 => decide)) | ((with_reducible refine' Exists.intro _ (And.intro (fdivD_l ?h1) ?_)); (case h1 => decide)) | ((with_reducible refine' Exists.intro _ (And.intro (slD_str ?h1) ?_)); (case h1 => first | assumption | omega)) | ((with_reducible refine' Exists.intro _ (And.intro (lenD_str ?h1) ?_)); (case h1 => first | assumption | omega)) | ((with_reducible refine' Exists.intro _ (And.intro (addD_str ?h1) ?_)); (case h1 => first | assumption | omega)) | ((with_reducible refine' And.intro (smallI_of ?h1) ?_); (case h1 => omega))); (try dsimp only [List.set_cons_zero, List.set_cons_succ, placeSet, peek, deref, D.isN', List.getElem?_cons_zero, List.getElem?_cons_succ, Int.reduceToNat, D.fz, D.fzs, setAll, keepE, wipeE, Option.getD_some, Option.getD_none]); w_fin) | (with_reducible refine hold_mul ?_) | (with_reducible refine hold_mod ?_) | (with_reducible refine hold_fdiv ?_) | (with_reducible refine hold_small ?_) | ((first | ((with_reducible refine' Exists.intro _ (And.intro ?h1 ?_)); (case h1 => exact rfl)) | ((with_reducible refine' And.intro ?h1 ?_); (case h1 => first | exact rfl | exact of_decide_eq_true rfl))); (try dsimp only [List.set_cons_zero, List.set_cons_succ, placeSet, peek, deref, D.isN', List.getElem?_cons_zero, List.getElem?_cons_succ, Int.reduceToNat, D.fz, D.fzs, setAll, keepE, wipeE, Option.getD_some, Option.getD_none]); w_fin) | skip)
theorem set_same {e : DEnv} {i : Nat} {x : Option D} (h : e[i]? = some x) : e.set i x = e := by
  apply List.ext_getElem?
  intro j
  by_cases hj : i = j
  · subst hj; rw [List.getElem?_set_self (List.getElem?_eq_some_iff.mp h).1, h]
  · rw [List.getElem?_set_ne hj]
theorem W_varf {i : Nat} {d : D} {env : DEnv} {st : Sto} {Q : D → DEnv → Sto → Prop} (h : env[i]? = some (some d)) (hn : d.nob = true) (q : Q d.fz (env.set i (some d.fz)) st) : W (mVar i) env st Q := by
  cases hf : d.fr with
  | true =>
    rw [D.fz_of hf, set_same h] at q
    exact W_var h hf q
  | false => exact W_varz h hf hn q
theorem LineOk.sub {ks : List Str} {ps : List (Str × Str)} {a b : List Str} (h : LineOk ks ps a) (hs : b.Sublist a) : LineOk ks ps b := ⟨fun l hl => h.mem l (hs.subset hl), h.calm.sublist hs⟩
end Fw

set_option Elab.async false
set_option linter.all false
set_option maxRecDepth 100000
namespace Fw
open PySem PySem.Spec PyProof.Rows L2
local macro_rules | `(tactic| w_fin) => `(tactic| first | ((first | (with_reducible refine W_seq ?_) | (with_reducible refine W_ite ?_) | (with_reducible refine Nx_nx ?_) | (with_reducible refine Nx_rt ?_) | (with_reducible refine Nx_bk ?_) | (with_reducible refine Nx_ct ?_) | (with_reducible refine Br_t ?_) | (with_reducible refine Br_f ?_) | (with_reducible refine Br_nt ?_) | (with_reducible refine Br_nf ?_) | (with_reducible refine W_for ?_) | (with_reducible refine W_skip ?_) | (with_reducible refine W_pass ?_) | (with_reducible refine W_set ?_) | (with_reducible refine W_ret ?_) | (with_reducible refine W_expr ?_) | (with_reducible refine W_bin ?_) | (with_reducible refine W_un ?_) | (with_reducible refine W_c ?_) | (with_reducible refine W_xx ?_) | (with_reducible refine W_xn ?_) | (with_reducible refine W_ox ?_) | (with_reducible refine W_nil ?_) | (with_reducible refine W_cons ?_) | (with_reducible refine W_lst ?_) | (with_reducible refine W_tup ?_) | (with_reducible refine W_ixx ?_) | (with_reducible refine W_ixn ?_) | (with_reducible refine W_p0 ?_) | (with_reducible refine W_p1 ?_) | (with_reducible refine W_slx ?_) | (with_reducible refine W_nix ?_) | (with_reducible refine W_and ?_) | (with_reducible refine W_or ?_) | (with_reducible refine W_not ?_) | (with_reducible refine W_tru ?_) | (with_reducible refine W_if ?_) | (with_reducible refine W_par ?_) | (with_reducible refine W_asg ?_) | (with_reducible refine W_rng1 ?_) | (with_reducible refine W_storeI ?_) | (with_reducible refine W_dnew ?_) | (with_reducible refine W_ps0 ?_) | (with_reducible refine W_ps1 ?_) | (with_reducible refine W_o0 ?_) | (with_reducible refine W_ox' ?_) | (with_reducible refine W_break ?_) | (with_reducible refine W_cont ?_) | ((with_reducible refine' W_sln ?h1 ?_); (case h1 => exact rfl)) | ((with_reducible refine' W_var ?h1 ?h2 ?_); (case h1 => exact rfl); (case h2 => exact rfl)) | ((with_reducible refine' W_mv ?h1 ?_); (case h1 => exact rfl)) | ((with_reducible refine' W_nx ?h1 ?_); (case h1 => exact rfl)) | ((with_reducible refine' W_nn ?h1 ?h2 ?_); (case h1 => exact rfl); (case h2 => exact rfl)) | ((with_reducible refine' W_on ?h1 ?_); (case h1 => exact rfl)) | ((with_reducible refine' W_on' ?h1 ?_); (case h1 => exact rfl)) | ((with_reducible refine' W_augI ?h1 ?_); (case h1 => exact rfl)) | ((with_reducible refine' W_aug ?h1 ?_); (case h1 => exact rfl)) | ((with_reducible refine' W_mt ?h1 ?_); (case h1 => exact rfl)) | (with_reducible refine Exists.intro _ (And.intro (eqB_int _ _) ?_)) | (with_reducible refine Exists.intro _ (And.intro (max2_nat _ _) ?_)) | (with_reducible refine Exists.intro _ (And.intro (max3_nat _ _ _) ?_)) | (with_reducible refine W_fn2 ?_) | (with_reducible refine Exists.intro _ (And.intro (eqB_str _ _) ?_)) | ((with_reducible refine' Exists.intro _ (And.intro (mulD_l ?h1) ?_)); (case h1 => decide)) | ((with_reducible refine' Exists.intro _ (And.intro (mulD_r ?h1) ?_)); (case h1 => decide)) | ((with_reducible refine' Exists.intro _ (And.intro (modD_l ?h1) ?_)); (case h1 => decide)) | ((with_reducible refine' Exists.intro _ (And.intro (fdivD_l ?h1) ?_)); (case h1 => decide)) | ((with_reducible refine' Exists.intro _ (And.intro (slD_str ?h1) ?_)); (case h1 => first | assumption | omega)) | ((with_reducible refine' Exists.intro _ (And.intro (lenD_str ?h1) ?_)); (case h1 => first | assumption | omega)) | ((with_reducible refine' Exists.intro _ (And.intro (addD_str ?h1) ?_)); (case h1 => first | assumption | omega)) | ((with_reducible refine' And.intro (smallI_of ?h1) ?_); (case h1 => omega))); (try dsimp only [List.set_cons_zero, List.set_cons_succ, placeSet, peek, deref, D.isN', List.getElem?_cons_zero, List.getElem?_cons_succ, Int.reduceToNat, D.fz, D.fzs, setAll, keepE, wipeE, Option.getD_some, Option.getD_none]); w_fin) | (with_reducible refine hold_mul ?_) | (with_reducible refine hold_mod ?_) | (with_reducible refine hold_fdiv ?_) | (with_reducible refine hold_small ?_) | ((first | ((with_reducible refine' Exists.intro _ (And.intro ?h1 ?_)); (case h1 => exact rfl)) | ((with_reducible refine' And.intro ?h1 ?_); (case h1 => first | exact rfl | exact of_decide_eq_true rfl))); (try dsimp only [List.set_cons_zero, List.set_cons_succ, placeSet, peek, deref, D.isN', List.getElem?_cons_zero, List.getElem?_cons_succ, Int.reduceToNat, D.fz, D.fzs, setAll, keepE, wipeE, Option.getD_some, Option.getD_none]); w_fin) | skip)
class PyShow (α : Type) [DecidableEq α] [PyEnc α] where
  fit : α → Prop
  ok : ∀ a, fit a → (PyEnc.e a).showable = true ∧ (PyEnc.e a).leavesShort 13 = true
  bulk : α → Nat
  bk : ∀ a : α, (PyEnc.e a).bulk = bulk a
theorem log2_lt {n : Nat} (h : n < 10 ^ 12) : n.log2 < 1920 := by
  by_cases e : n = 0
  · subst e; decide
  · exact (Nat.log2_lt e).mpr (Nat.lt_of_lt_of_le h (by decide +kernel))
instance : PyShow Str where
  fit x := ∀ c ∈ tl x, c < 55296
  ok x h := ⟨rfl, by
    show (x.cps.toList.all fun c => decide (c < 16 ^ 8)) = true
    rw [List.all_eq_true]
    intro c hc
    have := h c hc
    exact decide_eq_true (by omega)⟩
  bulk x := x.length
  bk x := rfl
instance : PyShow Int where
  fit i := i.natAbs < 10 ^ 12
  ok i h := ⟨decide_eq_true (log2_lt h), decide_eq_true (PyData.shown_int_le h)⟩
  bulk _ := 0
  bk _ := rfl
instance : PyShow Bool where
  fit i := True
  ok i h := ⟨rfl, rfl⟩
  bulk _ := 0
  bk _ := rfl
theorem showAll_map {α : Type} [DecidableEq α] [PyEnc α] [PyShow α] : ∀ xs : List α, (∀ x ∈ xs, PyShow.fit x) → PyData.showableAll (xs.map PyEnc.e) = true ∧ PyData.leavesShortAll 13 (xs.map PyEnc.e) = true
  | [], _ => ⟨rfl, rfl⟩
  | x :: xs, h => by
    have h1 := PyShow.ok x (h x (by simp))
    have h2 := showAll_map xs fun y hy => h y (List.mem_cons_of_mem _ hy)
    rw [List.map_cons, PyData.showableAll, PyData.leavesShortAll, h1.1, h1.2, h2.1, h2.2]
    exact ⟨rfl, rfl⟩
theorem bulkAll_map {α : Type} [DecidableEq α] [PyEnc α] [PyShow α] : ∀ xs : List α, PyData.bulkAll (xs.map PyEnc.e) = (xs.map fun x => PyShow.bulk x + 1).sum
  | [] => rfl
  | x :: xs => by rw [List.map_cons, PyData.bulkAll, bulkAll_map xs, PyShow.bk, List.map_cons, List.sum_cons]
instance {α : Type} [DecidableEq α] [PyEnc α] [PyShow α] : PyShow (List α) where
  fit xs := ∀ x ∈ xs, PyShow.fit x
  ok xs h := showAll_map xs h
  bulk xs := (xs.map fun x => PyShow.bulk x + 1).sum
  bk xs := bulkAll_map xs
instance {α β : Type} [DecidableEq α] [PyEnc α] [PyShow α] [DecidableEq β] [PyEnc β] [PyShow β] : PyShow (α × β) where
  fit p := PyShow.fit p.1 ∧ PyShow.fit p.2
  ok p h := by
    have h1 := PyShow.ok p.1 h.1
    have h2 := PyShow.ok p.2 h.2
    exact ⟨by show (PyData.showable _ && (PyData.showable _ && true)) = true; rw [h1.1, h2.1]; rfl, by show (PyData.leavesShort 13 _ && (PyData.leavesShort 13 _ && true)) = true; rw [h1.2, h2.2]; rfl⟩
  bulk p := PyShow.bulk p.1 + 1 + (PyShow.bulk p.2 + 1)
  bk p := by
    show PyData.bulk _ + 1 + (PyData.bulk _ + 1 + 0) = _
    rw [PyShow.bk, PyShow.bk]
/-- what may be compared and shown -/
def Is {α : Type} [DecidableEq α] [PyEnc α] (a : α) (x : D) : Prop := x.pd = some (PyEnc.e a) ∧ x.sh = some (PyEnc.e a)
section
variable {α β : Type} [DecidableEq α] [PyEnc α] [DecidableEq β] [PyEnc β] [PyShow α] [PyShow β]
end
end Fw

set_option Elab.async false
set_option linter.all false
set_option maxRecDepth 100000
namespace Fw
open PySem PySem.Spec PyProof.Rows L2
local macro_rules | `(tactic| w_fin) => `(tactic| first | ((first | (with_reducible refine W_seq ?_) | (with_reducible refine W_ite ?_) | (with_reducible refine Nx_nx ?_) | (with_reducible refine Nx_rt ?_) | (with_reducible refine Nx_bk ?_) | (with_reducible refine Nx_ct ?_) | (with_reducible refine Br_t ?_) | (with_reducible refine Br_f ?_) | (with_reducible refine Br_nt ?_) | (with_reducible refine Br_nf ?_) | (with_reducible refine W_for ?_) | (with_reducible refine W_skip ?_) | (with_reducible refine W_pass ?_) | (with_reducible refine W_set ?_) | (with_reducible refine W_ret ?_) | (with_reducible refine W_expr ?_) | (with_reducible refine W_bin ?_) | (with_reducible refine W_un ?_) | (with_reducible refine W_c ?_) | (with_reducible refine W_xx ?_) | (with_reducible refine W_xn ?_) | (with_reducible refine W_ox ?_) | (with_reducible refine W_nil ?_) | (with_reducible refine W_cons ?_) | (with_reducible refine W_lst ?_) | (with_reducible refine W_tup ?_) | (with_reducible refine W_ixx ?_) | (with_reducible refine W_ixn ?_) | (with_reducible refine W_p0 ?_) | (with_reducible refine W_p1 ?_) | (with_reducible refine W_slx ?_) | (with_reducible refine W_nix ?_) | (with_reducible refine W_and ?_) | (with_reducible refine W_or ?_) | (with_reducible refine W_not ?_) | (with_reducible refine W_tru ?_) | (with_reducible refine W_if ?_) | (with_reducible refine W_par ?_) | (with_reducible refine W_asg ?_) | (with_reducible refine W_rng1 ?_) | (with_reducible refine W_storeI ?_) | (with_reducible refine W_dnew ?_) | (with_reducible refine W_ps0 ?_) | (with_reducible refine W_ps1 ?_) | (with_reducible refine W_o0 ?_) | (with_reducible refine W_ox' ?_) | (with_reducible refine W_break ?_) | (with_reducible refine W_cont ?_) | ((with_reducible refine' W_sln ?h1 ?_); (case h1 => exact rfl)) | ((with_reducible refine' W_var ?h1 ?h2 ?_); (case h1 => exact rfl); (case h2 => exact rfl)) | ((with_reducible refine' W_mv ?h1 ?_); (case h1 => exact rfl)) | ((with_reducible refine' W_nx ?h1 ?_); (case h1 => exact rfl)) | ((with_reducible refine' W_nn ?h1 ?h2 ?_); (case h1 => exact rfl); (case h2 => exact rfl)) | ((with_reducible refine' W_on ?h1 ?_); (case h1 => exact rfl)) | ((with_reducible refine' W_on' ?h1 ?_); (case h1 => exact rfl)) | ((with_reducible refine' W_augI ?h1 ?_); (case h1 => exact rfl)) | ((with_reducible refine' W_aug ?h1 ?_); (case h1 => exact rfl)) | ((with_reducible refine' W_mt ?h1 ?_); (case h1 => exact rfl)) | (with_reducible refine Exists.intro _ (And.intro (eqB_int _ _) ?_)) | (with_reducible refine Exists.intro _ (And.intro (max2_nat _ _) ?_)) | (with_reducible refine Exists.intro _ (And.intro (max3_nat _ _ _) ?_)) | (with_reducible refine W_fn2 ?_) | (with_reducible refine Exists.intro _ (And.intro (eqB_str _ _) ?_)) | ((with_reducible refine' Exists.intro _ (And.intro (mulD_l ?h1) ?_)); (case h1 => decide)) | ((with_reducible refine' Exists.intro _ (And.intro (mulD_r ?h1) ?_)); (case h1 => decide)) | ((with_reducible refine' Exists.intro _ (And.intro (modD_l ?h1) ?_)); (case h1 => decide)) | ((with_reducible refine' Exists.intro _ (And.intro (fdivD_l ?h1) ?_)); (case h1 => decide)) | ((with_reducible refine' Exists.intro _ (And.intro (slD_str ?h1) ?_)); (case h1 => first | assumption | omega)) | ((with_reducible refine' Exists.intro _ (And.intro (lenD_str ?h1) ?_)); (case h1 => first | assumption | omega)) | ((with_reducible refine' Exists.intro _ (And.intro (addD_str ?h1) ?_)); (case h1 => first | assumption | omega)) | ((with_reducible refine' And.intro (smallI_of ?h1) ?_); (case h1 => omega))); (try dsimp only [List.set_cons_zero, List.set_cons_succ, placeSet, peek, deref, D.isN', List.getElem?_cons_zero, List.getElem?_cons_succ, Int.reduceToNat, D.fz, D.fzs, setAll, keepE, wipeE, Option.getD_some, Option.getD_none]); w_fin) | (with_reducible refine hold_mul ?_) | (with_reducible refine hold_mod ?_) | (with_reducible refine hold_fdiv ?_) | (with_reducible refine hold_small ?_) | ((first | ((with_reducible refine' Exists.intro _ (And.intro ?h1 ?_)); (case h1 => exact rfl)) | ((with_reducible refine' And.intro ?h1 ?_); (case h1 => first | exact rfl | exact of_decide_eq_true rfl))); (try dsimp only [List.set_cons_zero, List.set_cons_succ, placeSet, peek, deref, D.isN', List.getElem?_cons_zero, List.getElem?_cons_succ, Int.reduceToNat, D.fz, D.fzs, setAll, keepE, wipeE, Option.getD_some, Option.getD_none]); w_fin) | skip)
theorem W_altl {a b : Mo D} {env : DEnv} {st : Sto} {Q : D → DEnv → Sto → Prop} (w : W a env st Q) : W (mAlt a b) env st Q := W_alt w
theorem W_bagc {ns : List Int} (hl : ns.length ≤ 63) {env : DEnv} {i : Nat} {Q : D → DEnv → Sto → Prop} (hi : env[i]? = some (some (.scr ns))) (q : ∀ xs : List Int, (∀ x ∈ xs, 0 ≤ x) → Q (.lst true [.int 0, .int 1234567891, .int 0, .lst true (xs.map .int)]) env []) : W (mCallP 1 f__law_bag [.nm i]) env [] Q := by
  obtain ⟨xs, h1, h2⟩ := bag_ok ns hl
  refine W_callP (W_on' (peek_of' hi) (W_o0 ⟨_, look_of' hi rfl, rfl, rfl, ?_⟩))
  refine ⟨_, _, h2, rfl, ?_, q xs h1⟩
  rw [D.unS, D.unSs, D.unSs, D.unSs, D.unSs, D.unSs, D.unS, unSs_of fun x hx => by
    obtain ⟨k, _, rfl⟩ := List.mem_map.mp hx
    rfl]; rfl
theorem nob_bag (xs : List Int) : D.nobs [.int 0, .int 1234567891, .int 0, .lst true (xs.map .int)] = true := by
  rw [D.nobs, D.nobs, D.nobs, D.nobs, D.nobs, D.nob, nobs_ints]; rfl
theorem bagS_new {xs : List Int} (h : ∀ x ∈ xs, 0 ≤ x) (s : Sto) : BagS ([] ++ [D.lst true (D.fzs [.int 0, .int 1234567891, .int 0, .lst true (xs.map .int)])]) :=
  ⟨0, 1234567891, 0, xs, by decide, by decide, by decide, h, by
    have e : (D.lst true (xs.map .int)).fz = .lst false (xs.map .int) := by rw [D.fz, if_pos rfl, fzs_ints]
    rw [D.fzs, D.fzs, D.fzs, D.fzs, D.fzs, e]; rfl⟩
end Fw

set_option Elab.async false
set_option linter.all false
set_option maxRecDepth 100000
namespace Fw
open PySem PySem.Spec PyProof.Rows L2
local macro_rules | `(tactic| w_fin) => `(tactic| first | ((first | (with_reducible refine W_seq ?_) | (with_reducible refine W_ite ?_) | (with_reducible refine Nx_nx ?_) | (with_reducible refine Nx_rt ?_) | (with_reducible refine Nx_bk ?_) | (with_reducible refine Nx_ct ?_) | (with_reducible refine Br_t ?_) | (with_reducible refine Br_f ?_) | (with_reducible refine Br_nt ?_) | (with_reducible refine Br_nf ?_) | (with_reducible refine W_for ?_) | (with_reducible refine W_skip ?_) | (with_reducible refine W_pass ?_) | (with_reducible refine W_set ?_) | (with_reducible refine W_ret ?_) | (with_reducible refine W_expr ?_) | (with_reducible refine W_bin ?_) | (with_reducible refine W_un ?_) | (with_reducible refine W_c ?_) | (with_reducible refine W_xx ?_) | (with_reducible refine W_xn ?_) | (with_reducible refine W_ox ?_) | (with_reducible refine W_nil ?_) | (with_reducible refine W_cons ?_) | (with_reducible refine W_lst ?_) | (with_reducible refine W_tup ?_) | (with_reducible refine W_ixx ?_) | (with_reducible refine W_ixn ?_) | (with_reducible refine W_p0 ?_) | (with_reducible refine W_p1 ?_) | (with_reducible refine W_slx ?_) | (with_reducible refine W_nix ?_) | (with_reducible refine W_and ?_) | (with_reducible refine W_or ?_) | (with_reducible refine W_not ?_) | (with_reducible refine W_tru ?_) | (with_reducible refine W_if ?_) | (with_reducible refine W_par ?_) | (with_reducible refine W_asg ?_) | (with_reducible refine W_rng1 ?_) | (with_reducible refine W_storeI ?_) | (with_reducible refine W_dnew ?_) | (with_reducible refine W_ps0 ?_) | (with_reducible refine W_ps1 ?_) | (with_reducible refine W_o0 ?_) | (with_reducible refine W_ox' ?_) | (with_reducible refine W_break ?_) | (with_reducible refine W_cont ?_) | ((with_reducible refine' W_sln ?h1 ?_); (case h1 => exact rfl)) | ((with_reducible refine' W_var ?h1 ?h2 ?_); (case h1 => exact rfl); (case h2 => exact rfl)) | ((with_reducible refine' W_mv ?h1 ?_); (case h1 => exact rfl)) | ((with_reducible refine' W_nx ?h1 ?_); (case h1 => exact rfl)) | ((with_reducible refine' W_nn ?h1 ?h2 ?_); (case h1 => exact rfl); (case h2 => exact rfl)) | ((with_reducible refine' W_on ?h1 ?_); (case h1 => exact rfl)) | ((with_reducible refine' W_on' ?h1 ?_); (case h1 => exact rfl)) | ((with_reducible refine' W_augI ?h1 ?_); (case h1 => exact rfl)) | ((with_reducible refine' W_aug ?h1 ?_); (case h1 => exact rfl)) | ((with_reducible refine' W_mt ?h1 ?_); (case h1 => exact rfl)) | (with_reducible refine Exists.intro _ (And.intro (eqB_int _ _) ?_)) | (with_reducible refine Exists.intro _ (And.intro (max2_nat _ _) ?_)) | (with_reducible refine Exists.intro _ (And.intro (max3_nat _ _ _) ?_)) | (with_reducible refine W_fn2 ?_) | (with_reducible refine Exists.intro _ (And.intro (eqB_str _ _) ?_)) | ((with_reducible refine' Exists.intro _ (And.intro (mulD_l ?h1) ?_)); (case h1 => decide)) | ((with_reducible refine' Exists.intro _ (And.intro (mulD_r ?h1) ?_)); (case h1 => decide)) | ((with_reducible refine' Exists.intro _ (And.intro (modD_l ?h1) ?_)); (case h1 => decide)) | ((with_reducible refine' Exists.intro _ (And.intro (fdivD_l ?h1) ?_)); (case h1 => decide)) | ((with_reducible refine' Exists.intro _ (And.intro (slD_str ?h1) ?_)); (case h1 => first | assumption | omega)) | ((with_reducible refine' Exists.intro _ (And.intro (lenD_str ?h1) ?_)); (case h1 => first | assumption | omega)) | ((with_reducible refine' Exists.intro _ (And.intro (addD_str ?h1) ?_)); (case h1 => first | assumption | omega)) | ((with_reducible refine' And.intro (smallI_of ?h1) ?_); (case h1 => omega))); (try dsimp only [List.set_cons_zero, List.set_cons_succ, placeSet, peek, deref, D.isN', List.getElem?_cons_zero, List.getElem?_cons_succ, Int.reduceToNat, D.fz, D.fzs, setAll, keepE, wipeE, Option.getD_some, Option.getD_none]); w_fin) | (with_reducible refine hold_mul ?_) | (with_reducible refine hold_mod ?_) | (with_reducible refine hold_fdiv ?_) | (with_reducible refine hold_small ?_) | ((first | ((with_reducible refine' Exists.intro _ (And.intro ?h1 ?_)); (case h1 => exact rfl)) | ((with_reducible refine' And.intro ?h1 ?_); (case h1 => first | exact rfl | exact of_decide_eq_true rfl))); (try dsimp only [List.set_cons_zero, List.set_cons_succ, placeSet, peek, deref, D.isN', List.getElem?_cons_zero, List.getElem?_cons_succ, Int.reduceToNat, D.fz, D.fzs, setAll, keepE, wipeE, Option.getD_some, Option.getD_none]); w_fin) | skip)
/-- a while loop, with a measure -/
theorem W_while {c : Mo D} {b : Ms} {Q : Fl → DEnv → Sto → Prop} (J : Nat → DEnv → Sto → Prop)
    (step : ∀ k e s, J k e s → W c e s (Br (fun e1 s1 => W b e1 s1 (fun f e2 s2 => match f with | .nx => ∃ m, m < k ∧ J m e2 s2 | .ct => ∃ m, m < k ∧ J m e2 s2 | .bk => Q .nx e2 s2 | .rt r => Q (.rt r) e2 s2)) (fun e1 s1 => Q .nx e1 s1))) :
    ∀ (n k : Nat) (e : DEnv) (s : Sto), k < n → J k e s → W (whileL c b n) e s Q
  | 0, k, e, s, h, _ => absurd h (Nat.not_lt_zero _)
  | n + 1, k, e, s, h, hj => by
    obtain ⟨d, e1, s1, h1, t, ht, hq⟩ := step k e s hj
    subst ht
    unfold W whileL
    rw [h1]
    dsimp only
    cases t with
    | false =>
      rw [if_neg (by decide)]
      rw [if_neg (by decide)] at hq
      exact ⟨_, _, _, rfl, hq⟩
    | true =>
      rw [if_pos rfl]
      rw [if_pos rfl] at hq
      obtain ⟨f, e2, s2, h2, q⟩ := hq
      rw [h2]
      cases f with
      | nx =>
        obtain ⟨m, hm, q⟩ := q
        exact W_while J step n m e2 s2 (by omega) q
      | ct =>
        obtain ⟨m, hm, q⟩ := q
        exact W_while J step n m e2 s2 (by omega) q
      | bk => exact ⟨_, _, _, rfl, q⟩
      | rt r => exact ⟨_, _, _, rfl, q⟩
def pqD (p : Nat × Nat) : D := .tup [.int (p.1 : Int), .int (p.2 : Int)]
abbrev pqsD (o : Bool) (l : List (Nat × Nat)) : D := .lst o (l.map pqD)
theorem neI (i j : Int) : neB (.int i) (.int j) = some (.bl (!decide (i = j))) := neB_enc (isE_int i) (isE_int j) trivial trivial
theorem neB_str (x y : Str) : neB (.str x) (.str y) = some (.bl (!decide (x = y))) := by
  unfold neB
  cases h : eqD (.str x) (.str y) with
  | none => rfl
  | some b =>
    obtain ⟨d, e, h1, h2, _, _, rfl⟩ := eqD_of h
    simp only [D.pd, Option.some.injEq] at h1 h2
    subst h1
    subst h2
    show some (D.bl (!(x == y))) = _
    by_cases e : x = y <;> simp [e]
end Fw

set_option Elab.async false
set_option linter.all false
set_option maxRecDepth 100000
namespace Fw
open PySem PySem.Spec PyProof.Rows L2
/-! ### what may be shown, with numbers of up to sixty signs -/
def Shp (p : PyData) (b k : Nat) : Prop := p.showable = true ∧ p.leavesShort 61 = true ∧ p.bulk ≤ b ∧ p.depth ≤ k
def Shw (x : D) (b k : Nat) : Prop := ∃ p, x.sh = some p ∧ Shp p b k
theorem shps_all : ∀ {ps : List PyData} {b k : Nat}, (∀ p ∈ ps, Shp p b k) → PyData.showableAll ps = true ∧ PyData.leavesShortAll 61 ps = true ∧ PyData.bulkAll ps ≤ ps.length * (b + 1) ∧ PyData.depthAll ps ≤ k
  | [], b, k, _ => ⟨rfl, rfl, Nat.zero_le _, Nat.zero_le _⟩
  | p :: ps, b, k, h => by
    obtain ⟨h1, h2, h3, h4⟩ := h p (by simp)
    obtain ⟨g1, g2, g3, g4⟩ := shps_all fun q hq => h q (List.mem_cons_of_mem _ hq)
    refine ⟨?_, ?_, ?_, ?_⟩
    · rw [PyData.showableAll, h1, g1]; rfl
    · rw [PyData.leavesShortAll, h2, g2]; rfl
    · rw [PyData.bulkAll, List.length_cons, Nat.add_mul]; omega
    · rw [PyData.depthAll]; exact Nat.max_le.mpr ⟨h4, g4⟩
theorem shs_all : ∀ {xs : List D} {b k : Nat}, (∀ x ∈ xs, Shw x b k) → ∃ ps, D.shs xs = some ps ∧ ps.length = xs.length ∧ ∀ p ∈ ps, Shp p b k
  | [], b, k, _ => ⟨[], rfl, rfl, by simp⟩
  | x :: xs, b, k, h => by
    obtain ⟨p, h1, h2⟩ := h x (by simp)
    obtain ⟨ps, g1, g2, g3⟩ := shs_all fun q hq => h q (List.mem_cons_of_mem _ hq)
    refine ⟨p :: ps, by rw [D.shs, h1, g1], by rw [List.length_cons, List.length_cons, g2], fun q hq => ?_⟩
    rcases List.mem_cons.mp hq with rfl | hq
    · exact h2
    · exact g3 q hq
theorem Shw.lst {xs : List D} {b k : Nat} (o : Bool) (h : ∀ x ∈ xs, Shw x b k) : Shw (.lst o xs) (xs.length * (b + 1)) (k + 1) := by
  obtain ⟨ps, h1, h2, h3⟩ := shs_all h
  obtain ⟨g1, g2, g3, g4⟩ := shps_all h3
  refine ⟨.list ps, by show (D.shs xs).map _ = _; rw [h1]; rfl, g1, g2, by rw [← h2]; exact g3, Nat.succ_le_succ g4⟩
theorem Shw.tup {xs : List D} {b k : Nat} (h : ∀ x ∈ xs, Shw x b k) : Shw (.tup xs) (xs.length * (b + 1)) (k + 1) := by
  obtain ⟨ps, h1, h2, h3⟩ := shs_all h
  obtain ⟨g1, g2, g3, g4⟩ := shps_all h3
  refine ⟨.tuple ps, by show (D.shs xs).map _ = _; rw [h1]; rfl, g1, g2, by rw [← h2]; exact g3, Nat.succ_le_succ g4⟩
theorem Shw.mono {x : D} {b k b' k' : Nat} (h : Shw x b k) (h1 : b ≤ b') (h2 : k ≤ k') : Shw x b' k' := by
  obtain ⟨p, e, g1, g2, g3, g4⟩ := h
  exact ⟨p, e, g1, g2, by omega, by omega⟩
theorem Shw.non : Shw .non 0 0 := ⟨.none, rfl, rfl, rfl, Nat.le_refl _, Nat.le_refl _⟩
theorem Shw.bl (b : Bool) : Shw (.bl b) 0 0 := ⟨.bool b, rfl, rfl, rfl, Nat.le_refl _, Nat.le_refl _⟩
theorem log2_lt60 {n : Nat} (h : n < 10 ^ 60) : n.log2 < 1920 := by
  by_cases e : n = 0
  · subst e; decide
  · exact (Nat.log2_lt e).mpr (Nat.lt_of_lt_of_le h (by decide +kernel))
theorem Shw.int {i : Int} (h : i.natAbs < 10 ^ 60) : Shw (.int i) 0 0 := by
  refine ⟨.int i, rfl, decide_eq_true (log2_lt60 h), decide_eq_true ?_, Nat.le_refl _, Nat.le_refl _⟩
  have e := int_text_length_le10 (k := 60) (by decide) h
  show (Str.ofString (toString i)).length ≤ 61
  rw [PySem.ofString_length]; exact e
theorem Shw.str {x : Str} (h : ∀ c ∈ tl x, c < 55296) : Shw (.str x) x.length 0 := by
  obtain ⟨h1, h2⟩ := PyShow.ok x h
  refine ⟨.str x, rfl, h1, ?_, Nat.le_refl _, Nat.le_refl _⟩
  exact h2
theorem reprD_shw {x : D} {b k : Nat} (h : Shw x b k) (hb : b ≤ 100000) (hk : k ≤ 60) : ∃ r, reprD x = some (.str r) := by
  obtain ⟨p, e, g1, g2, g3, g4⟩ := h
  have l := PyData.shown_le_bulk 61 (by decide) p g2
  have l2 : (61 + 2) * p.bulk ≤ 63 * 100000 := Nat.mul_le_mul (by decide) (by omega)
  refine ⟨p.shown, ?_⟩
  unfold reprD
  rw [e]
  exact if_pos ⟨g1, decide_eq_true (by omega), by omega⟩
end Fw

set_option Elab.async false
set_option linter.all false
set_option maxRecDepth 100000
namespace Fw
open PySem PySem.Spec PyProof.Rows L2
/-! ### a relation as an object -/
local macro_rules | `(tactic| w_fin) => `(tactic| first | ((first | (with_reducible refine W_seq ?_) | (with_reducible refine W_ite ?_) | (with_reducible refine Nx_nx ?_) | (with_reducible refine Nx_rt ?_) | (with_reducible refine Nx_bk ?_) | (with_reducible refine Nx_ct ?_) | (with_reducible refine Br_t ?_) | (with_reducible refine Br_f ?_) | (with_reducible refine Br_nt ?_) | (with_reducible refine Br_nf ?_) | (with_reducible refine W_for ?_) | (with_reducible refine W_skip ?_) | (with_reducible refine W_pass ?_) | (with_reducible refine W_set ?_) | (with_reducible refine W_ret ?_) | (with_reducible refine W_expr ?_) | (with_reducible refine W_bin ?_) | (with_reducible refine W_un ?_) | (with_reducible refine W_c ?_) | (with_reducible refine W_xx ?_) | (with_reducible refine W_xn ?_) | (with_reducible refine W_ox ?_) | (with_reducible refine W_nil ?_) | (with_reducible refine W_cons ?_) | (with_reducible refine W_lst ?_) | (with_reducible refine W_tup ?_) | (with_reducible refine W_ixx ?_) | (with_reducible refine W_ixn ?_) | (with_reducible refine W_p0 ?_) | (with_reducible refine W_p1 ?_) | (with_reducible refine W_slx ?_) | (with_reducible refine W_nix ?_) | (with_reducible refine W_and ?_) | (with_reducible refine W_or ?_) | (with_reducible refine W_not ?_) | (with_reducible refine W_tru ?_) | (with_reducible refine W_if ?_) | (with_reducible refine W_par ?_) | (with_reducible refine W_asg ?_) | (with_reducible refine W_rng1 ?_) | (with_reducible refine W_storeI ?_) | (with_reducible refine W_dnew ?_) | (with_reducible refine W_ps0 ?_) | (with_reducible refine W_ps1 ?_) | (with_reducible refine W_o0 ?_) | (with_reducible refine W_ox' ?_) | (with_reducible refine W_break ?_) | (with_reducible refine W_cont ?_) | ((with_reducible refine' W_sln ?h1 ?_); (case h1 => exact rfl)) | ((with_reducible refine' W_var ?h1 ?h2 ?_); (case h1 => exact rfl); (case h2 => exact rfl)) | ((with_reducible refine' W_mv ?h1 ?_); (case h1 => exact rfl)) | ((with_reducible refine' W_nx ?h1 ?_); (case h1 => exact rfl)) | ((with_reducible refine' W_nn ?h1 ?h2 ?_); (case h1 => exact rfl); (case h2 => exact rfl)) | ((with_reducible refine' W_on ?h1 ?_); (case h1 => exact rfl)) | ((with_reducible refine' W_on' ?h1 ?_); (case h1 => exact rfl)) | ((with_reducible refine' W_augI ?h1 ?_); (case h1 => exact rfl)) | ((with_reducible refine' W_aug ?h1 ?_); (case h1 => exact rfl)) | ((with_reducible refine' W_mt ?h1 ?_); (case h1 => exact rfl)) | (with_reducible refine Exists.intro _ (And.intro (eqB_int _ _) ?_)) | (with_reducible refine Exists.intro _ (And.intro (max2_nat _ _) ?_)) | (with_reducible refine Exists.intro _ (And.intro (max3_nat _ _ _) ?_)) | (with_reducible refine W_fn2 ?_) | (with_reducible refine Exists.intro _ (And.intro (eqB_str _ _) ?_)) | ((with_reducible refine' Exists.intro _ (And.intro (mulD_l ?h1) ?_)); (case h1 => decide)) | ((with_reducible refine' Exists.intro _ (And.intro (mulD_r ?h1) ?_)); (case h1 => decide)) | ((with_reducible refine' Exists.intro _ (And.intro (modD_l ?h1) ?_)); (case h1 => decide)) | ((with_reducible refine' Exists.intro _ (And.intro (fdivD_l ?h1) ?_)); (case h1 => decide)) | ((with_reducible refine' Exists.intro _ (And.intro (slD_str ?h1) ?_)); (case h1 => first | assumption | omega)) | ((with_reducible refine' Exists.intro _ (And.intro (lenD_str ?h1) ?_)); (case h1 => first | assumption | omega)) | ((with_reducible refine' Exists.intro _ (And.intro (addD_str ?h1) ?_)); (case h1 => first | assumption | omega)) | ((with_reducible refine' And.intro (smallI_of ?h1) ?_); (case h1 => omega))); (try dsimp only [List.set_cons_zero, List.set_cons_succ, placeSet, peek, deref, D.isN', List.getElem?_cons_zero, List.getElem?_cons_succ, Int.reduceToNat, D.fz, D.fzs, setAll, keepE, wipeE, Option.getD_some, Option.getD_none]); w_fin) | (with_reducible refine hold_mul ?_) | (with_reducible refine hold_mod ?_) | (with_reducible refine hold_fdiv ?_) | (with_reducible refine hold_small ?_) | ((first | ((with_reducible refine' Exists.intro _ (And.intro ?h1 ?_)); (case h1 => exact rfl)) | ((with_reducible refine' And.intro ?h1 ?_); (case h1 => first | exact rfl | exact of_decide_eq_true rfl))); (try dsimp only [List.set_cons_zero, List.set_cons_succ, placeSet, peek, deref, D.isN', List.getElem?_cons_zero, List.getElem?_cons_succ, Int.reduceToNat, D.fz, D.fzs, setAll, keepE, wipeE, Option.getD_some, Option.getD_none]); w_fin) | skip)
def ordP (p : Str × Str) : Str × Str := if cp p.2 < cp p.1 then (p.2, p.1) else p
end Fw

set_option Elab.async false
set_option linter.all false
set_option maxRecDepth 100000
namespace Fw
open PySem PySem.Spec PyProof.Rows L2
local macro_rules | `(tactic| w_fin) => `(tactic| first | ((first | (with_reducible refine W_seq ?_) | (with_reducible refine W_ite ?_) | (with_reducible refine Nx_nx ?_) | (with_reducible refine Nx_rt ?_) | (with_reducible refine Nx_bk ?_) | (with_reducible refine Nx_ct ?_) | (with_reducible refine Br_t ?_) | (with_reducible refine Br_f ?_) | (with_reducible refine Br_nt ?_) | (with_reducible refine Br_nf ?_) | (with_reducible refine W_for ?_) | (with_reducible refine W_skip ?_) | (with_reducible refine W_pass ?_) | (with_reducible refine W_set ?_) | (with_reducible refine W_ret ?_) | (with_reducible refine W_expr ?_) | (with_reducible refine W_bin ?_) | (with_reducible refine W_un ?_) | (with_reducible refine W_c ?_) | (with_reducible refine W_xx ?_) | (with_reducible refine W_xn ?_) | (with_reducible refine W_ox ?_) | (with_reducible refine W_nil ?_) | (with_reducible refine W_cons ?_) | (with_reducible refine W_lst ?_) | (with_reducible refine W_tup ?_) | (with_reducible refine W_ixx ?_) | (with_reducible refine W_ixn ?_) | (with_reducible refine W_p0 ?_) | (with_reducible refine W_p1 ?_) | (with_reducible refine W_slx ?_) | (with_reducible refine W_nix ?_) | (with_reducible refine W_and ?_) | (with_reducible refine W_or ?_) | (with_reducible refine W_not ?_) | (with_reducible refine W_tru ?_) | (with_reducible refine W_if ?_) | (with_reducible refine W_par ?_) | (with_reducible refine W_asg ?_) | (with_reducible refine W_rng1 ?_) | (with_reducible refine W_storeI ?_) | (with_reducible refine W_dnew ?_) | (with_reducible refine W_ps0 ?_) | (with_reducible refine W_ps1 ?_) | (with_reducible refine W_o0 ?_) | (with_reducible refine W_ox' ?_) | (with_reducible refine W_break ?_) | (with_reducible refine W_cont ?_) | ((with_reducible refine' W_sln ?h1 ?_); (case h1 => exact rfl)) | ((with_reducible refine' W_var ?h1 ?h2 ?_); (case h1 => exact rfl); (case h2 => exact rfl)) | ((with_reducible refine' W_mv ?h1 ?_); (case h1 => exact rfl)) | ((with_reducible refine' W_nx ?h1 ?_); (case h1 => exact rfl)) | ((with_reducible refine' W_nn ?h1 ?h2 ?_); (case h1 => exact rfl); (case h2 => exact rfl)) | ((with_reducible refine' W_on ?h1 ?_); (case h1 => exact rfl)) | ((with_reducible refine' W_on' ?h1 ?_); (case h1 => exact rfl)) | ((with_reducible refine' W_augI ?h1 ?_); (case h1 => exact rfl)) | ((with_reducible refine' W_aug ?h1 ?_); (case h1 => exact rfl)) | ((with_reducible refine' W_mt ?h1 ?_); (case h1 => exact rfl)) | (with_reducible refine Exists.intro _ (And.intro (eqB_int _ _) ?_)) | (with_reducible refine Exists.intro _ (And.intro (max2_nat _ _) ?_)) | (with_reducible refine Exists.intro _ (And.intro (max3_nat _ _ _) ?_)) | (with_reducible refine W_fn2 ?_) | (with_reducible refine Exists.intro _ (And.intro (eqB_str _ _) ?_)) | ((with_reducible refine' Exists.intro _ (And.intro (mulD_l ?h1) ?_)); (case h1 => decide)) | ((with_reducible refine' Exists.intro _ (And.intro (mulD_r ?h1) ?_)); (case h1 => decide)) | ((with_reducible refine' Exists.intro _ (And.intro (modD_l ?h1) ?_)); (case h1 => decide)) | ((with_reducible refine' Exists.intro _ (And.intro (fdivD_l ?h1) ?_)); (case h1 => decide)) | ((with_reducible refine' Exists.intro _ (And.intro (slD_str ?h1) ?_)); (case h1 => first | assumption | omega)) | ((with_reducible refine' Exists.intro _ (And.intro (lenD_str ?h1) ?_)); (case h1 => first | assumption | omega)) | ((with_reducible refine' Exists.intro _ (And.intro (addD_str ?h1) ?_)); (case h1 => first | assumption | omega)) | ((with_reducible refine' And.intro (smallI_of ?h1) ?_); (case h1 => omega))); (try dsimp only [List.set_cons_zero, List.set_cons_succ, placeSet, peek, deref, D.isN', List.getElem?_cons_zero, List.getElem?_cons_succ, Int.reduceToNat, D.fz, D.fzs, setAll, keepE, wipeE, Option.getD_some, Option.getD_none]); w_fin) | (with_reducible refine hold_mul ?_) | (with_reducible refine hold_mod ?_) | (with_reducible refine hold_fdiv ?_) | (with_reducible refine hold_small ?_) | ((first | ((with_reducible refine' Exists.intro _ (And.intro ?h1 ?_)); (case h1 => exact rfl)) | ((with_reducible refine' And.intro ?h1 ?_); (case h1 => first | exact rfl | exact of_decide_eq_true rfl))); (try dsimp only [List.set_cons_zero, List.set_cons_succ, placeSet, peek, deref, D.isN', List.getElem?_cons_zero, List.getElem?_cons_succ, Int.reduceToNat, D.fz, D.fzs, setAll, keepE, wipeE, Option.getD_some, Option.getD_none]); w_fin) | skip)
theorem map_at {α : Type} {f : α → D} {l : List α} {k : Nat} {d : D} (h : (l.map f)[k]? = some d) : ∃ hk : k < l.length, d = f l[k] := by
  rw [List.getElem?_map] at h
  cases e : l[k]? with
  | none => rw [e] at h; cases h
  | some x =>
    rw [e] at h
    obtain ⟨hk, rfl⟩ := List.getElem?_eq_some_iff.mp e
    cases h
    exact ⟨hk, rfl⟩
abbrev prsD (o : Bool) (ps : List (Str × Str)) : D := .lst o (ps.map pairD)
theorem fz_prs (o : Bool) (ps : List (Str × Str)) : (prsD o ps).fz = prsD false ps := by
  cases o
  · rfl
  · rw [D.fz, if_pos rfl, fzs_pairs]
theorem nob_prs (o : Bool) (ps : List (Str × Str)) : (prsD o ps).nob = true := by rw [D.nob]; exact nobs_pairs ps
/-- a comprehension over the pictures of a list -/
theorem lc_of {α : Type} {vs : List Nat} {bi : Bi} {t elt : Mo D} {g : α → D} (P : α → Bool) (F : α → D) (J : DEnv → Sto → Prop) : ∀ {l : List α} {Q : List D → DEnv → Sto → Prop} {e : DEnv} {s : Sto},
    (∀ a ∈ l, ∀ e s, J e s → ∃ e1, bi (g a) e = some e1 ∧ W t e1 s (fun b e2 s2 => b = .bl (P a) ∧ (P a = true → W elt e2 s2 (fun y e3 s3 => y = F a ∧ J (wipeE e3 vs) s3)) ∧ (P a = false → J (wipeE e2 vs) s2))) →
    (∀ e s, J e s → Q ((l.filter P).map F) e s) → J e s → W (lcL vs bi t elt (l.map g)) e s Q
  | [], Q, e, s, _, fin, h => ⟨[], e, s, rfl, fin e s h⟩
  | a :: l, Q, e, s, step, fin, h => by
    obtain ⟨e1, h1, b, e2, s2, hb, rfl, hT, hF⟩ := step a (by simp) e s h
    have step' : ∀ a ∈ l, ∀ e s, J e s → ∃ e1, bi (g a) e = some e1 ∧ W t e1 s (fun b e2 s2 => b = .bl (P a) ∧ (P a = true → W elt e2 s2 (fun y e3 s3 => y = F a ∧ J (wipeE e3 vs) s3)) ∧ (P a = false → J (wipeE e2 vs) s2)) := fun a h => step a (List.mem_cons_of_mem _ h)
    cases hp : P a with
    | true =>
      obtain ⟨y, e3, s3, hy, rfl, hj⟩ := hT hp
      obtain ⟨ys, e4, s4, h4, q4⟩ := lc_of P F J (l := l) (Q := fun ys e s => Q (F a :: ys) e s) step' (fun e s hj => by
        have := fin e s hj
        rwa [List.filter_cons_of_pos hp] at this) hj
      refine ⟨F a :: ys, e4, s4, ?_, q4⟩
      show lcL vs bi t elt (g a :: l.map g) e s = _
      rw [lcL, h1]
      dsimp only
      rw [hb]
      dsimp only
      rw [hp, if_pos rfl, hy]
      dsimp only
      rw [h4]
    | false =>
      obtain ⟨ys, e4, s4, h4, q4⟩ := lc_of P F J (l := l) (Q := Q) step' (fun e s hj => by
        have := fin e s hj
        rwa [List.filter_cons_of_neg (by rw [hp]; decide)] at this) (hF hp)
      refine ⟨ys, e4, s4, ?_, q4⟩
      show lcL vs bi t elt (g a :: l.map g) e s = _
      rw [lcL, h1]
      dsimp only
      rw [hb]
      dsimp only
      rw [hp, if_neg (by decide)]
      exact h4
/-- the kinds that stand in a pair beside a kind -/
def othersOf (k : Str) (qs : List (Str × Str)) : List Str := (qs.filter fun q => decide (k = q.1) || decide (k = q.2)).map fun q => if q.2 = k then q.1 else q.2
end Fw

set_option Elab.async false
set_option linter.all false
set_option maxRecDepth 100000
namespace Fw
open PySem PySem.Spec PyProof.Rows L2
local macro_rules | `(tactic| w_fin) => `(tactic| first | ((first | (with_reducible refine W_seq ?_) | (with_reducible refine W_ite ?_) | (with_reducible refine Nx_nx ?_) | (with_reducible refine Nx_rt ?_) | (with_reducible refine Nx_bk ?_) | (with_reducible refine Nx_ct ?_) | (with_reducible refine Br_t ?_) | (with_reducible refine Br_f ?_) | (with_reducible refine Br_nt ?_) | (with_reducible refine Br_nf ?_) | (with_reducible refine W_for ?_) | (with_reducible refine W_skip ?_) | (with_reducible refine W_pass ?_) | (with_reducible refine W_set ?_) | (with_reducible refine W_ret ?_) | (with_reducible refine W_expr ?_) | (with_reducible refine W_bin ?_) | (with_reducible refine W_un ?_) | (with_reducible refine W_c ?_) | (with_reducible refine W_xx ?_) | (with_reducible refine W_xn ?_) | (with_reducible refine W_ox ?_) | (with_reducible refine W_nil ?_) | (with_reducible refine W_cons ?_) | (with_reducible refine W_lst ?_) | (with_reducible refine W_tup ?_) | (with_reducible refine W_ixx ?_) | (with_reducible refine W_ixn ?_) | (with_reducible refine W_p0 ?_) | (with_reducible refine W_p1 ?_) | (with_reducible refine W_slx ?_) | (with_reducible refine W_nix ?_) | (with_reducible refine W_and ?_) | (with_reducible refine W_or ?_) | (with_reducible refine W_not ?_) | (with_reducible refine W_tru ?_) | (with_reducible refine W_if ?_) | (with_reducible refine W_par ?_) | (with_reducible refine W_asg ?_) | (with_reducible refine W_rng1 ?_) | (with_reducible refine W_storeI ?_) | (with_reducible refine W_dnew ?_) | (with_reducible refine W_ps0 ?_) | (with_reducible refine W_ps1 ?_) | (with_reducible refine W_o0 ?_) | (with_reducible refine W_ox' ?_) | (with_reducible refine W_break ?_) | (with_reducible refine W_cont ?_) | ((with_reducible refine' W_sln ?h1 ?_); (case h1 => exact rfl)) | ((with_reducible refine' W_var ?h1 ?h2 ?_); (case h1 => exact rfl); (case h2 => exact rfl)) | ((with_reducible refine' W_mv ?h1 ?_); (case h1 => exact rfl)) | ((with_reducible refine' W_nx ?h1 ?_); (case h1 => exact rfl)) | ((with_reducible refine' W_nn ?h1 ?h2 ?_); (case h1 => exact rfl); (case h2 => exact rfl)) | ((with_reducible refine' W_on ?h1 ?_); (case h1 => exact rfl)) | ((with_reducible refine' W_on' ?h1 ?_); (case h1 => exact rfl)) | ((with_reducible refine' W_augI ?h1 ?_); (case h1 => exact rfl)) | ((with_reducible refine' W_aug ?h1 ?_); (case h1 => exact rfl)) | ((with_reducible refine' W_mt ?h1 ?_); (case h1 => exact rfl)) | (with_reducible refine Exists.intro _ (And.intro (eqB_int _ _) ?_)) | (with_reducible refine Exists.intro _ (And.intro (max2_nat _ _) ?_)) | (with_reducible refine Exists.intro _ (And.intro (max3_nat _ _ _) ?_)) | (with_reducible refine W_fn2 ?_) | (with_reducible refine Exists.intro _ (And.intro (eqB_str _ _) ?_)) | ((with_reducible refine' Exists.intro _ (And.intro (mulD_l ?h1) ?_)); (case h1 => decide)) | ((with_reducible refine' Exists.intro _ (And.intro (mulD_r ?h1) ?_)); (case h1 => decide)) | ((with_reducible refine' Exists.intro _ (And.intro (modD_l ?h1) ?_)); (case h1 => decide)) | ((with_reducible refine' Exists.intro _ (And.intro (fdivD_l ?h1) ?_)); (case h1 => decide)) | ((with_reducible refine' Exists.intro _ (And.intro (slD_str ?h1) ?_)); (case h1 => first | assumption | omega)) | ((with_reducible refine' Exists.intro _ (And.intro (lenD_str ?h1) ?_)); (case h1 => first | assumption | omega)) | ((with_reducible refine' Exists.intro _ (And.intro (addD_str ?h1) ?_)); (case h1 => first | assumption | omega)) | ((with_reducible refine' And.intro (smallI_of ?h1) ?_); (case h1 => omega))); (try dsimp only [List.set_cons_zero, List.set_cons_succ, placeSet, peek, deref, D.isN', List.getElem?_cons_zero, List.getElem?_cons_succ, Int.reduceToNat, D.fz, D.fzs, setAll, keepE, wipeE, Option.getD_some, Option.getD_none]); w_fin) | (with_reducible refine hold_mul ?_) | (with_reducible refine hold_mod ?_) | (with_reducible refine hold_fdiv ?_) | (with_reducible refine hold_small ?_) | ((first | ((with_reducible refine' Exists.intro _ (And.intro ?h1 ?_)); (case h1 => exact rfl)) | ((with_reducible refine' And.intro ?h1 ?_); (case h1 => first | exact rfl | exact of_decide_eq_true rfl))); (try dsimp only [List.set_cons_zero, List.set_cons_succ, placeSet, peek, deref, D.isN', List.getElem?_cons_zero, List.getElem?_cons_succ, Int.reduceToNat, D.fz, D.fzs, setAll, keepE, wipeE, Option.getD_some, Option.getD_none]); w_fin) | skip)
end Fw

set_option Elab.async false
set_option linter.all false
set_option maxRecDepth 100000
namespace Fw
open PySem PySem.Spec PyProof.Rows L2
local macro_rules | `(tactic| w_fin) => `(tactic| first | ((first | (with_reducible refine W_seq ?_) | (with_reducible refine W_ite ?_) | (with_reducible refine Nx_nx ?_) | (with_reducible refine Nx_rt ?_) | (with_reducible refine Nx_bk ?_) | (with_reducible refine Nx_ct ?_) | (with_reducible refine Br_t ?_) | (with_reducible refine Br_f ?_) | (with_reducible refine Br_nt ?_) | (with_reducible refine Br_nf ?_) | (with_reducible refine W_for ?_) | (with_reducible refine W_skip ?_) | (with_reducible refine W_pass ?_) | (with_reducible refine W_set ?_) | (with_reducible refine W_ret ?_) | (with_reducible refine W_expr ?_) | (with_reducible refine W_bin ?_) | (with_reducible refine W_un ?_) | (with_reducible refine W_c ?_) | (with_reducible refine W_xx ?_) | (with_reducible refine W_xn ?_) | (with_reducible refine W_ox ?_) | (with_reducible refine W_nil ?_) | (with_reducible refine W_cons ?_) | (with_reducible refine W_lst ?_) | (with_reducible refine W_tup ?_) | (with_reducible refine W_ixx ?_) | (with_reducible refine W_ixn ?_) | (with_reducible refine W_p0 ?_) | (with_reducible refine W_p1 ?_) | (with_reducible refine W_slx ?_) | (with_reducible refine W_nix ?_) | (with_reducible refine W_and ?_) | (with_reducible refine W_or ?_) | (with_reducible refine W_not ?_) | (with_reducible refine W_tru ?_) | (with_reducible refine W_if ?_) | (with_reducible refine W_par ?_) | (with_reducible refine W_asg ?_) | (with_reducible refine W_rng1 ?_) | (with_reducible refine W_storeI ?_) | (with_reducible refine W_dnew ?_) | (with_reducible refine W_ps0 ?_) | (with_reducible refine W_ps1 ?_) | (with_reducible refine W_o0 ?_) | (with_reducible refine W_ox' ?_) | (with_reducible refine W_break ?_) | (with_reducible refine W_cont ?_) | ((with_reducible refine' W_sln ?h1 ?_); (case h1 => exact rfl)) | ((with_reducible refine' W_var ?h1 ?h2 ?_); (case h1 => exact rfl); (case h2 => exact rfl)) | ((with_reducible refine' W_mv ?h1 ?_); (case h1 => exact rfl)) | ((with_reducible refine' W_nx ?h1 ?_); (case h1 => exact rfl)) | ((with_reducible refine' W_nn ?h1 ?h2 ?_); (case h1 => exact rfl); (case h2 => exact rfl)) | ((with_reducible refine' W_on ?h1 ?_); (case h1 => exact rfl)) | ((with_reducible refine' W_on' ?h1 ?_); (case h1 => exact rfl)) | ((with_reducible refine' W_augI ?h1 ?_); (case h1 => exact rfl)) | ((with_reducible refine' W_aug ?h1 ?_); (case h1 => exact rfl)) | ((with_reducible refine' W_mt ?h1 ?_); (case h1 => exact rfl)) | (with_reducible refine Exists.intro _ (And.intro (eqB_int _ _) ?_)) | (with_reducible refine Exists.intro _ (And.intro (max2_nat _ _) ?_)) | (with_reducible refine Exists.intro _ (And.intro (max3_nat _ _ _) ?_)) | (with_reducible refine W_fn2 ?_) | (with_reducible refine Exists.intro _ (And.intro (eqB_str _ _) ?_)) | ((with_reducible refine' Exists.intro _ (And.intro (mulD_l ?h1) ?_)); (case h1 => decide)) | ((with_reducible refine' Exists.intro _ (And.intro (mulD_r ?h1) ?_)); (case h1 => decide)) | ((with_reducible refine' Exists.intro _ (And.intro (modD_l ?h1) ?_)); (case h1 => decide)) | ((with_reducible refine' Exists.intro _ (And.intro (fdivD_l ?h1) ?_)); (case h1 => decide)) | ((with_reducible refine' Exists.intro _ (And.intro (slD_str ?h1) ?_)); (case h1 => first | assumption | omega)) | ((with_reducible refine' Exists.intro _ (And.intro (lenD_str ?h1) ?_)); (case h1 => first | assumption | omega)) | ((with_reducible refine' Exists.intro _ (And.intro (addD_str ?h1) ?_)); (case h1 => first | assumption | omega)) | ((with_reducible refine' And.intro (smallI_of ?h1) ?_); (case h1 => omega))); (try dsimp only [List.set_cons_zero, List.set_cons_succ, placeSet, peek, deref, D.isN', List.getElem?_cons_zero, List.getElem?_cons_succ, Int.reduceToNat, D.fz, D.fzs, setAll, keepE, wipeE, Option.getD_some, Option.getD_none]); w_fin) | (with_reducible refine hold_mul ?_) | (with_reducible refine hold_mod ?_) | (with_reducible refine hold_fdiv ?_) | (with_reducible refine hold_small ?_) | ((first | ((with_reducible refine' Exists.intro _ (And.intro ?h1 ?_)); (case h1 => exact rfl)) | ((with_reducible refine' And.intro ?h1 ?_); (case h1 => first | exact rfl | exact of_decide_eq_true rfl))); (try dsimp only [List.set_cons_zero, List.set_cons_succ, placeSet, peek, deref, D.isN', List.getElem?_cons_zero, List.getElem?_cons_succ, Int.reduceToNat, D.fz, D.fzs, setAll, keepE, wipeE, Option.getD_some, Option.getD_none]); w_fin) | skip)
/-- the pairs in their order -/
abbrev ordPs (ps : List (Str × Str)) : List (Str × Str) := sortP (ps.map ordP)
def matesD (o : Bool) (ks : List Str) (ps : List (Str × Str)) : D := .dic o (ks.map fun k => (.inr k, strD o (othersOf k (ordPs ps))))
def suitsF (o : Bool) (ks : List Str) (ps : List (Str × Str)) : List (Str × D) := [(Str.ofString "_kinds", strD o (sortS ks)), (Str.ofString "_pairs", prsD false (ordPs ps)), (Str.ofString "_mates", matesD o ks ps)]
def suitsD (o : Bool) (ks : List Str) (ps : List (Str × Str)) : D := .obj o (Str.ofString "Suits") (suitsF o ks ps)
theorem noCs_of {xs : List D} (h : ∀ x ∈ xs, x.noC = true) : D.noCs xs = true := by
  induction xs with
  | nil => rfl
  | cons a r ih => rw [D.noCs, h a (by simp), ih fun x hx => h x (List.mem_cons_of_mem _ hx)]; rfl
theorem fzk_map {α : Type} (l : List α) (k : α → Key) (f : α → D) : D.fzk (l.map fun a => (k a, f a)) = l.map fun a => (k a, (f a).fz) := by
  induction l with
  | nil => rfl
  | cons a l ih => rw [List.map_cons, D.fzk, ih]; rfl
theorem fz_mates (o : Bool) (ks : List Str) (ps : List (Str × Str)) : (matesD o ks ps).fz = matesD false ks ps := by
  cases o
  · rfl
  · unfold matesD
    rw [D.fz, if_pos rfl, fzk_map]
    simp only [fz_strD]
theorem fz_suits (o : Bool) (ks : List Str) (ps : List (Str × Str)) : (suitsD o ks ps).fz = suitsD false ks ps := by
  cases o
  · rfl
  · unfold suitsD suitsF
    rw [D.fz, if_pos rfl, D.fzf, D.fzf, D.fzf, D.fzf, fz_strD, fz_prs, fz_mates]
theorem nobk_of {xs : List (Key × D)} (h : ∀ x ∈ xs, x.2.nob = true) : D.nobk xs = true := by
  induction xs with
  | nil => rfl
  | cons a r ih =>
    obtain ⟨k, d⟩ := a
    rw [D.nobk, h (k, d) (by simp), ih fun x hx => h x (List.mem_cons_of_mem _ hx)]; rfl
theorem nob_mates (o : Bool) (ks : List Str) (ps : List (Str × Str)) : (matesD o ks ps).nob = true := by
  unfold matesD
  rw [D.nob]; exact nobk_of fun x hx => by obtain ⟨k, _, rfl⟩ := List.mem_map.mp hx; exact nob_strD _ _
theorem nob_suits (o : Bool) (ks : List Str) (ps : List (Str × Str)) : (suitsD o ks ps).nob = true := by
  unfold suitsD suitsF
  rw [D.nob, D.nobf, D.nobf, D.nobf, D.nobf, nob_strD, nob_prs, nob_mates]; rfl
end Fw

set_option Elab.async false
set_option linter.all false
set_option maxRecDepth 100000
namespace Fw
open PySem PySem.Spec PyProof.Rows L2
local macro_rules | `(tactic| w_fin) => `(tactic| first | ((first | (with_reducible refine W_seq ?_) | (with_reducible refine W_ite ?_) | (with_reducible refine Nx_nx ?_) | (with_reducible refine Nx_rt ?_) | (with_reducible refine Nx_bk ?_) | (with_reducible refine Nx_ct ?_) | (with_reducible refine Br_t ?_) | (with_reducible refine Br_f ?_) | (with_reducible refine Br_nt ?_) | (with_reducible refine Br_nf ?_) | (with_reducible refine W_for ?_) | (with_reducible refine W_skip ?_) | (with_reducible refine W_pass ?_) | (with_reducible refine W_set ?_) | (with_reducible refine W_ret ?_) | (with_reducible refine W_expr ?_) | (with_reducible refine W_bin ?_) | (with_reducible refine W_un ?_) | (with_reducible refine W_c ?_) | (with_reducible refine W_xx ?_) | (with_reducible refine W_xn ?_) | (with_reducible refine W_ox ?_) | (with_reducible refine W_nil ?_) | (with_reducible refine W_cons ?_) | (with_reducible refine W_lst ?_) | (with_reducible refine W_tup ?_) | (with_reducible refine W_ixx ?_) | (with_reducible refine W_ixn ?_) | (with_reducible refine W_p0 ?_) | (with_reducible refine W_p1 ?_) | (with_reducible refine W_slx ?_) | (with_reducible refine W_nix ?_) | (with_reducible refine W_and ?_) | (with_reducible refine W_or ?_) | (with_reducible refine W_not ?_) | (with_reducible refine W_tru ?_) | (with_reducible refine W_if ?_) | (with_reducible refine W_par ?_) | (with_reducible refine W_asg ?_) | (with_reducible refine W_rng1 ?_) | (with_reducible refine W_storeI ?_) | (with_reducible refine W_dnew ?_) | (with_reducible refine W_ps0 ?_) | (with_reducible refine W_ps1 ?_) | (with_reducible refine W_o0 ?_) | (with_reducible refine W_ox' ?_) | (with_reducible refine W_break ?_) | (with_reducible refine W_cont ?_) | ((with_reducible refine' W_sln ?h1 ?_); (case h1 => exact rfl)) | ((with_reducible refine' W_var ?h1 ?h2 ?_); (case h1 => exact rfl); (case h2 => exact rfl)) | ((with_reducible refine' W_mv ?h1 ?_); (case h1 => exact rfl)) | ((with_reducible refine' W_nx ?h1 ?_); (case h1 => exact rfl)) | ((with_reducible refine' W_nn ?h1 ?h2 ?_); (case h1 => exact rfl); (case h2 => exact rfl)) | ((with_reducible refine' W_on ?h1 ?_); (case h1 => exact rfl)) | ((with_reducible refine' W_on' ?h1 ?_); (case h1 => exact rfl)) | ((with_reducible refine' W_augI ?h1 ?_); (case h1 => exact rfl)) | ((with_reducible refine' W_aug ?h1 ?_); (case h1 => exact rfl)) | ((with_reducible refine' W_mt ?h1 ?_); (case h1 => exact rfl)) | (with_reducible refine Exists.intro _ (And.intro (eqB_int _ _) ?_)) | (with_reducible refine Exists.intro _ (And.intro (max2_nat _ _) ?_)) | (with_reducible refine Exists.intro _ (And.intro (max3_nat _ _ _) ?_)) | (with_reducible refine W_fn2 ?_) | (with_reducible refine Exists.intro _ (And.intro (eqB_str _ _) ?_)) | ((with_reducible refine' Exists.intro _ (And.intro (mulD_l ?h1) ?_)); (case h1 => decide)) | ((with_reducible refine' Exists.intro _ (And.intro (mulD_r ?h1) ?_)); (case h1 => decide)) | ((with_reducible refine' Exists.intro _ (And.intro (modD_l ?h1) ?_)); (case h1 => decide)) | ((with_reducible refine' Exists.intro _ (And.intro (fdivD_l ?h1) ?_)); (case h1 => decide)) | ((with_reducible refine' Exists.intro _ (And.intro (slD_str ?h1) ?_)); (case h1 => first | assumption | omega)) | ((with_reducible refine' Exists.intro _ (And.intro (lenD_str ?h1) ?_)); (case h1 => first | assumption | omega)) | ((with_reducible refine' Exists.intro _ (And.intro (addD_str ?h1) ?_)); (case h1 => first | assumption | omega)) | ((with_reducible refine' And.intro (smallI_of ?h1) ?_); (case h1 => omega))); (try dsimp only [List.set_cons_zero, List.set_cons_succ, placeSet, peek, deref, D.isN', List.getElem?_cons_zero, List.getElem?_cons_succ, Int.reduceToNat, D.fz, D.fzs, setAll, keepE, wipeE, Option.getD_some, Option.getD_none]); w_fin) | (with_reducible refine hold_mul ?_) | (with_reducible refine hold_mod ?_) | (with_reducible refine hold_fdiv ?_) | (with_reducible refine hold_small ?_) | ((first | ((with_reducible refine' Exists.intro _ (And.intro ?h1 ?_)); (case h1 => exact rfl)) | ((with_reducible refine' And.intro ?h1 ?_); (case h1 => first | exact rfl | exact of_decide_eq_true rfl))); (try dsimp only [List.set_cons_zero, List.set_cons_succ, placeSet, peek, deref, D.isN', List.getElem?_cons_zero, List.getElem?_cons_succ, Int.reduceToNat, D.fz, D.fzs, setAll, keepE, wipeE, Option.getD_some, Option.getD_none]); w_fin) | skip)
/-- who suits one of several kinds -/
def matesOf (ks : List Str) (ps : List (Str × Str)) (cs : List Str) : List Str := (sortS ks).filter fun m => ((sortS ks).filter fun k => decide (k ∈ cs)).any fun k => decide (k ∈ othersOf m (ordPs ps))
end Fw

set_option Elab.async false
set_option linter.all false
/-! the run by numbers: who waits, who is whose partner -/
namespace Rn
variable {κ : Type}
abbrev St (κ : Type) := List (Nat × κ) × List (Option Nat)
def pair (ms : List (Option Nat)) (p : Nat) : List (Option Nat) := ((ms ++ [none]).set p (some ms.length)).set ms.length (some p)
def step (f : κ → κ → Bool) (s : St κ) (k : κ) : St κ := match s.1.findIdx? (fun p => f p.2 k) with
  | none => (s.1 ++ [(s.2.length, k)], s.2 ++ [none])
  | some i => match s.1[i]? with
    | some p => (s.1.eraseIdx i, pair s.2 p.1)
    | none => s
def ini : Nat → List κ → List (Nat × κ)
  | _, [] => []
  | n, z :: zs => (n, z) :: ini (n + 1) zs
def start (ls : List κ) : St κ := (ini 0 ls, List.replicate ls.length none)
def run (f : κ → κ → Bool) (ls row : List κ) : St κ := row.foldl (step f) (start ls)
theorem run_snoc (f : κ → κ → Bool) (ls row : List κ) (k : κ) : run f ls (row ++ [k]) = step f (run f ls row) k := by unfold run; rw [List.foldl_append]; rfl
theorem run_take (f : κ → κ → Bool) (ls row : List κ) {m : Nat} (h : m < row.length) : run f ls (row.take (m + 1)) = step f (run f ls (row.take m)) row[m] := by
  rw [List.take_succ_eq_append_getElem h, run_snoc]
/-- what is so of each state: all = the persons that came so far -/
structure Ok (f : κ → κ → Bool) (all : List κ) (s : St κ) : Prop where
  len : s.2.length = all.length
  wait : s.1.map (·.1) = (List.range s.2.length).filter fun i => s.2[i]? == some none
  lnk : ∀ i j : Nat, s.2[i]? = some (some j) → j ≠ i ∧ s.2[j]? = some (some i)
  kd : ∀ p ∈ s.1, all[p.1]? = some p.2
theorem ini_fst : ∀ (n : Nat) (zs : List κ), (ini n zs).map (·.1) = (List.range zs.length).map (n + ·)
  | _, [] => rfl
  | n, z :: zs => by
    rw [ini, List.map_cons, ini_fst (n + 1) zs, List.length_cons, List.range_succ_eq_map, List.map_cons, List.map_map]
    congr 1
    apply List.map_congr_left
    intro i _
    show n + 1 + i = n + (i + 1)
    omega
theorem ini_kd : ∀ (n : Nat) (zs : List κ), ∀ p ∈ ini n zs, n ≤ p.1 ∧ zs[p.1 - n]? = some p.2
  | _, [], _, h => by cases h
  | n, z :: zs, p, h => by
    rcases List.mem_cons.mp h with rfl | h
    · exact ⟨Nat.le_refl _, by rw [Nat.sub_self]; rfl⟩
    · obtain ⟨h1, h2⟩ := ini_kd (n + 1) zs p h
      refine ⟨by omega, ?_⟩
      have e : p.1 - n = (p.1 - (n + 1)) + 1 := by omega
      rw [e, List.getElem?_cons_succ]; exact h2
theorem start_ok (f : κ → κ → Bool) (ls : List κ) : Ok f ls (start ls) where
  len := List.length_replicate
  wait := by
    show (ini 0 ls).map (·.1) = _
    rw [ini_fst]
    show _ = (List.range (List.replicate ls.length (none : Option Nat)).length).filter _
    rw [List.length_replicate, List.filter_eq_self.mpr]
    · rw [List.map_congr_left (g := id) fun i _ => by show 0 + i = i; omega, List.map_id]
    · intro i hi
      have hi := List.mem_range.mp hi
      show ((List.replicate ls.length (none : Option Nat))[i]? == some none) = true
      rw [List.getElem?_replicate, if_pos hi]; rfl
  lnk := fun i j h => by
    have h : (List.replicate ls.length (none : Option Nat))[i]? = some (some j) := h
    rw [List.getElem?_replicate] at h
    split at h
    · cases h
    · cases h
  kd := fun p hp => by
    obtain ⟨_, h⟩ := ini_kd 0 ls p hp
    exact h
theorem pair_len (ms : List (Option Nat)) (p : Nat) : (pair ms p).length = ms.length + 1 := by unfold pair; simp
theorem pair_get {ms : List (Option Nat)} {p : Nat} (hp : p < ms.length) (i : Nat) : (pair ms p)[i]? = if i = ms.length then some (some p) else if i = p then some (some ms.length) else ms[i]? := by
  unfold pair
  by_cases h1 : i = ms.length
  · subst h1
    rw [if_pos rfl, List.getElem?_set_self (by simp)]
  · rw [if_neg h1, List.getElem?_set_ne (by omega)]
    by_cases h2 : i = p
    · subst h2
      rw [if_pos rfl, List.getElem?_set_self (by simp; omega)]
    · rw [if_neg h2, List.getElem?_set_ne (by omega)]
      by_cases h3 : i < ms.length
      · rw [List.getElem?_append_left h3]
      · rw [List.getElem?_eq_none (by simp; omega), List.getElem?_eq_none (by omega)]
theorem find_some {f : κ → κ → Bool} {th : List (Nat × κ)} {k : κ} {i : Nat} (h : th.findIdx? (fun p => f p.2 k) = some i) : ∃ hi : i < th.length, f th[i].2 k = true ∧ ∀ j (hj : j < i), f (th[j]'(by omega)).2 k = false := by
  obtain ⟨h1, h2, h3⟩ := List.findIdx?_eq_some_iff_getElem.mp h
  exact ⟨h1, h2, fun j hj => by simpa using h3 j hj⟩
theorem wait_inc {f : κ → κ → Bool} {all : List κ} {s : St κ} (h : Ok f all s) : (s.1.map (·.1)).Pairwise (· < ·) := by
  rw [h.wait]; exact List.pairwise_lt_range.filter _
theorem wait_lt {f : κ → κ → Bool} {all : List κ} {s : St κ} (h : Ok f all s) {p : Nat × κ} (hp : p ∈ s.1) : p.1 < s.2.length ∧ s.2[p.1]? = some none := by
  have : p.1 ∈ s.1.map (·.1) := List.mem_map.mpr ⟨p, hp, rfl⟩
  rw [h.wait] at this
  obtain ⟨h1, h2⟩ := List.mem_filter.mp this
  exact ⟨List.mem_range.mp h1, by simpa using h2⟩
theorem erase_filter {l : List Nat} (hl : l.Pairwise (· < ·)) {i : Nat} (hi : i < l.length) : l.eraseIdx i = l.filter (fun x => !(x == l[i])) := by
  induction l generalizing i with
  | nil => simp at hi
  | cons a l ih =>
    have hp := List.pairwise_cons.mp hl
    cases i with
    | zero =>
      rw [List.eraseIdx_cons_zero, List.filter_cons]
      simp only [List.getElem_cons_zero, beq_self_eq_true, Bool.not_true, Bool.false_eq_true, if_false]
      rw [List.filter_eq_self.mpr]
      intro x hx
      have := hp.1 x hx
      simp; omega
    | succ i =>
      have hi' : i < l.length := by simpa using hi
      rw [List.eraseIdx_cons_succ, List.filter_cons, ih hp.2 hi']
      have hlt := hp.1 _ (List.getElem_mem hi')
      rw [if_pos]
      · rfl
      · simp; omega
theorem map_eraseIdx {α β : Type} (g : α → β) : ∀ (l : List α) (i : Nat), (l.eraseIdx i).map g = (l.map g).eraseIdx i
  | [], _ => rfl
  | a :: l, 0 => rfl
  | a :: l, i + 1 => congrArg (g a :: ·) (map_eraseIdx g l i)
theorem step_ok {f : κ → κ → Bool} {all : List κ} {s : St κ} (h : Ok f all s) (k : κ) : Ok f (all ++ [k]) (step f s k) := by
  unfold step
  have hw : ∀ p ∈ s.1, p.1 < s.2.length := fun p hp => (wait_lt h hp).1
  cases e : s.1.findIdx? (fun p => f p.2 k) with
  | none =>
    dsimp only
    constructor
    · simp [h.len]
    · show (s.1 ++ [(s.2.length, k)]).map (·.1) = (List.range (s.2 ++ [none]).length).filter fun i => (s.2 ++ [none])[i]? == some none
      rw [List.map_append, h.wait, List.length_append, List.length_singleton, List.range_succ, List.filter_append]
      congr 1
      · apply List.filter_congr
        intro i hi
        have hi := List.mem_range.mp hi
        rw [List.getElem?_append_left hi]
      · show [s.2.length] = List.filter _ [s.2.length]
        rw [List.filter_cons, if_pos (by simp)]; rfl
    · intro i j hij
      have hij : (s.2 ++ [none])[i]? = some (some j) := hij
      by_cases hi : i < s.2.length
      · rw [List.getElem?_append_left hi] at hij
        obtain ⟨h1, h2⟩ := h.lnk i j hij
        refine ⟨h1, ?_⟩
        have hj : j < s.2.length := (List.getElem?_eq_some_iff.mp h2).1
        show (s.2 ++ [none])[j]? = _
        rw [List.getElem?_append_left hj]; exact h2
      · rw [List.getElem?_append_right (by omega)] at hij
        cases hz : i - s.2.length with
        | zero => rw [hz] at hij; cases hij
        | succ z => rw [hz] at hij; cases hij
    · intro p hp
      rcases List.mem_append.mp hp with hp | hp
      · have h1 := h.kd p hp
        rw [List.getElem?_append_left (by have := hw p hp; rw [h.len] at this; exact this)]; exact h1
      · rw [List.mem_singleton.mp hp]
        show (all ++ [k])[s.2.length]? = some k
        rw [h.len, List.getElem?_append_right (Nat.le_refl _), Nat.sub_self]; rfl
  | some i =>
    obtain ⟨hi, hf, hj⟩ := find_some e
    dsimp only
    rw [List.getElem?_eq_getElem hi]
    dsimp only
    have hp := hw _ (List.getElem_mem hi)
    have hpn := (wait_lt h (List.getElem_mem hi)).2
    generalize hpe : s.1[i] = p at *
    constructor
    · show (pair s.2 p.1).length = _
      rw [pair_len, h.len]; simp
    · show (s.1.eraseIdx i).map (·.1) = (List.range (pair s.2 p.1).length).filter fun i => (pair s.2 p.1)[i]? == some none
      have hil : i < (s.1.map (·.1)).length := by rw [List.length_map]; exact hi
      rw [map_eraseIdx, erase_filter (wait_inc h) hil, pair_len, List.range_succ, List.filter_append]
      have e1 : (s.1.map (·.1))[i] = p.1 := by rw [List.getElem_map, hpe]
      rw [e1, h.wait, List.filter_filter]
      have e2 : List.filter (fun i => (pair s.2 p.1)[i]? == some none) [s.2.length] = [] := by
        rw [List.filter_cons, pair_get hp, if_pos rfl, if_neg (by simp)]; rfl
      rw [e2, List.append_nil]
      apply List.filter_congr
      intro x hx
      have hx := List.mem_range.mp hx
      rw [pair_get hp, if_neg (by omega)]
      by_cases hxp : x = p.1
      · subst hxp; simp
      · rw [if_neg hxp]; simp [hxp]
    · intro x y hxy
      have hxy : (pair s.2 p.1)[x]? = some (some y) := hxy
      show y ≠ x ∧ (pair s.2 p.1)[y]? = some (some x)
      rw [pair_get hp] at hxy
      rw [pair_get hp]
      by_cases h1 : x = s.2.length
      · rw [if_pos h1] at hxy
        cases hxy
        refine ⟨by omega, ?_⟩
        rw [if_neg (by omega), if_pos rfl, h1]
      · rw [if_neg h1] at hxy
        by_cases h2 : x = p.1
        · rw [if_pos h2] at hxy
          cases hxy
          exact ⟨by omega, by rw [if_pos rfl, h2]⟩
        · rw [if_neg h2] at hxy
          obtain ⟨h3, h4⟩ := h.lnk x y hxy
          have hy : y < s.2.length := (List.getElem?_eq_some_iff.mp h4).1
          have hyp : y ≠ p.1 := fun e => by rw [e, hpn] at h4; cases h4
          exact ⟨h3, by rw [if_neg (by omega), if_neg hyp]; exact h4⟩
    · intro q hq
      have hq := List.mem_of_mem_eraseIdx hq
      have h1 := h.kd q hq
      rw [List.getElem?_append_left (by have := hw q hq; rw [h.len] at this; exact this)]; exact h1
theorem fold_ok (f : κ → κ → Bool) : ∀ (row all : List κ) (s : St κ), Ok f all s → Ok f (all ++ row) (row.foldl (step f) s)
  | [], all, s, h => by rw [List.append_nil]; exact h
  | k :: row, all, s, h => by
    have := fold_ok f row (all ++ [k]) (step f s k) (step_ok h k)
    rw [List.append_assoc] at this
    exact this
theorem run_ok (f : κ → κ → Bool) (ls row : List κ) : Ok f (ls ++ row) (run f ls row) := fold_ok f row ls _ (start_ok f ls)
/-- who waits before the n-th came, told by the partners -/
def waitB (l : List (Option Nat)) (n i : Nat) : Bool := match l[i]? with
  | some (some j) => decide (n ≤ j)
  | _ => true
theorem step_keep {f : κ → κ → Bool} {all : List κ} {s : St κ} (h : Ok f all s) (k : κ) : ∀ i : Nat, i < s.2.length → s.2[i]? = (match (step f s k).2[i]? with | some (some j) => if j < s.2.length then some (some j) else some none | x => x) := by
  intro i hi
  unfold step
  cases e : s.1.findIdx? (fun p => f p.2 k) with
  | none =>
    dsimp only
    rw [List.getElem?_append_left hi]
    cases e2 : s.2[i]? with
    | none => rfl
    | some o =>
      cases o with
      | none => rfl
      | some j =>
        have := (List.getElem?_eq_some_iff.mp (h.lnk i j e2).2).1
        dsimp only
        rw [if_pos this]
  | some q =>
    obtain ⟨hq, hf, hj⟩ := find_some e
    dsimp only
    rw [List.getElem?_eq_getElem hq]
    dsimp only
    obtain ⟨hp, hpn⟩ := wait_lt h (List.getElem_mem hq)
    rw [pair_get hp, if_neg (by omega)]
    by_cases h2 : i = s.1[q].1
    · rw [if_pos h2]
      dsimp only
      rw [if_neg (Nat.lt_irrefl _), h2, hpn]
    · rw [if_neg h2]
      cases e2 : s.2[i]? with
      | none => rfl
      | some o =>
        cases o with
        | none => rfl
        | some j =>
          have := (List.getElem?_eq_some_iff.mp (h.lnk i j e2).2).1
          dsimp only
          rw [if_pos this]
/-- the partners so far are those at the end, cut -/
def cutAt (n : Nat) (x : Option (Option Nat)) : Option (Option Nat) := match x with
  | some (some j) => if j < n then some (some j) else some none
  | x => x
theorem cutAt_cut {n m : Nat} (h : n ≤ m) (x : Option (Option Nat)) : cutAt n (cutAt m x) = cutAt n x := by
  match x with
  | none => rfl
  | some none => rfl
  | some (some j) =>
    unfold cutAt
    dsimp only
    by_cases h1 : j < m
    · rw [if_pos h1]
    · rw [if_neg h1, if_neg (by omega)]
theorem run_len (f : κ → κ → Bool) (ls row : List κ) : (run f ls row).2.length = ls.length + row.length := by rw [(run_ok f ls row).len, List.length_append]
theorem run_cut (f : κ → κ → Bool) (ls row : List κ) : ∀ (m : Nat), m ≤ row.length → ∀ i, i < ls.length + m → (run f ls (row.take m)).2[i]? = cutAt (ls.length + m) (run f ls row).2[i]? := by
  intro m hm
  obtain ⟨d, hd⟩ : ∃ d, row.length = m + d := ⟨row.length - m, by omega⟩
  induction d generalizing m with
  | zero =>
    intro i hi
    rw [List.take_of_length_le (by omega)]
    cases e2 : (run f ls row).2[i]? with
    | none => rfl
    | some o =>
      cases o with
      | none => rfl
      | some j =>
        have := (List.getElem?_eq_some_iff.mp ((run_ok f ls row).lnk i j e2).2).1
        rw [run_len] at this
        unfold cutAt
        dsimp only
        rw [if_pos (by omega)]
  | succ d ih =>
    intro i hi
    have h1 := ih (m + 1) (by omega) (by omega) i (by omega)
    have hlt : m < row.length := by omega
    rw [run_take f ls row hlt] at h1
    have hl : (run f ls (row.take m)).2.length = ls.length + m := by rw [run_len, List.length_take]; omega
    have h2 := step_keep (run_ok f ls (row.take m)) row[m] i (by omega)
    rw [h2, h1, hl]
    exact cutAt_cut (by omega) _
/-- links: each the partner of its partner -/
def Lk (l : List (Option Nat)) : Prop := ∀ i j : Nat, l[i]? = some (some j) → j ≠ i ∧ l[j]? = some (some i)
theorem run_lk (f : κ → κ → Bool) (ls row : List κ) : Lk (run f ls row).2 := (run_ok f ls row).lnk
/-- the earlier one with whom the n-th leaves -/
def earl (l : List (Option Nat)) (n : Nat) : Option Nat := match l[n]? with
  | some (some j) => if j < n then some j else none
  | _ => none
def fitAt (f : κ → κ → Bool) (all : List κ) (k : κ) (i : Nat) : Bool := match all[i]? with
  | some a => f a k
  | none => false
/-- the one with whom a newcomer should leave -/
def dueOf (f : κ → κ → Bool) (all : List κ) (l : List (Option Nat)) (n : Nat) (k : κ) : Option Nat := ((List.range n).filter (waitB l n)).find? (fitAt f all k)
theorem earl_cut {l : List (Option Nat)} (h : Lk l) (n : Nat) (hn : n < l.length) : cutAt (n + 1) l[n]? = some (earl l n) := by
  unfold earl cutAt
  rw [List.getElem?_eq_getElem hn]
  cases e : l[n] with
  | none => rfl
  | some j =>
    have := (h n j (by rw [List.getElem?_eq_getElem hn, e])).1
    dsimp only
    by_cases h1 : j < n
    · rw [if_pos h1, if_pos (by omega)]
    · rw [if_neg h1, if_neg (by omega)]
theorem earl_iff {l : List (Option Nat)} {n i : Nat} : earl l n = some i ↔ l[n]? = some (some i) ∧ i < n := by
  unfold earl
  match l[n]? with
  | none => exact ⟨fun h => (nomatch h), fun h => (nomatch h.1)⟩
  | some none => exact ⟨fun h => (nomatch h), fun h => (nomatch h.1)⟩
  | some (some j) =>
    dsimp only
    by_cases h : j < n
    · rw [if_pos h]
      exact ⟨fun e => (by cases e; exact ⟨rfl, h⟩), fun e => (by have := e.1; cases this; rfl)⟩
    · rw [if_neg h]
      exact ⟨fun e => (nomatch e), fun e => absurd e.2 (by have := e.1; cases this; exact h)⟩
theorem cut_next {l L : List (Option Nat)} (hl : Lk l) (hL : Lk L) {n : Nat} (nl : n < l.length) (nL : n < L.length) (h : ∀ i, i < n → cutAt n l[i]? = cutAt n L[i]?) (he : earl l n = earl L n) : ∀ i, i < n + 1 → cutAt (n + 1) l[i]? = cutAt (n + 1) L[i]? := by
  have half : ∀ {l L : List (Option Nat)}, Lk l → Lk L → n < l.length → n < L.length → (∀ i, i < n → cutAt n l[i]? = cutAt n L[i]?) → earl l n = earl L n → ∀ i, i < n → ∀ j, l[i]? = some (some j) → j < n + 1 → L[i]? = some (some j) := by
    intro l L hl hL nl nL h he i hi j hj hjn
    by_cases e : j = n
    · subst e
      have h1 := (hl i j hj).2
      have h2 : earl l j = some i := earl_iff.mpr ⟨h1, hi⟩
      rw [he] at h2
      exact (hL _ _ (earl_iff.mp h2).1).2
    · have h1 := h i hi
      rw [hj] at h1
      unfold cutAt at h1
      dsimp only at h1
      rw [if_pos (by omega)] at h1
      split at h1
      · split at h1
        · rename_i e1 _; rw [e1, ← h1]
        · cases h1
      · rw [← h1]
  intro i hi
  by_cases e : i = n
  · subst e; rw [earl_cut hl i nl, earl_cut hL i nL, he]
  · have hi' : i < n := by omega
    have a := half hl hL nl nL h he i hi'
    have b := half hL hl nL nl (fun i hi => (h i hi).symm) he.symm i hi'
    have il : i < l.length := by omega
    have iL : i < L.length := by omega
    rw [List.getElem?_eq_getElem il, List.getElem?_eq_getElem iL] at a b ⊢
    cases e1 : l[i] with
    | none =>
      cases e2 : L[i] with
      | none => rfl
      | some j =>
        rw [e1, e2] at b
        unfold cutAt
        dsimp only
        by_cases hj : j < n + 1
        · have := b j rfl hj
          cases this
        · rw [if_neg hj]
    | some j =>
      rw [e1] at a b
      by_cases hj : j < n + 1
      · rw [a j rfl hj]
      · unfold cutAt
        dsimp only
        rw [if_neg hj]
        cases e2 : L[i] with
        | none => rfl
        | some j2 =>
          rw [e2] at b
          dsimp only
          by_cases hj2 : j2 < n + 1
          · have := b j2 rfl hj2
            cases this
            exact absurd hj2 hj
          · rw [if_neg hj2]
def lnk2 (l : List (Option Nat)) (a b : Nat) : List (Option Nat) := (l.set a (some b)).set b (some a)
theorem lnk2_len (l : List (Option Nat)) (a b : Nat) : (lnk2 l a b).length = l.length := by unfold lnk2; simp
end Rn

set_option Elab.async false
set_option linter.all false
set_option maxRecDepth 100000
/-! pictures of lists, in general -/
namespace Fw
open PySem PySem.Spec PyProof.Rows L2
/-- what a picture of plain things is -/
class Pl {α : Type} (f : α → D) : Prop where
  nob : ∀ a, (f a).nob = true
  unS : ∀ a, (f a).unS = true
  fr : ∀ a, (f a).fr = true
  noC : ∀ a, (f a).noC = true
instance : Pl D.str := ⟨fun _ => rfl, fun _ => rfl, fun _ => rfl, fun _ => rfl⟩
section
variable {α β : Type} (f : α → D) [Pl f]
theorem nobs_l (xs : List α) : D.nobs (xs.map f) = true := nobs_of fun x hx => by obtain ⟨a, _, rfl⟩ := List.mem_map.mp hx; exact Pl.nob a
theorem unSs_l (xs : List α) : D.unSs (xs.map f) = true := unSs_of fun x hx => by obtain ⟨a, _, rfl⟩ := List.mem_map.mp hx; exact Pl.unS a
theorem frs_l (xs : List α) : D.frs (xs.map f) = true := frs_of fun x hx => by obtain ⟨a, _, rfl⟩ := List.mem_map.mp hx; exact Pl.fr a
theorem noCs_l (xs : List α) : D.noCs (xs.map f) = true := by
  induction xs with
  | nil => rfl
  | cons a xs ih => rw [List.map_cons, D.noCs, ih, Pl.noC (f := f) a]; rfl
theorem noC_l (o : Bool) (xs : List α) : (D.lst o (xs.map f)).noC = true := by rw [D.noC]; exact noCs_l f xs
theorem fz_l (o : Bool) (xs : List α) : (D.lst o (xs.map f)).fz = .lst false (xs.map f) := by
  cases o with
  | false => rfl
  | true => rw [D.fz, if_pos rfl, D.fzs_of (frs_l f xs)]
theorem len_l (o : Bool) (xs : List α) : lenD (.lst o (xs.map f)) = some (.int (xs.length : Int)) := by show some (D.int _) = _; rw [List.length_map]
theorem list_l (o : Bool) (xs : List α) : listD (.lst o (xs.map f)) = some (.lst true (xs.map f)) := if_pos (frs_l f xs)
end
section
variable {α : Type} {f : α → D} {o o' : Bool} {xs ys : List α}
theorem ix_l {i : Nat} (h : i < xs.length) : ixD (.lst o (xs.map f)) (.int (i : Int)) = some (f (xs[i]'h)) := ixD_at (by rw [List.getElem?_map, List.getElem?_eq_getElem h]; rfl)
theorem sl_lo [Pl f] {c : Int} (h : 0 ≤ c) : slD (.lst o (xs.map f)) none (some c) = some (.lst true ((xs.take c.toNat).map f)) := by
  show (if _ then _ else _) = _
  rw [if_pos (frs_l f xs)]
  congr 2
  unfold cutD
  rw [HT.sIx_none]
  show ((xs.map f).drop 0).take ((if c < 0 then (c + ((xs.map f).length : Int)).toNat else min c.toNat (xs.map f).length) - 0) = _
  rw [if_neg (by omega), List.drop_zero, Nat.sub_zero, List.length_map, List.map_take]
  by_cases h : c.toNat ≤ xs.length
  · rw [Nat.min_eq_left h]
  · rw [Nat.min_eq_right (by omega), List.take_of_length_le (by rw [List.length_map]; omega), List.take_of_length_le (by rw [List.length_map]; omega)]
end
theorem szOk_of {n : Nat} (h : n ≤ 16777216) : szOk n = true := decide_eq_true h
instance : Pl D.int := ⟨fun _ => rfl, fun _ => rfl, fun _ => rfl, fun _ => rfl⟩
instance : Pl D.bl := ⟨fun _ => rfl, fun _ => rfl, fun _ => rfl, fun _ => rfl⟩
instance : Pl (fun (n : Nat) => D.int (n : Int)) := ⟨fun _ => rfl, fun _ => rfl, fun _ => rfl, fun _ => rfl⟩
instance : Pl pairD := ⟨fun _ => rfl, fun _ => rfl, fun _ => rfl, fun _ => rfl⟩
instance : Pl pqD := ⟨fun _ => rfl, fun _ => rfl, fun _ => rfl, fun _ => rfl⟩
/-- a number, or nothing -/
def optD : Option Nat → D
  | none => .non
  | some n => .int (n : Int)
instance : Pl optD := ⟨fun a => by cases a <;> rfl, fun a => by cases a <;> rfl, fun a => by cases a <;> rfl, fun a => by cases a <;> rfl⟩
abbrev opD (o : Bool) (l : List (Option Nat)) : D := .lst o (l.map optD)
theorem isN_opt (x : Option Nat) : isND (optD x) .non = some (.bl x.isNone) := by cases x <;> rfl
theorem fz_opt (x : Option Nat) : (optD x).fz = optD x := D.fz_of (Pl.fr x)
theorem repr_bl (b : Bool) : reprD (.bl b) = some (.str (if b then Str.ofString "True" else Str.ofString "False")) := by cases b <;> rfl
instance : PyEnc (Option Nat) where
  e x := match x with
    | none => .none
    | some n => .int (n : Int)
  eq a b := by
    cases a with
    | none => cases b with
      | none => rfl
      | some y => rfl
    | some x => cases b with
      | none => rfl
      | some y =>
        show ((x : Int) == (y : Int)) = _
        by_cases h : x = y
        · subst h; simp
        · have : ¬ ((x : Int) = (y : Int)) := by omega
          simp [h, this]
  dep := 0
  dp a := by cases a <;> exact Nat.le_refl 0
  lay _ := True
  ly a _ := by cases a <;> rfl
theorem isE_opt (x : Option Nat) : IsE x (optD x) := by cases x <;> rfl
theorem rep_l {n : Nat} (h : n ≤ 1000000) : mulD (.lst true [D.non]) (.int (n : Int)) = some (opD true (List.replicate n none)) := by
  rw [mulD_rep h rfl]
  congr 2
  unfold repL
  rw [Int.toNat_natCast, List.map_replicate]
  induction n with
  | zero => rfl
  | succ n ih => rw [List.replicate_succ, List.flatten_cons, ih (by omega)]; rfl
theorem rangeOf_eq (n : Nat) : rangeOf 0 n = (List.range n).map fun (i : Nat) => D.int (i : Int) := by
  unfold rangeOf
  apply List.map_congr_left
  intro i _
  rw [Int.zero_add]
theorem W_LR1 {a : Mo D} {env : DEnv} {st : Sto} {Q : D → DEnv → Sto → Prop} (w : W a env st (fun d e s => ∃ n : Nat, d = .int (n : Int) ∧ n ≤ 16000000 ∧ Q (natD true (List.range n)) e s)) : W (mLR1 a) env st Q := by
  obtain ⟨d, e, s, h, n, rfl, h1, q⟩ := w
  refine ⟨_, e, s, ?_, q⟩
  unfold mLR1
  rw [h]
  dsimp only
  rw [if_pos ⟨smallI_of (by omega), by omega⟩, Int.toNat_natCast, rangeOf_eq]
theorem gPop_at {xs : List D} {i : Nat} (h : i < xs.length) (hl : xs.length < 1000000) : gPop xs [.int (i : Int)] = some (xs[i], xs.eraseIdx i) := by
  have e : seqIndex? (i : Int) xs.length = some i := by
    unfold seqIndex?
    dsimp only
    rw [if_neg (show ¬ (i : Int) < 0 by omega), decide_eq_true (show (0 : Int) ≤ (i : Int) by omega), decide_eq_true (show (i : Int) < (xs.length : Int) by omega), Int.toNat_natCast]; rfl
  unfold gPop
  dsimp only
  rw [if_pos (by omega), e]
  dsimp only
  rw [List.getElem?_eq_getElem h]
theorem gSet_at {ds : List D} {j : Nat} {d : D} (h : j < ds.length) : gSet (.int (j : Int)) d ds = some (ds.set j d) := by
  have e : ixN ds.length (j : Int) = some j := by
    unfold ixN
    rw [if_pos (by omega), if_pos (by omega), Int.toNat_natCast]
  unfold gSet
  dsimp only
  rw [e]
theorem stO_nm {i j : Nat} {env : DEnv} {st : Sto} {ds : List D} {k : Nat} {x : D} (h : env[i]? = some (some (.lst true ds))) (hb : env[j]? = some (some (.int (k : Int)))) (hk : k < ds.length) : stO i (.nm j) x env st = some (env.set i (some (.lst true (ds.set k x))), st) := by
  have h1 : placeGet i env st = some ds := by unfold placeGet; rw [peek_of' h]
  have h2 : od1 (.nm j) env st = some (.int (k : Int), env, st) := by
    show (match look j env st with | some x => some (x, env, st) | none => none) = _
    rw [look_of' hb rfl]
  unfold stO
  rw [h1]
  dsimp only
  rw [h2]
  dsimp only
  rw [h1]
  dsimp only
  rw [gSet_at hk]
  dsimp only
  unfold placeSet
  rw [peek_of' h]
theorem W_store2 {i : Nat} {b1 b2 : Od} {m : Mo D} {env : DEnv} {st : Sto} {Q : Fl → DEnv → Sto → Prop} (w : W m env st (fun d e s => ∃ x y, d = .tup [x, y] ∧ x.fr = true ∧ y.fr = true ∧ ∃ p, stO i b1 x e s = some p ∧ ∃ q, stO i b2 y p.1 p.2 = some q ∧ Q .nx q.1 q.2)) : W (mStore2 i b1 b2 m) env st Q := by
  obtain ⟨d, e, s, h, x, y, rfl, hx, hy, ⟨e1, s1⟩, h1, ⟨e2, s2⟩, h2, q⟩ := w
  refine ⟨.nx, e2, s2, ?_, q⟩
  unfold mStore2
  rw [h]
  dsimp only
  rw [if_pos ⟨hx, hy⟩, h1]
  dsimp only at h2 ⊢
  rw [h2]
theorem ev_ix {a k : Lk} {x y z : D} {env : DEnv} {st : Sto} (ha : a.ev env st = some x) (hk : k.ev env st = some y) (h : ixD x y = some z) : (Lk.ix a k).ev env st = some z := by
  show (match a.ev env st, k.ev env st with | some x, some y => ixD x y | _, _ => none) = _
  rw [ha, hk]; exact h
/-- a comprehension that leaves all else as it is -/
theorem lc_pu {α : Type} {vs : List Nat} {bi : Bi} {t elt : Mo D} {g : α → D} (P : α → Bool) (F : α → D) {l : List α} {Q : List D → DEnv → Sto → Prop} {e : DEnv} {s : Sto}
    (step : ∀ a ∈ l, ∃ e1, bi (g a) e = some e1 ∧ W t e1 s (fun b e2 s2 => b = .bl (P a) ∧ (P a = true → W elt e2 s2 (fun y e3 s3 => y = F a ∧ wipeE e3 vs = e ∧ s3 = s)) ∧ (P a = false → wipeE e2 vs = e ∧ s2 = s)))
    (fin : Q ((l.filter P).map F) e s) : W (lcL vs bi t elt (l.map g)) e s Q := by
  refine lc_of P F (fun e' s' => e' = e ∧ s' = s) ?_ ?_ ⟨rfl, rfl⟩
  · rintro a ha e' s' ⟨rfl, rfl⟩
    exact step a ha
  · rintro e' s' ⟨rfl, rfl⟩
    exact fin
theorem lc_pu1 {α : Type} {vs : List Nat} {bi : Bi} {elt : Mo D} {g : α → D} (F : α → D) {l : List α} {Q : List D → DEnv → Sto → Prop} {e : DEnv} {s : Sto}
    (step : ∀ a ∈ l, ∃ e1, bi (g a) e = some e1 ∧ W elt e1 s (fun y e3 s3 => y = F a ∧ wipeE e3 vs = e ∧ s3 = s))
    (fin : Q (l.map F) e s) : W (lcL vs bi (mC (.bl true)) elt (l.map g)) e s Q := by
  refine lc_pu (fun _ => true) F (fun a ha => ?_) (by rw [List.filter_eq_self.mpr fun _ _ => rfl]; exact fin)
  obtain ⟨e1, h1, h2⟩ := step a ha
  exact ⟨e1, h1, W_c ⟨rfl, fun _ => h2, fun h => by cases h⟩⟩
theorem lc_rg {vs : List Nat} {bi : Bi} {t elt : Mo D} (P : Nat → Bool) (F : Nat → D) {n : Nat} {Q : List D → DEnv → Sto → Prop} {e : DEnv} {s : Sto}
    (step : ∀ i, i < n → ∃ e1, bi (.int (i : Int)) e = some e1 ∧ W t e1 s (fun b e2 s2 => b = .bl (P i) ∧ (P i = true → W elt e2 s2 (fun y e3 s3 => y = F i ∧ wipeE e3 vs = e ∧ s3 = s)) ∧ (P i = false → wipeE e2 vs = e ∧ s2 = s)))
    (fin : Q (((List.range n).filter P).map F) e s) : W (lcL vs bi t elt (rangeOf 0 (n : Int).toNat)) e s Q := by
  rw [Int.toNat_natCast, rangeOf_eq]
  exact lc_pu P F (fun a ha => step a (List.mem_range.mp ha)) fin
theorem enum_opt {α : Type} (f : α → D) (l : List α) : enumOf 0 (l.map f) = (l.zipIdx).map fun p => .tup [.int (p.2 : Int), f p.1] := by
  have g : ∀ (l : List α) (n : Nat), enumOf n (l.map f) = (l.zipIdx n).map fun p => .tup [.int (p.2 : Int), f p.1] := by
    intro l
    induction l with
    | nil => intro n; rfl
    | cons a l ih =>
      intro n
      rw [List.map_cons, List.zipIdx_cons, List.map_cons, ← ih (n + 1)]; rfl
  exact g l 0
theorem lc_enum {α : Type} {vs : List Nat} {bi : Bi} {elt : Mo D} {f : α → D} (F : α × Nat → D) {l : List α} {Q : List D → DEnv → Sto → Prop} {e : DEnv} {s : Sto}
    (step : ∀ (i : Nat) a, l[i]? = some a → ∃ e1, bi (.tup [.int (i : Int), f a]) e = some e1 ∧ W elt e1 s (fun y e3 s3 => y = F (a, i) ∧ wipeE e3 vs = e ∧ s3 = s))
    (fin : Q (l.zipIdx.map F) e s) : W (lcL vs bi (mC (.bl true)) elt (enumOf 0 (l.map f))) e s Q := by
  rw [enum_opt]
  refine lc_pu1 F (fun p hp => ?_) fin
  obtain ⟨a, i⟩ := p
  have := List.mem_zipIdx_iff_getElem?.mp hp
  exact step i a this
theorem neB_strs (o o' : Bool) {l l' : List Str} (hl : ∀ x ∈ l, PyEnc.lay x) (hl' : ∀ x ∈ l', PyEnc.lay x) : neB (.lst o (l.map D.str)) (.lst o' (l'.map D.str)) = some (.bl (!decide (l = l'))) := neB_enc (isE_lst isE_str _) (isE_lst isE_str _) hl hl'
theorem ix_two {o : Bool} {a b : Int} {n : Nat} (h : (n : Int) < 2) : ixD (.lst o [.int a, .int b]) (.int (n : Int)) = some (.int (if n = 0 then a else b)) := by
  obtain rfl | rfl : n = 0 ∨ n = 1 := by omega
  · rfl
  · rfl
theorem W_iteL {α : Type} {g : α → D} {old : List α} {c a : Mo D} {i : Nat} {env : DEnv} {st : Sto} {Q : Fl → DEnv → Sto → Prop} (h : env[i]? = some (some (.lst true (old.map g)))) (w : W c env st (fun d e s => ∃ k, d = .bl k ∧ e[i]? = env[i]? ∧ W a e s (fun v e2 s2 => ∃ new : List α, v = .lst true (new.map g) ∧ e2 = e ∧ s2 = s ∧ Q .nx (e.set i (some (.lst true ((if k = true then new else old).map g)))) s))) : W (mIte c (mSet i a) mSkip) env st Q := by
  refine W_ite (w.imp fun d e s ⟨k, hd, he, w2⟩ => ?_)
  subst hd
  rw [h] at he
  have hi : i < e.length := (List.getElem?_eq_some_iff.mp he).1
  cases k with
  | true =>
    refine Br_t (W_set (w2.imp fun v e2 s2 ⟨new, h1, h2, h3, q⟩ => ?_))
    subst h1 h2 h3
    exact ⟨hi, q⟩
  | false =>
    refine Br_f (W_skip ?_)
    obtain ⟨v, e2, s2, _, new, h1, h2, h3, q⟩ := w2
    have e1 : e.set i (some (.lst true (old.map g))) = e := by
      apply List.ext_getElem?
      intro j
      by_cases hj : j = i
      · subst hj; rw [List.getElem?_set_self hi, he]
      · rw [List.getElem?_set_ne (by omega)]
    rw [← e1]
    exact q
theorem Br_same {α : Type} {a : α} {dec : Decidable (a = a)} {A B : DEnv → Sto → Prop} {e : DEnv} {s : Sto} (q : B e s) : Br A B (.bl (!(@decide (a = a) dec))) e s := by
  rw [decide_eq_true rfl]; exact Br_f q
theorem isN_int (i : Int) : isND (.int i) .non = some (.bl false) := rfl
theorem optD_some (n : Nat) : optD (some n) = .int (n : Int) := rfl
theorem map_snoc {α : Type} (f : α → D) (l : List α) (a : α) : l.map f ++ [f a] = (l ++ [a]).map f := by rw [List.map_append]; rfl
theorem map_erase {α : Type} (f : α → D) (l : List α) (i : Nat) : (l.map f).eraseIdx i = (l.eraseIdx i).map f := (Rn.map_eraseIdx f l i).symm
theorem gPop_l {α : Type} {f : α → D} {xs : List α} {i : Nat} (h : i < xs.length) (hl : xs.length < 1000000) : gPop (xs.map f) [.int (i : Int)] = some (f xs[i], (xs.eraseIdx i).map f) := by
  rw [gPop_at (by rw [List.length_map]; exact h) (by rw [List.length_map]; exact hl), map_erase, List.getElem_map]
theorem W_store2t {i b1 b2 : Nat} {a b : Mo D} {env : DEnv} {st : Sto} {Q : Fl → DEnv → Sto → Prop} (w : W a env st (fun x e s => W b e s (fun y e2 s2 => x.fr = true ∧ y.fr = true ∧ ∃ ds, e2[i]? = some (some (.lst true ds)) ∧ ∃ k1 : Nat, e2[b1]? = some (some (.int (k1 : Int))) ∧ ∃ k2 : Nat, e2[b2]? = some (some (.int (k2 : Int))) ∧ k1 < ds.length ∧ k2 < ds.length ∧ Q .nx (e2.set i (some (.lst true ((ds.set k1 x).set k2 y)))) s2))) : W (mStore2 i (.nm b1) (.nm b2) (mTup (mCons a (mCons b mNil)))) env st Q := by
  refine W_store2 (W_tup (W_cons (w.imp fun x e s w2 => W_cons (w2.imp fun y e2 s2 ⟨hx, hy, ds, h1, k1, h2, k2, h3, l1, l2, q⟩ => W_nil ⟨rfl, x, y, rfl, hx, hy, _, stO_nm h1 h2 l1, ?_⟩))))
  have hn : i ≠ b2 := fun e => by subst e; rw [h1] at h3; cases h3
  have hi : i < e2.length := (List.getElem?_eq_some_iff.mp h1).1
  refine ⟨_, stO_nm (ds := ds.set k1 x) (by dsimp only; rw [List.getElem?_set_self hi]) (by dsimp only; rw [List.getElem?_set_ne hn]; exact h3) (by rw [List.length_set]; exact l2), ?_⟩
  dsimp only
  rw [List.set_set]
  exact q
/-- a store that begins with the bag, with what stands behind it -/
def HasBag (s : Sto) (P : Sto → Prop) : Prop := ∃ R, BagR R s ∧ P R
theorem has_bag {R s : Sto} {P : Sto → Prop} (h : BagR R s) (q : P R) : HasBag s P := ⟨R, h, q⟩
theorem W_tkn {env : DEnv} {s : Sto} {Q : D → DEnv → Sto → Prop} {i : Nat} {me : Mo D} (h : env[i]? = some (some (.cel 0))) (w : W me env s (fun d e s' => ∃ many : Int, d = .int many ∧ 0 < many ∧ many < 1000000 ∧ HasBag s' (fun R => ∀ (n : Nat) s'', (n : Int) < many → BagR R s'' → Q (.int (n : Int)) e s''))) :
    W (mCall 2 f__law_take (mCons (mVar i) (mCons me mNil))) env s Q := by
  refine W_call (W_cons (W_var h rfl (W_cons ?_)))
  refine w.imp fun d e s' ⟨many, hd, h0, h1, R, hb, q⟩ => ?_
  subst hd
  obtain ⟨r, s'', hr, g0, g1, g2⟩ := take_r hb h0 h1
  obtain ⟨n, rfl⟩ : ∃ n : Nat, r = n := ⟨r.toNat, by omega⟩
  exact W_nil ⟨rfl, rfl, _, _, hr, q n s'' g1 g2⟩
/-- a comprehension without a condition: each item is good -/
theorem lc_ex {α : Type} {vs : List Nat} {bi : Bi} {elt : Mo D} {g : α → D} (G : D → Prop) (J : DEnv → Sto → Prop) : ∀ {l : List α} {Q : List D → DEnv → Sto → Prop} {e : DEnv} {s : Sto},
    (∀ a ∈ l, ∀ e s, J e s → ∃ e1, bi (g a) e = some e1 ∧ W elt e1 s (fun y e3 s3 => G y ∧ J (wipeE e3 vs) s3)) →
    (∀ ys : List D, ys.length = l.length → (∀ y ∈ ys, G y) → ∀ e s, J e s → Q ys e s) → J e s → W (lcL vs bi (mC (.bl true)) elt (l.map g)) e s Q
  | [], Q, e, s, _, fin, h => ⟨[], e, s, rfl, fin [] rfl (fun _ h => by cases h) e s h⟩
  | a :: l, Q, e, s, step, fin, h => by
    obtain ⟨e1, h1, y, e3, s3, hy, hg, hj⟩ := step a (by simp) e s h
    obtain ⟨ys, e4, s4, h4, q4⟩ := lc_ex G J (l := l) (Q := fun ys e s => Q (y :: ys) e s) (fun a h => step a (List.mem_cons_of_mem _ h)) (fun ys hl hys e s hj => fin (y :: ys) (by rw [List.length_cons, List.length_cons, hl]) (fun z hz => by
      rcases List.mem_cons.mp hz with rfl | hz
      · exact hg
      · exact hys z hz) e s hj) hj
    refine ⟨y :: ys, e4, s4, ?_, q4⟩
    show lcL vs bi (mC (.bl true)) elt (g a :: l.map g) e s = _
    rw [lcL, h1]
    show (if true = true then (match elt e1 s with | some (y, e3, s3) => (match lcL vs bi (mC (.bl true)) elt (l.map g) (wipeE e3 vs) s3 with | some (ys, e4, s4) => some (y :: ys, e4, s4) | none => none) | none => none) else _) = _
    rw [if_pos rfl, hy]
    dsimp only
    rw [h4]
/-- items that are pictures, with a bag that goes on -/
theorem lc_bag {α : Type} {vs : List Nat} {bi : Bi} {elt : Mo D} (f : α → D) (G : α → Prop) {n : Nat} {Q : List D → DEnv → Sto → Prop} {e : DEnv} {s : Sto} {R : Sto} (hb : BagR R s)
    (step : ∀ i, i < n → ∀ s, BagR R s → ∃ e1, bi (.int (i : Int)) e = some e1 ∧ W elt e1 s (fun y e3 s3 => ∃ a, y = f a ∧ G a ∧ wipeE e3 vs = e ∧ BagR R s3))
    (fin : ∀ (zs : List α) s, zs.length = n → (∀ z ∈ zs, G z) → BagR R s → Q (zs.map f) e s) : W (lcL vs bi (mC (.bl true)) elt (rangeOf 0 (n : Int).toNat)) e s Q := by
  rw [Int.toNat_natCast, rangeOf_eq]
  refine lc_ex (fun y => ∃ a, y = f a ∧ G a) (fun e' s' => e' = e ∧ BagR R s') ?_ ?_ ⟨rfl, hb⟩
  · rintro i hi e' s' ⟨rfl, hb⟩
    obtain ⟨e1, h1, h2⟩ := step i (List.mem_range.mp hi) s' hb
    exact ⟨e1, h1, h2.imp fun y e3 s3 ⟨a, h3, h4, h5, h6⟩ => ⟨⟨a, h3, h4⟩, h5, h6⟩⟩
  · rintro ys hl hys e' s' ⟨rfl, hb⟩
    have : ∃ zs : List α, ys = zs.map f ∧ ∀ z ∈ zs, G z := by
      clear hl
      induction ys with
      | nil => exact ⟨[], rfl, fun _ h => by cases h⟩
      | cons y ys ih =>
        obtain ⟨a, rfl, ha⟩ := hys y (by simp)
        obtain ⟨zs, rfl, hz⟩ := ih fun y hy => hys y (List.mem_cons_of_mem _ hy)
        exact ⟨a :: zs, rfl, fun x hx => by
          rcases List.mem_cons.mp hx with rfl | hx
          · exact ha
          · exact hz x hx⟩
    obtain ⟨zs, rfl, hz⟩ := this
    rw [List.length_map, List.length_range] at hl
    exact fin zs s' hl hz hb
theorem all_l {α : Type} (o : Bool) (P : α → Bool) (l : List α) : allD (.lst o (l.map fun a => D.bl (P a))) = some (.bl (l.all P)) := by
  have : boolsOf (l.map fun a => D.bl (P a)) = some (l.map P) := by
    induction l with
    | nil => rfl
    | cons a l ih => rw [List.map_cons, boolsOf, ih]; rfl
  show (boolsOf _).map _ = _
  rw [this]
  show some (D.bl _) = _
  rw [List.all_map]; rfl
/-! what may be handed on, frozen, lent -/
class Nb (d : D) : Prop where h : d.nob = true
class Nbs (ds : List D) : Prop where h : D.nobs ds = true
class Us (d : D) : Prop where h : d.unS = true
class Uss (ds : List D) : Prop where h : D.unSs ds = true
class Fz (d : D) (d' : outParam D) : Prop where h : d.fz = d'
class Fzs (ds : List D) (ds' : outParam (List D)) : Prop where h : D.fzs ds = ds'
class Nc (d : D) : Prop where h : d.noC = true
section
variable {d d' : D} {ds ds' : List D}
instance : Nb .non := ⟨rfl⟩
instance {i : Int} : Nb (.int i) := ⟨rfl⟩
instance {i : Str} : Nb (.str i) := ⟨rfl⟩
instance {i : Bool} : Nb (.bl i) := ⟨rfl⟩
instance {i : Nat} : Nb (.cel i) := ⟨rfl⟩
instance {o : Bool} [Nbs ds] : Nb (.lst o ds) := ⟨by rw [D.nob]; exact Nbs.h⟩
instance [Nbs ds] : Nb (.tup ds) := ⟨by rw [D.nob]; exact Nbs.h⟩
instance {o : Bool} {ks : List Str} {ps : List (Str × Str)} : Nb (planD o ks ps) := ⟨nob_plan _ _ _⟩
instance {o : Bool} {ks : List Str} {ps : List (Str × Str)} : Nb (suitsD o ks ps) := ⟨nob_suits _ _ _⟩
instance {x : Option Nat} : Nb (optD x) := ⟨Pl.nob x⟩
instance : Nbs [] := ⟨rfl⟩
instance [Nb d] [Nbs ds] : Nbs (d :: ds) := ⟨by rw [D.nobs, Nb.h (d := d), Nbs.h (ds := ds)]; rfl⟩
instance {α : Type} {f : α → D} [Pl f] {xs : List α} : Nbs (xs.map f) := ⟨nobs_l f xs⟩
instance {es : List D} [Nbs ds] [Nbs es] : Nbs (ds ++ es) := ⟨nobs_of fun x hx => by
  have : ∀ {l : List D}, D.nobs l = true → x ∈ l → x.nob = true := by
    intro l
    induction l with
    | nil => intro _ h; cases h
    | cons a l ih =>
      intro h1 h2
      rw [D.nobs, Bool.and_eq_true] at h1
      rcases List.mem_cons.mp h2 with rfl | h2
      · exact h1.1
      · exact ih h1.2 h2
  rcases List.mem_append.mp hx with h | h
  · exact this Nbs.h h
  · exact this Nbs.h h⟩
instance : Us .non := ⟨rfl⟩
instance {i : Int} : Us (.int i) := ⟨rfl⟩
instance {i : Str} : Us (.str i) := ⟨rfl⟩
instance {i : Bool} : Us (.bl i) := ⟨rfl⟩
instance [Uss ds] : Us (.lst true ds) := ⟨by rw [D.unS, Uss.h]; rfl⟩
instance [Uss ds] : Us (.tup ds) := ⟨by rw [D.unS]; exact Uss.h⟩
instance {x : Option Nat} : Us (optD x) := ⟨Pl.unS x⟩
instance : Uss [] := ⟨rfl⟩
instance [Us d] [Uss ds] : Uss (d :: ds) := ⟨by rw [D.unSs, Us.h (d := d), Uss.h (ds := ds)]; rfl⟩
instance {α : Type} {f : α → D} [Pl f] {xs : List α} : Uss (xs.map f) := ⟨unSs_l f xs⟩
instance : Fz .non .non := ⟨rfl⟩
instance {i : Int} : Fz (.int i) (.int i) := ⟨rfl⟩
instance {i : Str} : Fz (.str i) (.str i) := ⟨rfl⟩
instance {i : Bool} : Fz (.bl i) (.bl i) := ⟨rfl⟩
instance {i : Nat} : Fz (.cel i) (.cel i) := ⟨rfl⟩
instance {i : List Int} : Fz (.scr i) (.scr i) := ⟨rfl⟩
instance : Fz (.lst false ds) (.lst false ds) := ⟨rfl⟩
instance [Fzs ds ds'] : Fz (.lst true ds) (.lst false ds') := ⟨by rw [D.fz, if_pos rfl, Fzs.h (ds := ds)]⟩
instance (priority := high) fz_inst {α : Type} {f : α → D} [Pl f] {o : Bool} {xs : List α} : Fz (.lst o (xs.map f)) (.lst false (xs.map f)) := ⟨fz_l f o xs⟩
instance [Fzs ds ds'] : Fz (.tup ds) (.tup ds') := ⟨by rw [D.fz, Fzs.h (ds := ds)]⟩
instance {o : Bool} {ks : List Str} {ps : List (Str × Str)} : Fz (planD o ks ps) (planD false ks ps) := ⟨fz_plan _ _ _⟩
instance {o : Bool} {ks : List Str} {ps : List (Str × Str)} : Fz (suitsD o ks ps) (suitsD false ks ps) := ⟨fz_suits _ _ _⟩
instance {x : Option Nat} : Fz (optD x) (optD x) := ⟨fz_opt x⟩
instance : Fzs [] [] := ⟨rfl⟩
instance [Fz d d'] [Fzs ds ds'] : Fzs (d :: ds) (d' :: ds') := ⟨by rw [D.fzs, Fz.h (d := d), Fzs.h (ds := ds)]⟩
instance {α : Type} {f : α → D} [Pl f] {xs : List α} : Fzs (xs.map f) (xs.map f) := ⟨D.fzs_of (frs_l f xs)⟩
instance : Nc .non := ⟨rfl⟩
instance {i : Int} : Nc (.int i) := ⟨rfl⟩
instance {i : Str} : Nc (.str i) := ⟨rfl⟩
instance {i : Bool} : Nc (.bl i) := ⟨rfl⟩
instance {i : List Int} : Nc (.scr i) := ⟨rfl⟩
instance {i : List Int} : Nb (.scr i) := ⟨rfl⟩
instance {α : Type} {f : α → D} [Pl f] {o : Bool} {xs : List α} : Nc (.lst o (xs.map f)) := ⟨noC_l f o xs⟩
instance {x : Option Nat} : Nc (optD x) := ⟨Pl.noC x⟩
theorem WF_fz {f : Fn} {s : Sto} {Q : D → Sto → Prop} [hf : Fzs ds ds'] (w : WF f ds' s Q) : WF f (D.fzs ds) s Q := by rw [hf.h]; exact w
theorem W_varF {i : Nat} {env : DEnv} {st : Sto} {Q : D → DEnv → Sto → Prop} (h : env[i]? = some (some d)) (hn : Nb d) (hf : Fz d d') (q : Q d' (env.set i (some d')) st) : W (mVar i) env st Q := W_varf h hn.h (by rw [hf.h]; exact q)
theorem it_f {o : Bool} [hf : Fz d (.lst o ds)] : itemsD d.fz = some ds := by rw [hf.h]; rfl
theorem en_f [hf : Fz d (.lst false ds)] : d.fz = .lst false ds := hf.h
end
theorem WF_call {f : Fn} {ds : List D} {s : Sto} {x : D} {Q : D → Sto → Prop} (h : WF f ds s fun d s' => s' = s ∧ d = x) (q : Q x s) : WF f ds s Q := by
  obtain ⟨d, s', e, rfl, rfl⟩ := h
  exact ⟨_, _, e, q⟩
theorem WF_call' {f : Fn} {ds : List D} {s : Sto} {x : D} {Q : D → Sto → Prop} (h : WF f ds s fun d s' => d = x ∧ s' = s) (q : Q x s) : WF f ds s Q := by
  obtain ⟨d, s', e, rfl, rfl⟩ := h
  exact ⟨_, _, e, q⟩
theorem deref_noc {d : D} (h : d.noC = true) (st : Sto) : deref st d = d := by cases d <;> first | rfl | simp [D.noC] at h
section
variable {env : DEnv} {st : Sto} {i j : Nat} {x y : D}
theorem look_of2 {x' : D} (h1 : env[i]? = some (some x)) (h2 : deref st x = x') : look i env st = some x' := by unfold look; rw [peek_of' h1]; show some _ = _; rw [h2]
theorem W_nn' {x' y' : D} {Q : D × D → DEnv → Sto → Prop} (h1 : env[i]? = some (some x)) (h2 : env[j]? = some (some y)) (d1 : deref st x = x') (d2 : deref st y = y') (q : Q (x', y') env st) : W (od2 (.nm i) (.nm j)) env st Q := W_nn (look_of2 h1 d1) (look_of2 h2 d2) q
theorem W_onl {x' : D} {Q : D → DEnv → Sto → Prop} (h1 : env[i]? = some (some x)) (d1 : deref st x = x') (q : Q x' env st) : W (od1 (.nm i)) env st Q := W_on (look_of2 h1 d1) q
theorem W_onp {Q : List D → DEnv → Sto → Prop} {r : List Oa} (h1 : env[i]? = some (some x)) (w : W (odL r) env st (fun ds e s => ∃ x, look i e s = some x ∧ Q (x :: ds) e s)) : W (odL (.nm i :: r)) env st Q := W_on' (peek_of' h1) w
theorem ev_nm {x' : D} (h1 : env[i]? = some (some x)) (d1 : deref st x = x') : (Lk.nm i).ev env st = some x' := look_of2 h1 d1
theorem deref_self (h : deref st x = x) : deref st x = x := h
def HasB (s : Sto) (P : Sto → Prop) : Prop := ∃ R, BagR R s ∧ P R
def NewB (R : Sto) (P : Sto → Prop) : Prop := ∀ s', BagR R s' → P s'
end
theorem len_0 (o : Bool) (xs : List D) : lenD (.lst o xs) = some (.int (xs.length : Int)) := rfl
end Fw

set_option Elab.async false
set_option linter.all false
set_option maxRecDepth 100000
/-! the run -/
namespace Fw
open PySem PySem.Spec PyProof.Rows L2
local macro_rules | `(tactic| ktr_units) => `(tactic| first | exact okE_nil | ((with_reducible refine' okE_cons ?h1 ?h2); (case h1 => first | (with_reducible assumption) | exact okO_none | exact okO_cel | exact okO_some inferInstance); (case h2 => ktr_units)))
local macro_rules | `(tactic| ktr_room) => `(tactic| first | exact deref_self rfl | exact deref_pl _ _ _ | exact deref_noc (by kcu_lt) _ | exact deref_cel (by with_reducible assumption) rfl rfl)
local macro_rules | `(tactic| ktn_lt) => `(tactic| first | (with_reducible exact rfl) | ((with_reducible refine' ev_nm ?h1 ?h2); (case h1 => exact rfl); (case h2 => ktr_room)) | ((with_reducible refine' ev_ix ?h1 ?h2 ?h3); (case h1 => ktn_lt); (case h2 => ktn_lt); (case h3 => first | (with_reducible assumption) | (with_reducible exact ix_l (by kcj_in)) | exact rfl)) | exact rfl)
local macro_rules | `(tactic| kcj_m) => `(tactic| (try with_reducible refine WF_fz ?_))
local macro_rules | `(tactic| kcj_in) => `(tactic| first | (with_reducible assumption) | omega | ((dsimp only [List.getElem_cons_zero]); first | (with_reducible assumption) | omega) | ((try simp only [List.length_map, List.length_append, List.length_take, List.length_drop, List.length_range, List.length_cons, List.length_nil, List.length_replicate, List.length_reverse, List.length_set, List.length_singleton, List.length_eraseIdx, List.length_zipIdx, List.getElem_cons_zero, Rn.pair_len] at *); first | (with_reducible assumption) | omega | (split <;> omega)))
local macro_rules | `(tactic| kcu_lt) => `(tactic| first | ((show (_ : Bool) = true); exact rfl) | ((show (_ : Nat) = _); exact rfl) | (with_reducible assumption) | ((with_reducible show (_ : Nat) < List.length _); (with_reducible show OfNat.ofNat _ < List.length _); exact of_decide_eq_true rfl) | ((show (_ : D) = _); exact rfl) | ((show (_ : DEnv) = _); exact rfl) | ((show (_ : Sto) = _); exact rfl) | ((show (_ : Option (Option D)) = _); exact rfl) | exact Nb.h | exact Nbs.h | exact Us.h | exact Uss.h | exact Pl.fr _ | exact Nc.h | (refine decide_eq_true ?_; kcj_in) | (refine smallI_of ?_; kcj_in) | kcj_in)
local macro_rules | `(tactic| kmk_sum) => `(tactic| (try dsimp only [List.set_cons_zero, List.set_cons_succ, placeSet, peek, deref, D.isN', List.getElem?_cons_zero, List.getElem?_cons_succ, List.getElem_cons_zero, Int.reduceToNat, Int.toNat_natCast, setAll, keepE, wipeE, Option.getD_some, Option.getD_none, List.map_cons, List.map_nil, List.length_cons, List.length_nil, Nat.zero_add, Nat.reduceAdd, List.cons_append, List.nil_append, Nat.reduceSub]))
local macro_rules | `(tactic| k_search $t) => `(tactic| ((refine Exists.intro _ (And.intro $t ?_)); w_fin))
local macro_rules | `(tactic| ktf_call $t) => `(tactic| (kcj_m; (first | refine WF_call $t ?_ | refine WF_call' $t ?_); (try (with_reducible refine' And.intro ?h0 (And.intro ?h1 ?_); (case h0 => exact rfl); (case h1 => kcu_lt))); w_fin))
local macro_rules | `(tactic| w_fin) => `(tactic| first
  | ((first | (with_reducible refine W_seq ?_) | ((with_reducible refine' W_iteL ?h1 ?_); (case h1 => exact rfl)) | (with_reducible refine W_ite ?_) | (with_reducible refine W_for ?_) | (with_reducible refine W_set ?_) | (with_reducible refine W_ret ?_) | (with_reducible refine W_expr ?_) | (with_reducible refine W_bin ?_) | (with_reducible refine W_un ?_) | (with_reducible refine W_c ?_) | (with_reducible refine W_xx ?_) | (with_reducible refine W_xn ?_) | (with_reducible refine W_ox ?_) | (with_reducible refine W_nil ?_) | (with_reducible refine W_cons ?_) | (with_reducible refine W_lst ?_) | (with_reducible refine W_tup ?_) | (with_reducible refine W_ixx ?_) | (with_reducible refine W_ixn ?_) | (with_reducible refine W_p0 ?_) | (with_reducible refine W_p1 ?_) | (with_reducible refine W_slx ?_) | (with_reducible refine W_nix ?_) | (with_reducible refine W_and ?_) | (with_reducible refine W_or ?_) | (with_reducible refine W_not ?_) | (with_reducible refine W_tru ?_) | (with_reducible refine W_if ?_) | (with_reducible refine W_par ?_) | (with_reducible refine W_asg ?_) | (with_reducible refine W_rng1 ?_) | (with_reducible refine W_rng2 ?_) | ((with_reducible refine' W_storeIc ?h1 ?_); (case h1 => exact rfl)) | (with_reducible refine W_storeI ?_) | (with_reducible refine W_store2t ?_) | (with_reducible refine W_dnew ?_) | (with_reducible refine W_ps0 ?_) | (with_reducible refine W_ps1 ?_) | (with_reducible refine W_o0 ?_) | (with_reducible refine W_ox' ?_) | (with_reducible refine W_callP ?_) | (with_reducible refine W_altl ?_) | (with_reducible refine W_it ?_) | (with_reducible refine W_enum ?_) | (with_reducible refine W_enumK ?_) | (with_reducible refine W_LR1 ?_) | (with_reducible refine W_lc ?_) | (with_reducible refine W_cat ?_) | (with_reducible refine W_fn2 ?_) | ((with_reducible refine' W_cells2 ?h1 ?h2 ?h3 ?h4 ?h5 ?h6 ?h7 ?_); (case h1 => (with_reducible assumption)); (case h2 => exact rfl); (case h3 => exact rfl); (case h4 => decide); (case h5 => (kmk_sum; ktr_units)); (case h6 => exact inferInstance); (case h7 => exact inferInstance); (intro _ _); kmk_sum) | ((with_reducible refine' W_cell1 ?h1 ?h2 ?h3 ?h4 ?_); (case h1 => (with_reducible assumption)); (case h2 => exact rfl); (case h3 => (kmk_sum; ktr_units)); (case h4 => exact inferInstance); (intro _ _); kmk_sum) | ((with_reducible refine' W_tkn ?h1 ?_); (case h1 => exact rfl)) | ((with_reducible refine' W_call ?_)) | (with_reducible refine W_chain ?_) | ((with_reducible refine' W_sln ?h1 ?_); (case h1 => exact rfl)) | ((with_reducible refine' W_var ?h1 ?h2 ?_); (case h1 => exact rfl); (case h2 => exact rfl)) | ((with_reducible refine' W_mv ?h1 ?_); (case h1 => exact rfl)) | ((with_reducible refine' W_nx ?h1 ?_); (case h1 => exact rfl)) | ((with_reducible refine' W_nn' ?h1 ?h2 ?h3 ?h4 ?_); (case h1 => exact rfl); (case h2 => exact rfl); (case h3 => ktr_room); (case h4 => ktr_room)) | ((with_reducible refine' W_onl ?h1 ?h2 ?_); (case h1 => exact rfl); (case h2 => ktr_room)) | ((with_reducible refine' W_onp ?h1 ?_); (case h1 => exact rfl)) | ((with_reducible refine' W_ol ?h1 ?h2 ?_); (case h1 => ktn_lt); (case h2 => exact rfl)) | ((with_reducible refine' W_lk ?h1 ?h2 ?_); (case h1 => ktn_lt); (case h2 => kcu_lt)) | ((with_reducible refine' W_augI ?h1 ?_); (case h1 => exact rfl)) | ((with_reducible refine' W_aug ?h1 ?_); (case h1 => exact rfl)) | ((with_reducible refine' W_mtc ?h1 ?h2 ?h3 ?_); (case h1 => exact rfl); (case h2 => (with_reducible assumption)); (case h3 => exact rfl)) | ((with_reducible refine' W_mt ?h1 ?_); (case h1 => exact rfl)) | ((with_reducible refine' W_meth ?h1 ?h2 ?_); (case h1 => exact rfl); (case h2 => exact rfl)) | ((with_reducible refine' W_varF ?h1 ?h2 ?h3 ?_); (case h1 => exact rfl); (case h2 => exact inferInstance); (case h3 => exact inferInstance))
      ); w_fin)
  | ((first | (with_reducible refine Nx_nx ?_) | (with_reducible refine Nx_rt ?_) | (with_reducible refine Nx_bk ?_) | (with_reducible refine Nx_ct ?_) | (with_reducible refine Br_t ?_) | (with_reducible refine Br_f ?_) | (with_reducible refine Br_nt ?_) | (with_reducible refine Br_same ?_) | (with_reducible refine Br_samet ?_) | (with_reducible refine Br_nf ?_) | (with_reducible refine W_skip ?_) | (with_reducible refine W_pass ?_) | (with_reducible refine W_break ?_) | (with_reducible refine W_cont ?_)); kmk_sum; w_fin)
  | ((with_reducible refine new_bag ?_); (intro _ _); w_fin)
  | ((with_reducible refine newB ?_); (intro _ _); kmk_sum; w_fin)
  | ((with_reducible refine' hasB ?h1 ?_); (case h1 => (with_reducible assumption)); w_fin)
  | ((with_reducible refine' has_bag ?h1 ?_); (case h1 => (with_reducible assumption)); (intro _ _ _ _); w_fin)
  | ((first | ((with_reducible refine' Exists.intro _ (And.intro ?h1 ?_)); (case h1 => (with_reducible assumption))) | ((with_reducible refine' Exists.intro _ (And.intro (look_of2 ?h1 ?h2) ?_)); (case h1 => exact rfl); (case h2 => ktr_room)) | (with_reducible refine Exists.intro _ (And.intro (eqB_int _ _) ?_)) | (with_reducible refine Exists.intro _ (And.intro (max2_nat _ _) ?_)) | (with_reducible refine Exists.intro _ (And.intro (eqB_str _ _) ?_)) | (with_reducible refine Exists.intro _ (And.intro (neB_str _ _) ?_)) | (with_reducible refine Exists.intro _ (And.intro (neI _ _) ?_)) | (with_reducible refine Exists.intro _ (And.intro (eqB_nil _ _ _) ?_)) | (with_reducible refine Exists.intro _ (And.intro (neB_natnil _ _ _) ?_)) | (with_reducible refine Exists.intro _ (And.intro (len_l _ _ _) ?_)) | (with_reducible refine Exists.intro _ (And.intro (len_0 _ _) ?_)) | (with_reducible refine Exists.intro _ (And.intro (isN_opt _) ?_)) | (with_reducible refine Exists.intro _ (And.intro (neB_bl _ _) ?_)) | (with_reducible refine Exists.intro _ (And.intro (eqB_bl _ _) ?_)) | (with_reducible refine Exists.intro _ (And.intro (isN_int _) ?_)) | (with_reducible refine Exists.intro _ (And.intro (notN_int _) ?_)) | (with_reducible refine Exists.intro _ (And.intro isN_non ?_)) | (with_reducible refine Exists.intro _ (And.intro notN_non ?_)) | (with_reducible refine Exists.intro _ (And.intro (notN_opt _) ?_)) | (with_reducible refine Exists.intro _ (And.intro (rev_l _ _ _) ?_)) | (with_reducible refine Exists.intro _ (And.intro it_f ?_)) | (with_reducible refine Exists.intro _ (And.intro en_f ?_)) | (with_reducible refine Exists.intro _ (And.intro (list_l _ _ _) ?_)) | (with_reducible refine Exists.intro _ (And.intro (repr_bl _) ?_)) | (with_reducible refine Exists.intro _ (And.intro (all_t0 _ _) ?_)) | (with_reducible refine Exists.intro _ (And.intro (dkF_kinds _ _ _) ?_)) | (with_reducible refine Exists.intro _ (And.intro (dkF_pairs _ _ _) ?_)) | (with_reducible refine Exists.intro _ (And.intro (eqB_ops _ _ _ _) ?_)) | (with_reducible refine Exists.intro _ (And.intro (neB_ops _ _ _ _) ?_)) | ((with_reducible refine' Exists.intro _ (And.intro (ix_l ?h1) ?_)); (case h1 => kcj_in)) | ((with_reducible refine' Exists.intro _ (And.intro (ix_two ?h1) ?_)); (case h1 => (with_reducible assumption))) | ((with_reducible refine' Exists.intro _ (And.intro (add_l ?h1) ?_)); (case h1 => kcj_in)) | ((with_reducible refine' Exists.intro _ (And.intro (cat_l ?h1) ?_)); (case h1 => kcj_in)) | ((with_reducible refine' Exists.intro _ (And.intro (add_1 ?h1) ?_)); (case h1 => kcj_in)) | ((with_reducible refine' Exists.intro _ (And.intro (sl_lo ?h1) ?_)); (case h1 => omega)) | ((with_reducible refine' Exists.intro _ (And.intro (sl_hi ?h1) ?_)); (case h1 => omega)) | ((with_reducible refine' Exists.intro _ (And.intro (sl_mid ?h1 ?h2) ?_)); (case h1 => omega); (case h2 => omega)) | ((with_reducible refine' Exists.intro _ (And.intro (rep_l ?h1) ?_)); (case h1 => kcj_in)) | ((with_reducible refine' Exists.intro _ (And.intro (app_l ?h1) ?_)); (case h1 => kcj_in)) | ((with_reducible refine' Exists.intro _ (And.intro (gAppend_of ?h1) ?_)); (case h1 => kcj_in)) | ((with_reducible refine' Exists.intro _ (And.intro (gPop_l ?h1 ?h2) ?_)); (case h1 => kcj_in); (case h2 => kcj_in)) | ((with_reducible refine' Exists.intro _ (And.intro (gPop_at ?h1 ?h2) ?_)); (case h1 => kcj_in); (case h2 => kcj_in)) | ((with_reducible refine' Exists.intro _ (And.intro (gSet_l ?h1) ?_)); (case h1 => kcj_in)) | ((with_reducible refine' Exists.intro _ (And.intro (gSet_at ?h1) ?_)); (case h1 => kcj_in)) | ((with_reducible refine' Exists.intro _ (And.intro (stO_nm ?h1 ?h2 ?h3) ?_)); (case h1 => exact rfl); (case h2 => exact rfl); (case h3 => kcj_in)) | ((with_reducible refine' Exists.intro _ (And.intro (mulD_l ?h1) ?_)); (case h1 => decide)) | ((with_reducible refine' Exists.intro _ (And.intro (mulD_r ?h1) ?_)); (case h1 => decide)) | ((with_reducible refine' Exists.intro _ (And.intro (modD_l ?h1) ?_)); (case h1 => decide)) | ((with_reducible refine' Exists.intro _ (And.intro (fdivD_l ?h1) ?_)); (case h1 => decide)) | ((with_reducible refine' And.intro (smallI_of ?h1) ?_); (case h1 => kcj_in)) | ((with_reducible refine' And.intro (szOk_of ?h1) ?_); (case h1 => kcj_in))); w_fin)
  | ((with_reducible refine lcb_end (fun _ => ?_) (fun _ => ?_)) <;> w_fin)
  | (with_reducible refine hold_mul ?_) | (with_reducible refine hold_mod ?_) | (with_reducible refine hold_fdiv ?_)
  | ((first | ((with_reducible refine' Exists.intro _ (And.intro ?h1 ?_)); (case h1 => exact rfl)) | ((with_reducible refine' And.intro ?h1 ?_); (case h1 => kcu_lt))); w_fin)
  | (with_reducible exact rfl)
  | (dsimp only [Option.isNone_none, Option.isNone_some, Option.isSome_some, Option.isSome_none, Bool.not_true, Bool.not_false, List.isEmpty_nil, List.isEmpty_cons, List.map_nil, List.map_cons]; w_fin)
  | skip)

/-- the first person that suits, and the line behind it -/
def dueR (ps : List (Str × Str)) (ls : List Str) (k : Str) : Option Nat := ls.findIdx? fun p => fits ps p k
def dueX (ps : List (Str × Str)) (ls : List Str) (k : Str) : List Str := match dueR ps ls k with
  | some i => ls.take i ++ ls.drop (i + 1)
  | none => ls ++ [k]
def toldD (o : Bool) (r : Option Nat) (xs : List Str) : D := .tup [optD r, strD o xs]
/-- a number and a kind -/
def thD (p : Nat × Str) : D := .tup [.int (p.1 : Int), .str p.2]
instance : Pl thD := ⟨fun _ => rfl, fun _ => rfl, fun _ => rfl, fun _ => rfl⟩
abbrev thsD (o : Bool) (th : List (Nat × Str)) : D := .lst o (th.map thD)
abbrev Run (ps : List (Str × Str)) (ls row : List Str) : List (Nat × Str) × List (Option Nat) := Rn.run (fits ps) ls row
theorem enum_ini : ∀ (n : Nat) (zs : List Str), enumF n (zs.map D.str) = (Rn.ini n zs).map thD
  | _, [] => rfl
  | n, z :: zs => by
    show D.tup [.int (n : Int), .str z] :: enumF (n + 1) (zs.map D.str) = _
    rw [enum_ini (n + 1) zs]; rfl
theorem step_none {ps : List (Str × Str)} {s : Rn.St Str} {k : Str} (h : s.1.findIdx? (fun p => fits ps p.2 k) = none) : Rn.step (fits ps) s k = (s.1 ++ [(s.2.length, k)], s.2 ++ [none]) := by
  unfold Rn.step; rw [h]
theorem step_some {ps : List (Str × Str)} {s : Rn.St Str} {k : Str} {i : Nat} (h : s.1.findIdx? (fun p => fits ps p.2 k) = some i) (hi : i < s.1.length) : Rn.step (fits ps) s k = (s.1.eraseIdx i, Rn.pair s.2 s.1[i].1) := by
  unfold Rn.step; rw [h]
  dsimp only
  rw [List.getElem?_eq_getElem hi]
theorem run_kd {ks : List Str} {ps : List (Str × Str)} {ls row : List Str} (hm : ∀ l ∈ ls, l ∈ ks) (hr : ∀ k ∈ row, k ∈ ks) : ∀ p ∈ (Run ps ls row).1, p.2 ∈ ks := fun p hp => by
  have h := List.mem_of_getElem? ((Rn.run_ok (fits ps) ls row).kd p hp)
  rcases List.mem_append.mp h with h | h
  · exact hm _ h
  · exact hr _ h
theorem run_thlen (ps : List (Str × Str)) (ls row : List Str) : (Run ps ls row).1.length ≤ ls.length + row.length := by
  have h := (Rn.run_ok (fits ps) ls row).wait
  have h2 := congrArg List.length h
  rw [List.length_map] at h2
  rw [h2]
  have := List.length_filter_le (fun i => (Run ps ls row).2[i]? == some none) (List.range (Run ps ls row).2.length)
  rw [List.length_range] at this
  exact Nat.le_trans this (Nat.le_of_eq (Rn.run_len _ _ _))
theorem Run_take (ps : List (Str × Str)) (ls row : List Str) {k : Nat} (h : k < row.length) : Run ps ls (row.take (k + 1)) = Rn.step (fits ps) (Run ps ls (row.take k)) row[k] := Rn.run_take _ _ _ h
theorem Run_len (ps : List (Str × Str)) (ls row : List Str) : (Run ps ls row).2.length = ls.length + row.length := Rn.run_len _ _ _
theorem Run_wait (ps : List (Str × Str)) (ls row : List Str) : ∀ p ∈ (Run ps ls row).1, p.1 < (Run ps ls row).2.length := fun p h => (Rn.wait_lt (Rn.run_ok (fits ps) ls row) h).1
theorem pair_map (ms : List (Option Nat)) (p : Nat) : ((ms.map optD ++ [D.non]).set p (.int (ms.length : Int))).set ms.length (.int (p : Int)) = (Rn.pair ms p).map optD := by
  unfold Rn.pair
  rw [List.map_set, List.map_set, List.map_append]; rfl
theorem take_le' {α : Type} (l : List α) (k : Nat) : (l.take k).length ≤ l.length := by rw [List.length_take]; omega
theorem find_range {th : List (Nat × Str)} {P : Str → Bool} : th.findIdx? (fun p => P p.2) = ((List.range th.length).filter fun i => match th[i]? with | some p => P p.2 | none => false).head? := by
  rw [List.head?_filter]
  induction th with
  | nil => rfl
  | cons a th ih =>
    rw [List.findIdx?_cons, List.length_cons, List.range_succ_eq_map, List.find?_cons]
    dsimp only [List.getElem?_cons_zero]
    cases P a.2 with
    | true => rfl
    | false =>
      simp only [Bool.false_eq_true, if_false]
      rw [ih, List.find?_map]
      rfl
end Fw

set_option Elab.async false
set_option linter.all false
set_option maxRecDepth 100000
/-! the run, in the law and in the program -/
namespace Fw
open PySem PySem.Spec PyProof.Rows L2
local macro_rules | `(tactic| ktr_units) => `(tactic| first | exact okE_nil | ((with_reducible refine' okE_cons ?h1 ?h2); (case h1 => first | (with_reducible assumption) | exact okO_none | exact okO_cel | exact okO_some inferInstance); (case h2 => ktr_units)))
local macro_rules | `(tactic| ktr_room) => `(tactic| first | exact deref_self rfl | exact deref_pl _ _ _ | exact deref_noc (by kcu_lt) _ | exact deref_cel (by with_reducible assumption) rfl rfl)
local macro_rules | `(tactic| ktn_lt) => `(tactic| first | (with_reducible exact rfl) | ((with_reducible refine' ev_nm ?h1 ?h2); (case h1 => exact rfl); (case h2 => ktr_room)) | ((with_reducible refine' ev_ix ?h1 ?h2 ?h3); (case h1 => ktn_lt); (case h2 => ktn_lt); (case h3 => first | (with_reducible assumption) | (with_reducible exact ix_l (by kcj_in)) | exact rfl)) | exact rfl)
local macro_rules | `(tactic| kcj_m) => `(tactic| (try with_reducible refine WF_fz ?_))
local macro_rules | `(tactic| kcj_in) => `(tactic| first | (with_reducible assumption) | omega | ((dsimp only [List.getElem_cons_zero]); first | (with_reducible assumption) | omega) | ((try simp only [List.length_map, List.length_append, List.length_take, List.length_drop, List.length_range, List.length_cons, List.length_nil, List.length_replicate, List.length_reverse, List.length_set, List.length_singleton, List.length_eraseIdx, List.length_zipIdx, List.getElem_cons_zero, Rn.pair_len] at *); first | (with_reducible assumption) | omega | (split <;> omega)))
local macro_rules | `(tactic| kcu_lt) => `(tactic| first | ((show (_ : Bool) = true); exact rfl) | ((show (_ : Nat) = _); exact rfl) | (with_reducible assumption) | ((with_reducible show (_ : Nat) < List.length _); (with_reducible show OfNat.ofNat _ < List.length _); exact of_decide_eq_true rfl) | ((show (_ : D) = _); exact rfl) | ((show (_ : DEnv) = _); exact rfl) | ((show (_ : Sto) = _); exact rfl) | ((show (_ : Option (Option D)) = _); exact rfl) | exact Nb.h | exact Nbs.h | exact Us.h | exact Uss.h | exact Pl.fr _ | exact Nc.h | (refine decide_eq_true ?_; kcj_in) | (refine smallI_of ?_; kcj_in) | kcj_in)
local macro_rules | `(tactic| kmk_sum) => `(tactic| (try dsimp only [List.set_cons_zero, List.set_cons_succ, placeSet, peek, deref, D.isN', List.getElem?_cons_zero, List.getElem?_cons_succ, List.getElem_cons_zero, Int.reduceToNat, Int.toNat_natCast, setAll, keepE, wipeE, Option.getD_some, Option.getD_none, List.map_cons, List.map_nil, List.length_cons, List.length_nil, Nat.zero_add, Nat.reduceAdd, List.cons_append, List.nil_append, Nat.reduceSub]))
local macro_rules | `(tactic| k_search $t) => `(tactic| ((refine Exists.intro _ (And.intro $t ?_)); w_fin))
local macro_rules | `(tactic| ktf_call $t) => `(tactic| (kcj_m; (first | refine WF_call $t ?_ | refine WF_call' $t ?_); (try (with_reducible refine' And.intro ?h0 (And.intro ?h1 ?_); (case h0 => exact rfl); (case h1 => kcu_lt))); w_fin))
local macro_rules | `(tactic| w_fin) => `(tactic| first
  | ((first | (with_reducible refine W_seq ?_) | ((with_reducible refine' W_iteL ?h1 ?_); (case h1 => exact rfl)) | (with_reducible refine W_ite ?_) | (with_reducible refine W_for ?_) | (with_reducible refine W_set ?_) | (with_reducible refine W_ret ?_) | (with_reducible refine W_expr ?_) | (with_reducible refine W_bin ?_) | (with_reducible refine W_un ?_) | (with_reducible refine W_c ?_) | (with_reducible refine W_xx ?_) | (with_reducible refine W_xn ?_) | (with_reducible refine W_ox ?_) | (with_reducible refine W_nil ?_) | (with_reducible refine W_cons ?_) | (with_reducible refine W_lst ?_) | (with_reducible refine W_tup ?_) | (with_reducible refine W_ixx ?_) | (with_reducible refine W_ixn ?_) | (with_reducible refine W_p0 ?_) | (with_reducible refine W_p1 ?_) | (with_reducible refine W_slx ?_) | (with_reducible refine W_nix ?_) | (with_reducible refine W_and ?_) | (with_reducible refine W_or ?_) | (with_reducible refine W_not ?_) | (with_reducible refine W_tru ?_) | (with_reducible refine W_if ?_) | (with_reducible refine W_par ?_) | (with_reducible refine W_asg ?_) | (with_reducible refine W_rng1 ?_) | (with_reducible refine W_rng2 ?_) | ((with_reducible refine' W_storeIc ?h1 ?_); (case h1 => exact rfl)) | (with_reducible refine W_storeI ?_) | (with_reducible refine W_store2t ?_) | (with_reducible refine W_dnew ?_) | (with_reducible refine W_ps0 ?_) | (with_reducible refine W_ps1 ?_) | (with_reducible refine W_o0 ?_) | (with_reducible refine W_ox' ?_) | (with_reducible refine W_callP ?_) | (with_reducible refine W_altl ?_) | (with_reducible refine W_it ?_) | (with_reducible refine W_enum ?_) | (with_reducible refine W_enumK ?_) | (with_reducible refine W_LR1 ?_) | (with_reducible refine W_lc ?_) | (with_reducible refine W_cat ?_) | (with_reducible refine W_fn2 ?_) | ((with_reducible refine' W_cells2 ?h1 ?h2 ?h3 ?h4 ?h5 ?h6 ?h7 ?_); (case h1 => (with_reducible assumption)); (case h2 => exact rfl); (case h3 => exact rfl); (case h4 => decide); (case h5 => (kmk_sum; ktr_units)); (case h6 => exact inferInstance); (case h7 => exact inferInstance); (intro _ _); kmk_sum) | ((with_reducible refine' W_cell1 ?h1 ?h2 ?h3 ?h4 ?_); (case h1 => (with_reducible assumption)); (case h2 => exact rfl); (case h3 => (kmk_sum; ktr_units)); (case h4 => exact inferInstance); (intro _ _); kmk_sum) | ((with_reducible refine' W_tkn ?h1 ?_); (case h1 => exact rfl)) | ((with_reducible refine' W_call ?_)) | (with_reducible refine W_chain ?_) | ((with_reducible refine' W_sln ?h1 ?_); (case h1 => exact rfl)) | ((with_reducible refine' W_var ?h1 ?h2 ?_); (case h1 => exact rfl); (case h2 => exact rfl)) | ((with_reducible refine' W_mv ?h1 ?_); (case h1 => exact rfl)) | ((with_reducible refine' W_nx ?h1 ?_); (case h1 => exact rfl)) | ((with_reducible refine' W_nn' ?h1 ?h2 ?h3 ?h4 ?_); (case h1 => exact rfl); (case h2 => exact rfl); (case h3 => ktr_room); (case h4 => ktr_room)) | ((with_reducible refine' W_onl ?h1 ?h2 ?_); (case h1 => exact rfl); (case h2 => ktr_room)) | ((with_reducible refine' W_onp ?h1 ?_); (case h1 => exact rfl)) | ((with_reducible refine' W_ol ?h1 ?h2 ?_); (case h1 => ktn_lt); (case h2 => exact rfl)) | ((with_reducible refine' W_lk ?h1 ?h2 ?_); (case h1 => ktn_lt); (case h2 => kcu_lt)) | ((with_reducible refine' W_augI ?h1 ?_); (case h1 => exact rfl)) | ((with_reducible refine' W_aug ?h1 ?_); (case h1 => exact rfl)) | ((with_reducible refine' W_mtc ?h1 ?h2 ?h3 ?_); (case h1 => exact rfl); (case h2 => (with_reducible assumption)); (case h3 => exact rfl)) | ((with_reducible refine' W_mt ?h1 ?_); (case h1 => exact rfl)) | ((with_reducible refine' W_meth ?h1 ?h2 ?_); (case h1 => exact rfl); (case h2 => exact rfl)) | ((with_reducible refine' W_varF ?h1 ?h2 ?h3 ?_); (case h1 => exact rfl); (case h2 => exact inferInstance); (case h3 => exact inferInstance))
      ); w_fin)
  | ((first | (with_reducible refine Nx_nx ?_) | (with_reducible refine Nx_rt ?_) | (with_reducible refine Nx_bk ?_) | (with_reducible refine Nx_ct ?_) | (with_reducible refine Br_t ?_) | (with_reducible refine Br_f ?_) | (with_reducible refine Br_nt ?_) | (with_reducible refine Br_same ?_) | (with_reducible refine Br_samet ?_) | (with_reducible refine Br_nf ?_) | (with_reducible refine W_skip ?_) | (with_reducible refine W_pass ?_) | (with_reducible refine W_break ?_) | (with_reducible refine W_cont ?_)); kmk_sum; w_fin)
  | ((with_reducible refine new_bag ?_); (intro _ _); w_fin)
  | ((with_reducible refine newB ?_); (intro _ _); kmk_sum; w_fin)
  | ((with_reducible refine' hasB ?h1 ?_); (case h1 => (with_reducible assumption)); w_fin)
  | ((with_reducible refine' has_bag ?h1 ?_); (case h1 => (with_reducible assumption)); (intro _ _ _ _); w_fin)
  | ((first | ((with_reducible refine' Exists.intro _ (And.intro ?h1 ?_)); (case h1 => (with_reducible assumption))) | ((with_reducible refine' Exists.intro _ (And.intro (look_of2 ?h1 ?h2) ?_)); (case h1 => exact rfl); (case h2 => ktr_room)) | (with_reducible refine Exists.intro _ (And.intro (eqB_int _ _) ?_)) | (with_reducible refine Exists.intro _ (And.intro (max2_nat _ _) ?_)) | (with_reducible refine Exists.intro _ (And.intro (eqB_str _ _) ?_)) | (with_reducible refine Exists.intro _ (And.intro (neB_str _ _) ?_)) | (with_reducible refine Exists.intro _ (And.intro (neI _ _) ?_)) | (with_reducible refine Exists.intro _ (And.intro (eqB_nil _ _ _) ?_)) | (with_reducible refine Exists.intro _ (And.intro (neB_natnil _ _ _) ?_)) | (with_reducible refine Exists.intro _ (And.intro (len_l _ _ _) ?_)) | (with_reducible refine Exists.intro _ (And.intro (len_0 _ _) ?_)) | (with_reducible refine Exists.intro _ (And.intro (isN_opt _) ?_)) | (with_reducible refine Exists.intro _ (And.intro (neB_bl _ _) ?_)) | (with_reducible refine Exists.intro _ (And.intro (eqB_bl _ _) ?_)) | (with_reducible refine Exists.intro _ (And.intro (isN_int _) ?_)) | (with_reducible refine Exists.intro _ (And.intro (notN_int _) ?_)) | (with_reducible refine Exists.intro _ (And.intro isN_non ?_)) | (with_reducible refine Exists.intro _ (And.intro notN_non ?_)) | (with_reducible refine Exists.intro _ (And.intro (notN_opt _) ?_)) | (with_reducible refine Exists.intro _ (And.intro (rev_l _ _ _) ?_)) | (with_reducible refine Exists.intro _ (And.intro it_f ?_)) | (with_reducible refine Exists.intro _ (And.intro en_f ?_)) | (with_reducible refine Exists.intro _ (And.intro (list_l _ _ _) ?_)) | (with_reducible refine Exists.intro _ (And.intro (repr_bl _) ?_)) | (with_reducible refine Exists.intro _ (And.intro (all_t0 _ _) ?_)) | (with_reducible refine Exists.intro _ (And.intro (dkF_kinds _ _ _) ?_)) | (with_reducible refine Exists.intro _ (And.intro (dkF_pairs _ _ _) ?_)) | (with_reducible refine Exists.intro _ (And.intro (eqB_ops _ _ _ _) ?_)) | (with_reducible refine Exists.intro _ (And.intro (neB_ops _ _ _ _) ?_)) | ((with_reducible refine' Exists.intro _ (And.intro (ix_l ?h1) ?_)); (case h1 => kcj_in)) | ((with_reducible refine' Exists.intro _ (And.intro (ix_two ?h1) ?_)); (case h1 => (with_reducible assumption))) | ((with_reducible refine' Exists.intro _ (And.intro (add_l ?h1) ?_)); (case h1 => kcj_in)) | ((with_reducible refine' Exists.intro _ (And.intro (cat_l ?h1) ?_)); (case h1 => kcj_in)) | ((with_reducible refine' Exists.intro _ (And.intro (add_1 ?h1) ?_)); (case h1 => kcj_in)) | ((with_reducible refine' Exists.intro _ (And.intro (sl_lo ?h1) ?_)); (case h1 => omega)) | ((with_reducible refine' Exists.intro _ (And.intro (sl_hi ?h1) ?_)); (case h1 => omega)) | ((with_reducible refine' Exists.intro _ (And.intro (sl_mid ?h1 ?h2) ?_)); (case h1 => omega); (case h2 => omega)) | ((with_reducible refine' Exists.intro _ (And.intro (rep_l ?h1) ?_)); (case h1 => kcj_in)) | ((with_reducible refine' Exists.intro _ (And.intro (app_l ?h1) ?_)); (case h1 => kcj_in)) | ((with_reducible refine' Exists.intro _ (And.intro (gAppend_of ?h1) ?_)); (case h1 => kcj_in)) | ((with_reducible refine' Exists.intro _ (And.intro (gPop_l ?h1 ?h2) ?_)); (case h1 => kcj_in); (case h2 => kcj_in)) | ((with_reducible refine' Exists.intro _ (And.intro (gPop_at ?h1 ?h2) ?_)); (case h1 => kcj_in); (case h2 => kcj_in)) | ((with_reducible refine' Exists.intro _ (And.intro (gSet_l ?h1) ?_)); (case h1 => kcj_in)) | ((with_reducible refine' Exists.intro _ (And.intro (gSet_at ?h1) ?_)); (case h1 => kcj_in)) | ((with_reducible refine' Exists.intro _ (And.intro (stO_nm ?h1 ?h2 ?h3) ?_)); (case h1 => exact rfl); (case h2 => exact rfl); (case h3 => kcj_in)) | ((with_reducible refine' Exists.intro _ (And.intro (mulD_l ?h1) ?_)); (case h1 => decide)) | ((with_reducible refine' Exists.intro _ (And.intro (mulD_r ?h1) ?_)); (case h1 => decide)) | ((with_reducible refine' Exists.intro _ (And.intro (modD_l ?h1) ?_)); (case h1 => decide)) | ((with_reducible refine' Exists.intro _ (And.intro (fdivD_l ?h1) ?_)); (case h1 => decide)) | ((with_reducible refine' And.intro (smallI_of ?h1) ?_); (case h1 => kcj_in)) | ((with_reducible refine' And.intro (szOk_of ?h1) ?_); (case h1 => kcj_in))); w_fin)
  | ((with_reducible refine lcb_end (fun _ => ?_) (fun _ => ?_)) <;> w_fin)
  | (with_reducible refine hold_mul ?_) | (with_reducible refine hold_mod ?_) | (with_reducible refine hold_fdiv ?_)
  | ((first | ((with_reducible refine' Exists.intro _ (And.intro ?h1 ?_)); (case h1 => exact rfl)) | ((with_reducible refine' And.intro ?h1 ?_); (case h1 => kcu_lt))); w_fin)
  | (with_reducible exact rfl)
  | (dsimp only [Option.isNone_none, Option.isNone_some, Option.isSome_some, Option.isSome_none, Bool.not_true, Bool.not_false, List.isEmpty_nil, List.isEmpty_cons, List.map_nil, List.map_cons]; w_fin)
  | skip)

theorem lawrun_ok {ks : List Str} {ps : List (Str × Str)} (hp : PlanOk ks ps) {ls row : List Str} (hm : ∀ l ∈ ls, l ∈ ks) (hr : ∀ k ∈ row, k ∈ ks) (hl : ls.length ≤ 5000) (hrl : row.length ≤ 5000) (s : Sto) : WF f__law_run [planD false ks ps, strD false ls, strD false row] s fun d s' => s' = s ∧ d = .tup [thsD true (Run ps ls row).1, opD true (Run ps ls row).2] := by
  refine WF_of ?_
  unfold m__law_run
  show W _ [some (planD false ks ps), some (strD false ls), some (strD false row), none, none, none, none, none, none, none] _ _
  have hen : enumD (strD false ls) = some (thsD true (Rn.ini 0 ls)) := by
    show (if _ then _ else _) = _
    rw [if_pos (frs_strs ls), enum_ini]
  w_fin
  refine forL_at (fun k e s' => s' = s ∧ ∃ x5 x6 x7 x8, e = [some (planD false ks ps), some (strD false ls), some (strD false row), some (thsD true (Run ps ls (row.take k)).1), some (opD true (Run ps ls (row.take k)).2), x5, x6, x7, x8, none]) ?_ ?_
    ⟨rfl, _, _, _, _, rfl⟩
  · rintro k e s' d hd ⟨rfl, x5, x6, x7, x8, rfl⟩
    obtain ⟨hk, rfl⟩ := map_at (f := D.str) hd
    have hrk := hr _ (List.getElem_mem hk)
    have hnext := Run_take ps ls row hk
    have hkd := run_kd (ps := ps) hm (fun x (h : x ∈ row.take k) => hr x (List.mem_of_mem_take h))
    have hlt := run_thlen ps ls (row.take k)
    have hl2 := Run_len ps ls (row.take k)
    have hwl := Run_wait ps ls (row.take k)
    have htl := take_le' row k
    refine ⟨_, rfl, ?_⟩
    generalize hkz : row[k] = kz at hrk hnext
    rw [hnext]
    generalize Run ps ls (row.take k) = S at hkd hlt hl2 hwl
    w_fin
    refine lc_rg (fun i => match S.1[i]? with | some p => fits ps p.2 kz | none => false) (fun i => .int (i : Int)) ?_ ?_
    · intro i hi
      have hki := hkd _ (List.getElem_mem hi)
      refine ⟨_, rfl, ?_⟩
      w_fin
      ktf_call (fit_ok hp (hp.kind _ hki).lay (hp.kind _ hrk).lay false _)
      rw [List.getElem?_eq_getElem hi]
      exact ⟨rfl, fun _ => W_var rfl rfl ⟨rfl, rfl, rfl⟩, fun _ => ⟨rfl, rfl⟩⟩
    have hfr := find_range (th := S.1) (P := fun x => fits ps x kz)
    have hfl := List.length_filter_le (fun i => match S.1[i]? with | some p => fits ps p.2 kz | none => false) (List.range S.1.length)
    rw [List.length_range] at hfl
    generalize (List.range S.1.length).filter (fun i => match S.1[i]? with | some p => fits ps p.2 kz | none => false) = L at hfr hfl
    w_fin
    cases L with
    | nil =>
      rw [step_none hfr]
      refine Br_t ?_
      w_fin
      have e1 : S.1.map thD ++ [D.tup [.int (S.2.length : Int), .str kz]] = (S.1 ++ [(S.2.length, kz)]).map thD := map_snoc thD S.1 (S.2.length, kz)
      have e2 : S.2.map optD ++ [D.non] = (S.2 ++ [none]).map optD := map_snoc optD S.2 none
      rw [e1, e2]
      exact ⟨_, _, _, _, rfl⟩
    | cons i L2 =>
      obtain ⟨hi, hf, _⟩ := Rn.find_some hfr
      have hw := hwl _ (List.getElem_mem hi)
      rw [step_some hfr hi]
      refine Br_f ?_
      w_fin
      rw [pair_map]
      exact ⟨_, _, _, _, rfl⟩
  · rintro e s' ⟨rfl, x5, x6, x7, x8, rfl⟩
    rw [List.length_map, List.take_length]
    w_fin
end Fw

set_option Elab.async false
set_option linter.all false
set_option maxRecDepth 100000
/-! rows, drawn links, right links -/
namespace Fw
open PySem PySem.Spec PyProof.Rows L2
local macro_rules | `(tactic| ktr_units) => `(tactic| first | exact okE_nil | ((with_reducible refine' okE_cons ?h1 ?h2); (case h1 => first | (with_reducible assumption) | exact okO_none | exact okO_cel | exact okO_some inferInstance); (case h2 => ktr_units)))
local macro_rules | `(tactic| ktr_room) => `(tactic| first | exact deref_self rfl | exact deref_pl _ _ _ | exact deref_noc (by kcu_lt) _ | exact deref_cel (by with_reducible assumption) rfl rfl)
local macro_rules | `(tactic| ktn_lt) => `(tactic| first | (with_reducible exact rfl) | ((with_reducible refine' ev_nm ?h1 ?h2); (case h1 => exact rfl); (case h2 => ktr_room)) | ((with_reducible refine' ev_ix ?h1 ?h2 ?h3); (case h1 => ktn_lt); (case h2 => ktn_lt); (case h3 => first | (with_reducible assumption) | (with_reducible exact ix_l (by kcj_in)) | exact rfl)) | exact rfl)
local macro_rules | `(tactic| kcj_m) => `(tactic| (try with_reducible refine WF_fz ?_))
local macro_rules | `(tactic| kcj_in) => `(tactic| first | (with_reducible assumption) | omega | ((dsimp only [List.getElem_cons_zero]); first | (with_reducible assumption) | omega) | ((try simp only [List.length_map, List.length_append, List.length_take, List.length_drop, List.length_range, List.length_cons, List.length_nil, List.length_replicate, List.length_reverse, List.length_set, List.length_singleton, List.length_eraseIdx, List.length_zipIdx, List.getElem_cons_zero, Rn.pair_len] at *); first | (with_reducible assumption) | omega | (split <;> omega)))
local macro_rules | `(tactic| kcu_lt) => `(tactic| first | ((show (_ : Bool) = true); exact rfl) | ((show (_ : Nat) = _); exact rfl) | (with_reducible assumption) | ((with_reducible show (_ : Nat) < List.length _); (with_reducible show OfNat.ofNat _ < List.length _); exact of_decide_eq_true rfl) | ((show (_ : D) = _); exact rfl) | ((show (_ : DEnv) = _); exact rfl) | ((show (_ : Sto) = _); exact rfl) | ((show (_ : Option (Option D)) = _); exact rfl) | exact Nb.h | exact Nbs.h | exact Us.h | exact Uss.h | exact Pl.fr _ | exact Nc.h | (refine decide_eq_true ?_; kcj_in) | (refine smallI_of ?_; kcj_in) | kcj_in)
local macro_rules | `(tactic| kmk_sum) => `(tactic| (try dsimp only [List.set_cons_zero, List.set_cons_succ, placeSet, peek, deref, D.isN', List.getElem?_cons_zero, List.getElem?_cons_succ, List.getElem_cons_zero, Int.reduceToNat, Int.toNat_natCast, setAll, keepE, wipeE, Option.getD_some, Option.getD_none, List.map_cons, List.map_nil, List.length_cons, List.length_nil, Nat.zero_add, Nat.reduceAdd, List.cons_append, List.nil_append, Nat.reduceSub]))
local macro_rules | `(tactic| k_search $t) => `(tactic| ((refine Exists.intro _ (And.intro $t ?_)); w_fin))
local macro_rules | `(tactic| ktf_call $t) => `(tactic| (kcj_m; (first | refine WF_call $t ?_ | refine WF_call' $t ?_); (try (with_reducible refine' And.intro ?h0 (And.intro ?h1 ?_); (case h0 => exact rfl); (case h1 => kcu_lt))); w_fin))
local macro_rules | `(tactic| w_fin) => `(tactic| first
  | ((first | (with_reducible refine W_seq ?_) | ((with_reducible refine' W_iteL ?h1 ?_); (case h1 => exact rfl)) | (with_reducible refine W_ite ?_) | (with_reducible refine W_for ?_) | (with_reducible refine W_set ?_) | (with_reducible refine W_ret ?_) | (with_reducible refine W_expr ?_) | (with_reducible refine W_bin ?_) | (with_reducible refine W_un ?_) | (with_reducible refine W_c ?_) | (with_reducible refine W_xx ?_) | (with_reducible refine W_xn ?_) | (with_reducible refine W_ox ?_) | (with_reducible refine W_nil ?_) | (with_reducible refine W_cons ?_) | (with_reducible refine W_lst ?_) | (with_reducible refine W_tup ?_) | (with_reducible refine W_ixx ?_) | (with_reducible refine W_ixn ?_) | (with_reducible refine W_p0 ?_) | (with_reducible refine W_p1 ?_) | (with_reducible refine W_slx ?_) | (with_reducible refine W_nix ?_) | (with_reducible refine W_and ?_) | (with_reducible refine W_or ?_) | (with_reducible refine W_not ?_) | (with_reducible refine W_tru ?_) | (with_reducible refine W_if ?_) | (with_reducible refine W_par ?_) | (with_reducible refine W_asg ?_) | (with_reducible refine W_rng1 ?_) | (with_reducible refine W_rng2 ?_) | ((with_reducible refine' W_storeIc ?h1 ?_); (case h1 => exact rfl)) | (with_reducible refine W_storeI ?_) | (with_reducible refine W_store2t ?_) | (with_reducible refine W_dnew ?_) | (with_reducible refine W_ps0 ?_) | (with_reducible refine W_ps1 ?_) | (with_reducible refine W_o0 ?_) | (with_reducible refine W_ox' ?_) | (with_reducible refine W_callP ?_) | (with_reducible refine W_altl ?_) | (with_reducible refine W_it ?_) | (with_reducible refine W_enum ?_) | (with_reducible refine W_enumK ?_) | (with_reducible refine W_LR1 ?_) | (with_reducible refine W_lc ?_) | (with_reducible refine W_cat ?_) | (with_reducible refine W_fn2 ?_) | ((with_reducible refine' W_cells2 ?h1 ?h2 ?h3 ?h4 ?h5 ?h6 ?h7 ?_); (case h1 => (with_reducible assumption)); (case h2 => exact rfl); (case h3 => exact rfl); (case h4 => decide); (case h5 => (kmk_sum; ktr_units)); (case h6 => exact inferInstance); (case h7 => exact inferInstance); (intro _ _); kmk_sum) | ((with_reducible refine' W_cell1 ?h1 ?h2 ?h3 ?h4 ?_); (case h1 => (with_reducible assumption)); (case h2 => exact rfl); (case h3 => (kmk_sum; ktr_units)); (case h4 => exact inferInstance); (intro _ _); kmk_sum) | ((with_reducible refine' W_tkn ?h1 ?_); (case h1 => exact rfl)) | ((with_reducible refine' W_call ?_)) | (with_reducible refine W_chain ?_) | ((with_reducible refine' W_sln ?h1 ?_); (case h1 => exact rfl)) | ((with_reducible refine' W_var ?h1 ?h2 ?_); (case h1 => exact rfl); (case h2 => exact rfl)) | ((with_reducible refine' W_mv ?h1 ?_); (case h1 => exact rfl)) | ((with_reducible refine' W_nx ?h1 ?_); (case h1 => exact rfl)) | ((with_reducible refine' W_nn' ?h1 ?h2 ?h3 ?h4 ?_); (case h1 => exact rfl); (case h2 => exact rfl); (case h3 => ktr_room); (case h4 => ktr_room)) | ((with_reducible refine' W_onl ?h1 ?h2 ?_); (case h1 => exact rfl); (case h2 => ktr_room)) | ((with_reducible refine' W_onp ?h1 ?_); (case h1 => exact rfl)) | ((with_reducible refine' W_ol ?h1 ?h2 ?_); (case h1 => ktn_lt); (case h2 => exact rfl)) | ((with_reducible refine' W_lk ?h1 ?h2 ?_); (case h1 => ktn_lt); (case h2 => kcu_lt)) | ((with_reducible refine' W_augI ?h1 ?_); (case h1 => exact rfl)) | ((with_reducible refine' W_aug ?h1 ?_); (case h1 => exact rfl)) | ((with_reducible refine' W_mtc ?h1 ?h2 ?h3 ?_); (case h1 => exact rfl); (case h2 => (with_reducible assumption)); (case h3 => exact rfl)) | ((with_reducible refine' W_mt ?h1 ?_); (case h1 => exact rfl)) | ((with_reducible refine' W_meth ?h1 ?h2 ?_); (case h1 => exact rfl); (case h2 => exact rfl)) | ((with_reducible refine' W_varF ?h1 ?h2 ?h3 ?_); (case h1 => exact rfl); (case h2 => exact inferInstance); (case h3 => exact inferInstance))
      ); w_fin)
  | ((first | (with_reducible refine Nx_nx ?_) | (with_reducible refine Nx_rt ?_) | (with_reducible refine Nx_bk ?_) | (with_reducible refine Nx_ct ?_) | (with_reducible refine Br_t ?_) | (with_reducible refine Br_f ?_) | (with_reducible refine Br_nt ?_) | (with_reducible refine Br_same ?_) | (with_reducible refine Br_samet ?_) | (with_reducible refine Br_nf ?_) | (with_reducible refine W_skip ?_) | (with_reducible refine W_pass ?_) | (with_reducible refine W_break ?_) | (with_reducible refine W_cont ?_)); kmk_sum; w_fin)
  | ((with_reducible refine new_bag ?_); (intro _ _); w_fin)
  | ((with_reducible refine newB ?_); (intro _ _); kmk_sum; w_fin)
  | ((with_reducible refine' hasB ?h1 ?_); (case h1 => (with_reducible assumption)); w_fin)
  | ((with_reducible refine' has_bag ?h1 ?_); (case h1 => (with_reducible assumption)); (intro _ _ _ _); w_fin)
  | ((first | ((with_reducible refine' Exists.intro _ (And.intro ?h1 ?_)); (case h1 => (with_reducible assumption))) | ((with_reducible refine' Exists.intro _ (And.intro (look_of2 ?h1 ?h2) ?_)); (case h1 => exact rfl); (case h2 => ktr_room)) | (with_reducible refine Exists.intro _ (And.intro (eqB_int _ _) ?_)) | (with_reducible refine Exists.intro _ (And.intro (max2_nat _ _) ?_)) | (with_reducible refine Exists.intro _ (And.intro (eqB_str _ _) ?_)) | (with_reducible refine Exists.intro _ (And.intro (neB_str _ _) ?_)) | (with_reducible refine Exists.intro _ (And.intro (neI _ _) ?_)) | (with_reducible refine Exists.intro _ (And.intro (eqB_nil _ _ _) ?_)) | (with_reducible refine Exists.intro _ (And.intro (neB_natnil _ _ _) ?_)) | (with_reducible refine Exists.intro _ (And.intro (len_l _ _ _) ?_)) | (with_reducible refine Exists.intro _ (And.intro (len_0 _ _) ?_)) | (with_reducible refine Exists.intro _ (And.intro (isN_opt _) ?_)) | (with_reducible refine Exists.intro _ (And.intro (neB_bl _ _) ?_)) | (with_reducible refine Exists.intro _ (And.intro (eqB_bl _ _) ?_)) | (with_reducible refine Exists.intro _ (And.intro (isN_int _) ?_)) | (with_reducible refine Exists.intro _ (And.intro (notN_int _) ?_)) | (with_reducible refine Exists.intro _ (And.intro isN_non ?_)) | (with_reducible refine Exists.intro _ (And.intro notN_non ?_)) | (with_reducible refine Exists.intro _ (And.intro (notN_opt _) ?_)) | (with_reducible refine Exists.intro _ (And.intro (rev_l _ _ _) ?_)) | (with_reducible refine Exists.intro _ (And.intro it_f ?_)) | (with_reducible refine Exists.intro _ (And.intro en_f ?_)) | (with_reducible refine Exists.intro _ (And.intro (list_l _ _ _) ?_)) | (with_reducible refine Exists.intro _ (And.intro (repr_bl _) ?_)) | (with_reducible refine Exists.intro _ (And.intro (all_t0 _ _) ?_)) | (with_reducible refine Exists.intro _ (And.intro (dkF_kinds _ _ _) ?_)) | (with_reducible refine Exists.intro _ (And.intro (dkF_pairs _ _ _) ?_)) | (with_reducible refine Exists.intro _ (And.intro (eqB_ops _ _ _ _) ?_)) | (with_reducible refine Exists.intro _ (And.intro (neB_ops _ _ _ _) ?_)) | ((with_reducible refine' Exists.intro _ (And.intro (ix_l ?h1) ?_)); (case h1 => kcj_in)) | ((with_reducible refine' Exists.intro _ (And.intro (ix_two ?h1) ?_)); (case h1 => (with_reducible assumption))) | ((with_reducible refine' Exists.intro _ (And.intro (add_l ?h1) ?_)); (case h1 => kcj_in)) | ((with_reducible refine' Exists.intro _ (And.intro (cat_l ?h1) ?_)); (case h1 => kcj_in)) | ((with_reducible refine' Exists.intro _ (And.intro (add_1 ?h1) ?_)); (case h1 => kcj_in)) | ((with_reducible refine' Exists.intro _ (And.intro (sl_lo ?h1) ?_)); (case h1 => omega)) | ((with_reducible refine' Exists.intro _ (And.intro (sl_hi ?h1) ?_)); (case h1 => omega)) | ((with_reducible refine' Exists.intro _ (And.intro (sl_mid ?h1 ?h2) ?_)); (case h1 => omega); (case h2 => omega)) | ((with_reducible refine' Exists.intro _ (And.intro (rep_l ?h1) ?_)); (case h1 => kcj_in)) | ((with_reducible refine' Exists.intro _ (And.intro (app_l ?h1) ?_)); (case h1 => kcj_in)) | ((with_reducible refine' Exists.intro _ (And.intro (gAppend_of ?h1) ?_)); (case h1 => kcj_in)) | ((with_reducible refine' Exists.intro _ (And.intro (gPop_l ?h1 ?h2) ?_)); (case h1 => kcj_in); (case h2 => kcj_in)) | ((with_reducible refine' Exists.intro _ (And.intro (gPop_at ?h1 ?h2) ?_)); (case h1 => kcj_in); (case h2 => kcj_in)) | ((with_reducible refine' Exists.intro _ (And.intro (gSet_l ?h1) ?_)); (case h1 => kcj_in)) | ((with_reducible refine' Exists.intro _ (And.intro (gSet_at ?h1) ?_)); (case h1 => kcj_in)) | ((with_reducible refine' Exists.intro _ (And.intro (stO_nm ?h1 ?h2 ?h3) ?_)); (case h1 => exact rfl); (case h2 => exact rfl); (case h3 => kcj_in)) | ((with_reducible refine' Exists.intro _ (And.intro (mulD_l ?h1) ?_)); (case h1 => decide)) | ((with_reducible refine' Exists.intro _ (And.intro (mulD_r ?h1) ?_)); (case h1 => decide)) | ((with_reducible refine' Exists.intro _ (And.intro (modD_l ?h1) ?_)); (case h1 => decide)) | ((with_reducible refine' Exists.intro _ (And.intro (fdivD_l ?h1) ?_)); (case h1 => decide)) | ((with_reducible refine' And.intro (smallI_of ?h1) ?_); (case h1 => kcj_in)) | ((with_reducible refine' And.intro (szOk_of ?h1) ?_); (case h1 => kcj_in))); w_fin)
  | ((with_reducible refine lcb_end (fun _ => ?_) (fun _ => ?_)) <;> w_fin)
  | (with_reducible refine hold_mul ?_) | (with_reducible refine hold_mod ?_) | (with_reducible refine hold_fdiv ?_)
  | ((first | ((with_reducible refine' Exists.intro _ (And.intro ?h1 ?_)); (case h1 => exact rfl)) | ((with_reducible refine' And.intro ?h1 ?_); (case h1 => kcu_lt))); w_fin)
  | (with_reducible exact rfl)
  | (dsimp only [Option.isNone_none, Option.isNone_some, Option.isSome_some, Option.isSome_none, Bool.not_true, Bool.not_false, List.isEmpty_nil, List.isEmpty_cons, List.map_nil, List.map_cons]; w_fin)
  | skip)

theorem row_ok {ks : List Str} {ps : List (Str × Str)} (hp : PlanOk ks ps) {most : Int} (hm : 0 ≤ most ∧ most ≤ 1000) {R s : Sto} (hb : BagR R s) : WF f__law_row [.cel 0, planD false ks ps, .int most] s fun d s' => BagR R s' ∧ ∃ zs : List Str, d = strD true zs ∧ (∀ z ∈ zs, z ∈ ks) ∧ (zs.length : Int) ≤ most := by
  have hpos := hp.pos
  have hle8 := hp.le
  refine WF_of ?_
  unfold m__law_row
  show W _ [some (.cel 0), some (planD false ks ps), some (.int most), none] _ _
  w_fin
  rename_i n s2 hn hb2
  refine lc_bag D.str (fun z => z ∈ ks) hb2 ?_ ?_
  · intro i hi s3 hb3
    refine ⟨_, rfl, ?_⟩
    w_fin
    rename_i m s4 hm hb4
    exact ⟨List.getElem_mem _, rfl, hb4⟩
  · intro zs s3 hl hz hb3
    w_fin
    omega
theorem eqB_opt (x y : Option Nat) : eqB (optD x) (optD y) = some (.bl (decide (x = y))) := eqB_enc (isE_opt x) (isE_opt y) trivial trivial
end Fw

set_option Elab.async false
set_option linter.all false
set_option maxRecDepth 100000
/-! drawn links -/
namespace Fw
open PySem PySem.Spec PyProof.Rows L2
local macro_rules | `(tactic| ktr_units) => `(tactic| first | exact okE_nil | ((with_reducible refine' okE_cons ?h1 ?h2); (case h1 => first | (with_reducible assumption) | exact okO_none | exact okO_cel | exact okO_some inferInstance); (case h2 => ktr_units)))
local macro_rules | `(tactic| ktr_room) => `(tactic| first | exact deref_self rfl | exact deref_pl _ _ _ | exact deref_noc (by kcu_lt) _ | exact deref_cel (by with_reducible assumption) rfl rfl)
local macro_rules | `(tactic| ktn_lt) => `(tactic| first | (with_reducible exact rfl) | ((with_reducible refine' ev_nm ?h1 ?h2); (case h1 => exact rfl); (case h2 => ktr_room)) | ((with_reducible refine' ev_ix ?h1 ?h2 ?h3); (case h1 => ktn_lt); (case h2 => ktn_lt); (case h3 => first | (with_reducible assumption) | (with_reducible exact ix_l (by kcj_in)) | exact rfl)) | exact rfl)
local macro_rules | `(tactic| kcj_m) => `(tactic| (try with_reducible refine WF_fz ?_))
local macro_rules | `(tactic| kcj_in) => `(tactic| first | (with_reducible assumption) | omega | ((dsimp only [List.getElem_cons_zero]); first | (with_reducible assumption) | omega) | ((try simp only [List.length_map, List.length_append, List.length_take, List.length_drop, List.length_range, List.length_cons, List.length_nil, List.length_replicate, List.length_reverse, List.length_set, List.length_singleton, List.length_eraseIdx, List.length_zipIdx, List.getElem_cons_zero, Rn.pair_len] at *); first | (with_reducible assumption) | omega | (split <;> omega)))
local macro_rules | `(tactic| kcu_lt) => `(tactic| first | ((show (_ : Bool) = true); exact rfl) | ((show (_ : Nat) = _); exact rfl) | (with_reducible assumption) | ((with_reducible show (_ : Nat) < List.length _); (with_reducible show OfNat.ofNat _ < List.length _); exact of_decide_eq_true rfl) | ((show (_ : D) = _); exact rfl) | ((show (_ : DEnv) = _); exact rfl) | ((show (_ : Sto) = _); exact rfl) | ((show (_ : Option (Option D)) = _); exact rfl) | exact Nb.h | exact Nbs.h | exact Us.h | exact Uss.h | exact Pl.fr _ | exact Nc.h | (refine decide_eq_true ?_; kcj_in) | (refine smallI_of ?_; kcj_in) | kcj_in)
local macro_rules | `(tactic| kmk_sum) => `(tactic| (try dsimp only [List.set_cons_zero, List.set_cons_succ, placeSet, peek, deref, D.isN', List.getElem?_cons_zero, List.getElem?_cons_succ, List.getElem_cons_zero, Int.reduceToNat, Int.toNat_natCast, setAll, keepE, wipeE, Option.getD_some, Option.getD_none, List.map_cons, List.map_nil, List.length_cons, List.length_nil, Nat.zero_add, Nat.reduceAdd, List.cons_append, List.nil_append, Nat.reduceSub]))
local macro_rules | `(tactic| k_search $t) => `(tactic| ((refine Exists.intro _ (And.intro $t ?_)); w_fin))
local macro_rules | `(tactic| ktf_call $t) => `(tactic| (kcj_m; (first | refine WF_call $t ?_ | refine WF_call' $t ?_); (try (with_reducible refine' And.intro ?h0 (And.intro ?h1 ?_); (case h0 => exact rfl); (case h1 => kcu_lt))); w_fin))
local macro_rules | `(tactic| w_fin) => `(tactic| first
  | ((first | (with_reducible refine W_seq ?_) | ((with_reducible refine' W_iteL ?h1 ?_); (case h1 => exact rfl)) | (with_reducible refine W_ite ?_) | (with_reducible refine W_for ?_) | (with_reducible refine W_set ?_) | (with_reducible refine W_ret ?_) | (with_reducible refine W_expr ?_) | (with_reducible refine W_bin ?_) | (with_reducible refine W_un ?_) | (with_reducible refine W_c ?_) | (with_reducible refine W_xx ?_) | (with_reducible refine W_xn ?_) | (with_reducible refine W_ox ?_) | (with_reducible refine W_nil ?_) | (with_reducible refine W_cons ?_) | (with_reducible refine W_lst ?_) | (with_reducible refine W_tup ?_) | (with_reducible refine W_ixx ?_) | (with_reducible refine W_ixn ?_) | (with_reducible refine W_p0 ?_) | (with_reducible refine W_p1 ?_) | (with_reducible refine W_slx ?_) | (with_reducible refine W_nix ?_) | (with_reducible refine W_and ?_) | (with_reducible refine W_or ?_) | (with_reducible refine W_not ?_) | (with_reducible refine W_tru ?_) | (with_reducible refine W_if ?_) | (with_reducible refine W_par ?_) | (with_reducible refine W_asg ?_) | (with_reducible refine W_rng1 ?_) | (with_reducible refine W_rng2 ?_) | ((with_reducible refine' W_storeIc ?h1 ?_); (case h1 => exact rfl)) | (with_reducible refine W_storeI ?_) | (with_reducible refine W_store2t ?_) | (with_reducible refine W_dnew ?_) | (with_reducible refine W_ps0 ?_) | (with_reducible refine W_ps1 ?_) | (with_reducible refine W_o0 ?_) | (with_reducible refine W_ox' ?_) | (with_reducible refine W_callP ?_) | (with_reducible refine W_altl ?_) | (with_reducible refine W_it ?_) | (with_reducible refine W_enum ?_) | (with_reducible refine W_enumK ?_) | (with_reducible refine W_LR1 ?_) | (with_reducible refine W_lc ?_) | (with_reducible refine W_cat ?_) | (with_reducible refine W_fn2 ?_) | ((with_reducible refine' W_cells2 ?h1 ?h2 ?h3 ?h4 ?h5 ?h6 ?h7 ?_); (case h1 => (with_reducible assumption)); (case h2 => exact rfl); (case h3 => exact rfl); (case h4 => decide); (case h5 => (kmk_sum; ktr_units)); (case h6 => exact inferInstance); (case h7 => exact inferInstance); (intro _ _); kmk_sum) | ((with_reducible refine' W_cell1 ?h1 ?h2 ?h3 ?h4 ?_); (case h1 => (with_reducible assumption)); (case h2 => exact rfl); (case h3 => (kmk_sum; ktr_units)); (case h4 => exact inferInstance); (intro _ _); kmk_sum) | ((with_reducible refine' W_tkn ?h1 ?_); (case h1 => exact rfl)) | ((with_reducible refine' W_call ?_)) | (with_reducible refine W_chain ?_) | ((with_reducible refine' W_sln ?h1 ?_); (case h1 => exact rfl)) | ((with_reducible refine' W_var ?h1 ?h2 ?_); (case h1 => exact rfl); (case h2 => exact rfl)) | ((with_reducible refine' W_mv ?h1 ?_); (case h1 => exact rfl)) | ((with_reducible refine' W_nx ?h1 ?_); (case h1 => exact rfl)) | ((with_reducible refine' W_nn' ?h1 ?h2 ?h3 ?h4 ?_); (case h1 => exact rfl); (case h2 => exact rfl); (case h3 => ktr_room); (case h4 => ktr_room)) | ((with_reducible refine' W_onl ?h1 ?h2 ?_); (case h1 => exact rfl); (case h2 => ktr_room)) | ((with_reducible refine' W_onp ?h1 ?_); (case h1 => exact rfl)) | ((with_reducible refine' W_ol ?h1 ?h2 ?_); (case h1 => ktn_lt); (case h2 => exact rfl)) | ((with_reducible refine' W_lk ?h1 ?h2 ?_); (case h1 => ktn_lt); (case h2 => kcu_lt)) | ((with_reducible refine' W_augI ?h1 ?_); (case h1 => exact rfl)) | ((with_reducible refine' W_aug ?h1 ?_); (case h1 => exact rfl)) | ((with_reducible refine' W_mtc ?h1 ?h2 ?h3 ?_); (case h1 => exact rfl); (case h2 => (with_reducible assumption)); (case h3 => exact rfl)) | ((with_reducible refine' W_mt ?h1 ?_); (case h1 => exact rfl)) | ((with_reducible refine' W_meth ?h1 ?h2 ?_); (case h1 => exact rfl); (case h2 => exact rfl)) | ((with_reducible refine' W_varF ?h1 ?h2 ?h3 ?_); (case h1 => exact rfl); (case h2 => exact inferInstance); (case h3 => exact inferInstance))
      ); w_fin)
  | ((first | (with_reducible refine Nx_nx ?_) | (with_reducible refine Nx_rt ?_) | (with_reducible refine Nx_bk ?_) | (with_reducible refine Nx_ct ?_) | (with_reducible refine Br_t ?_) | (with_reducible refine Br_f ?_) | (with_reducible refine Br_nt ?_) | (with_reducible refine Br_same ?_) | (with_reducible refine Br_samet ?_) | (with_reducible refine Br_nf ?_) | (with_reducible refine W_skip ?_) | (with_reducible refine W_pass ?_) | (with_reducible refine W_break ?_) | (with_reducible refine W_cont ?_)); kmk_sum; w_fin)
  | ((with_reducible refine new_bag ?_); (intro _ _); w_fin)
  | ((with_reducible refine newB ?_); (intro _ _); kmk_sum; w_fin)
  | ((with_reducible refine' hasB ?h1 ?_); (case h1 => (with_reducible assumption)); w_fin)
  | ((with_reducible refine' has_bag ?h1 ?_); (case h1 => (with_reducible assumption)); (intro _ _ _ _); w_fin)
  | ((first | ((with_reducible refine' Exists.intro _ (And.intro ?h1 ?_)); (case h1 => (with_reducible assumption))) | ((with_reducible refine' Exists.intro _ (And.intro (look_of2 ?h1 ?h2) ?_)); (case h1 => exact rfl); (case h2 => ktr_room)) | (with_reducible refine Exists.intro _ (And.intro (eqB_int _ _) ?_)) | (with_reducible refine Exists.intro _ (And.intro (max2_nat _ _) ?_)) | (with_reducible refine Exists.intro _ (And.intro (eqB_str _ _) ?_)) | (with_reducible refine Exists.intro _ (And.intro (neB_str _ _) ?_)) | (with_reducible refine Exists.intro _ (And.intro (neI _ _) ?_)) | (with_reducible refine Exists.intro _ (And.intro (eqB_nil _ _ _) ?_)) | (with_reducible refine Exists.intro _ (And.intro (neB_natnil _ _ _) ?_)) | (with_reducible refine Exists.intro _ (And.intro (len_l _ _ _) ?_)) | (with_reducible refine Exists.intro _ (And.intro (len_0 _ _) ?_)) | (with_reducible refine Exists.intro _ (And.intro (isN_opt _) ?_)) | (with_reducible refine Exists.intro _ (And.intro (neB_bl _ _) ?_)) | (with_reducible refine Exists.intro _ (And.intro (eqB_bl _ _) ?_)) | (with_reducible refine Exists.intro _ (And.intro (isN_int _) ?_)) | (with_reducible refine Exists.intro _ (And.intro (notN_int _) ?_)) | (with_reducible refine Exists.intro _ (And.intro isN_non ?_)) | (with_reducible refine Exists.intro _ (And.intro notN_non ?_)) | (with_reducible refine Exists.intro _ (And.intro (notN_opt _) ?_)) | (with_reducible refine Exists.intro _ (And.intro (rev_l _ _ _) ?_)) | (with_reducible refine Exists.intro _ (And.intro it_f ?_)) | (with_reducible refine Exists.intro _ (And.intro en_f ?_)) | (with_reducible refine Exists.intro _ (And.intro (list_l _ _ _) ?_)) | (with_reducible refine Exists.intro _ (And.intro (repr_bl _) ?_)) | (with_reducible refine Exists.intro _ (And.intro (all_t0 _ _) ?_)) | (with_reducible refine Exists.intro _ (And.intro (dkF_kinds _ _ _) ?_)) | (with_reducible refine Exists.intro _ (And.intro (dkF_pairs _ _ _) ?_)) | (with_reducible refine Exists.intro _ (And.intro (eqB_ops _ _ _ _) ?_)) | (with_reducible refine Exists.intro _ (And.intro (neB_ops _ _ _ _) ?_)) | ((with_reducible refine' Exists.intro _ (And.intro (ix_l ?h1) ?_)); (case h1 => kcj_in)) | ((with_reducible refine' Exists.intro _ (And.intro (ix_two ?h1) ?_)); (case h1 => (with_reducible assumption))) | ((with_reducible refine' Exists.intro _ (And.intro (add_l ?h1) ?_)); (case h1 => kcj_in)) | ((with_reducible refine' Exists.intro _ (And.intro (cat_l ?h1) ?_)); (case h1 => kcj_in)) | ((with_reducible refine' Exists.intro _ (And.intro (add_1 ?h1) ?_)); (case h1 => kcj_in)) | ((with_reducible refine' Exists.intro _ (And.intro (sl_lo ?h1) ?_)); (case h1 => omega)) | ((with_reducible refine' Exists.intro _ (And.intro (sl_hi ?h1) ?_)); (case h1 => omega)) | ((with_reducible refine' Exists.intro _ (And.intro (sl_mid ?h1 ?h2) ?_)); (case h1 => omega); (case h2 => omega)) | ((with_reducible refine' Exists.intro _ (And.intro (rep_l ?h1) ?_)); (case h1 => kcj_in)) | ((with_reducible refine' Exists.intro _ (And.intro (app_l ?h1) ?_)); (case h1 => kcj_in)) | ((with_reducible refine' Exists.intro _ (And.intro (gAppend_of ?h1) ?_)); (case h1 => kcj_in)) | ((with_reducible refine' Exists.intro _ (And.intro (gPop_l ?h1 ?h2) ?_)); (case h1 => kcj_in); (case h2 => kcj_in)) | ((with_reducible refine' Exists.intro _ (And.intro (gPop_at ?h1 ?h2) ?_)); (case h1 => kcj_in); (case h2 => kcj_in)) | ((with_reducible refine' Exists.intro _ (And.intro (gSet_l ?h1) ?_)); (case h1 => kcj_in)) | ((with_reducible refine' Exists.intro _ (And.intro (gSet_at ?h1) ?_)); (case h1 => kcj_in)) | ((with_reducible refine' Exists.intro _ (And.intro (stO_nm ?h1 ?h2 ?h3) ?_)); (case h1 => exact rfl); (case h2 => exact rfl); (case h3 => kcj_in)) | ((with_reducible refine' Exists.intro _ (And.intro (mulD_l ?h1) ?_)); (case h1 => decide)) | ((with_reducible refine' Exists.intro _ (And.intro (mulD_r ?h1) ?_)); (case h1 => decide)) | ((with_reducible refine' Exists.intro _ (And.intro (modD_l ?h1) ?_)); (case h1 => decide)) | ((with_reducible refine' Exists.intro _ (And.intro (fdivD_l ?h1) ?_)); (case h1 => decide)) | ((with_reducible refine' And.intro (smallI_of ?h1) ?_); (case h1 => kcj_in)) | ((with_reducible refine' And.intro (szOk_of ?h1) ?_); (case h1 => kcj_in))); w_fin)
  | ((with_reducible refine lcb_end (fun _ => ?_) (fun _ => ?_)) <;> w_fin)
  | (with_reducible refine hold_mul ?_) | (with_reducible refine hold_mod ?_) | (with_reducible refine hold_fdiv ?_)
  | ((first | ((with_reducible refine' Exists.intro _ (And.intro ?h1 ?_)); (case h1 => exact rfl)) | ((with_reducible refine' And.intro ?h1 ?_); (case h1 => kcu_lt))); w_fin)
  | (with_reducible exact rfl)
  | (dsimp only [Option.isNone_none, Option.isNone_some, Option.isSome_some, Option.isSome_none, Bool.not_true, Bool.not_false, List.isEmpty_nil, List.isEmpty_cons, List.map_nil, List.map_cons]; w_fin)
  | skip)

/-- linked newcomers suit -/
def Suit (ps : List (Str × Str)) (row : List Str) (l : List (Option Nat)) : Prop := ∀ i j : Nat, l[i]? = some (some j) → ∃ a b, row[i]? = some a ∧ row[j]? = some b ∧ fits ps a b = true
theorem lnk2_map (l : List (Option Nat)) (a b : Nat) : ((l.map optD).set a (.int (b : Int))).set b (.int (a : Int)) = (Rn.lnk2 l a b).map optD := by
  unfold Rn.lnk2
  rw [List.map_set, List.map_set]; rfl
end Fw

set_option Elab.async false
set_option linter.all false
set_option maxRecDepth 100000
/-! how a law begins -/
namespace Fw
open PySem PySem.Spec PyProof.Rows L2
local macro_rules | `(tactic| ktr_units) => `(tactic| first | exact okE_nil | ((with_reducible refine' okE_cons ?h1 ?h2); (case h1 => first | (with_reducible assumption) | exact okO_none | exact okO_cel | exact okO_some inferInstance); (case h2 => ktr_units)))
local macro_rules | `(tactic| ktr_room) => `(tactic| first | exact deref_self rfl | exact deref_pl _ _ _ | exact deref_noc (by kcu_lt) _ | exact deref_cel (by with_reducible assumption) rfl rfl)
local macro_rules | `(tactic| ktn_lt) => `(tactic| first | (with_reducible exact rfl) | ((with_reducible refine' ev_nm ?h1 ?h2); (case h1 => exact rfl); (case h2 => ktr_room)) | ((with_reducible refine' ev_ix ?h1 ?h2 ?h3); (case h1 => ktn_lt); (case h2 => ktn_lt); (case h3 => first | (with_reducible assumption) | (with_reducible exact ix_l (by kcj_in)) | exact rfl)) | exact rfl)
local macro_rules | `(tactic| kcj_m) => `(tactic| (try with_reducible refine WF_fz ?_))
local macro_rules | `(tactic| kcj_in) => `(tactic| first | (with_reducible assumption) | omega | ((dsimp only [List.getElem_cons_zero]); first | (with_reducible assumption) | omega) | ((try simp only [List.length_map, List.length_append, List.length_take, List.length_drop, List.length_range, List.length_cons, List.length_nil, List.length_replicate, List.length_reverse, List.length_set, List.length_singleton, List.length_eraseIdx, List.length_zipIdx, List.getElem_cons_zero, Rn.pair_len] at *); first | (with_reducible assumption) | omega | (split <;> omega)))
local macro_rules | `(tactic| kcu_lt) => `(tactic| first | ((show (_ : Bool) = true); exact rfl) | ((show (_ : Nat) = _); exact rfl) | (with_reducible assumption) | ((with_reducible show (_ : Nat) < List.length _); (with_reducible show OfNat.ofNat _ < List.length _); exact of_decide_eq_true rfl) | ((show (_ : D) = _); exact rfl) | ((show (_ : DEnv) = _); exact rfl) | ((show (_ : Sto) = _); exact rfl) | ((show (_ : Option (Option D)) = _); exact rfl) | exact Nb.h | exact Nbs.h | exact Us.h | exact Uss.h | exact Pl.fr _ | exact Nc.h | (refine decide_eq_true ?_; kcj_in) | (refine smallI_of ?_; kcj_in) | kcj_in)
local macro_rules | `(tactic| kmk_sum) => `(tactic| (try dsimp only [List.set_cons_zero, List.set_cons_succ, placeSet, peek, deref, D.isN', List.getElem?_cons_zero, List.getElem?_cons_succ, List.getElem_cons_zero, Int.reduceToNat, Int.toNat_natCast, setAll, keepE, wipeE, Option.getD_some, Option.getD_none, List.map_cons, List.map_nil, List.length_cons, List.length_nil, Nat.zero_add, Nat.reduceAdd, List.cons_append, List.nil_append, Nat.reduceSub]))
local macro_rules | `(tactic| k_search $t) => `(tactic| ((refine Exists.intro _ (And.intro $t ?_)); w_fin))
local macro_rules | `(tactic| ktf_call $t) => `(tactic| (kcj_m; (first | refine WF_call $t ?_ | refine WF_call' $t ?_); (try (with_reducible refine' And.intro ?h0 (And.intro ?h1 ?_); (case h0 => exact rfl); (case h1 => kcu_lt))); w_fin))
local macro_rules | `(tactic| w_fin) => `(tactic| first
  | ((first | (with_reducible refine W_seq ?_) | ((with_reducible refine' W_iteL ?h1 ?_); (case h1 => exact rfl)) | (with_reducible refine W_ite ?_) | (with_reducible refine W_for ?_) | (with_reducible refine W_set ?_) | (with_reducible refine W_ret ?_) | (with_reducible refine W_expr ?_) | (with_reducible refine W_bin ?_) | (with_reducible refine W_un ?_) | (with_reducible refine W_c ?_) | (with_reducible refine W_xx ?_) | (with_reducible refine W_xn ?_) | (with_reducible refine W_ox ?_) | (with_reducible refine W_nil ?_) | (with_reducible refine W_cons ?_) | (with_reducible refine W_lst ?_) | (with_reducible refine W_tup ?_) | (with_reducible refine W_ixx ?_) | (with_reducible refine W_ixn ?_) | (with_reducible refine W_p0 ?_) | (with_reducible refine W_p1 ?_) | (with_reducible refine W_slx ?_) | (with_reducible refine W_nix ?_) | (with_reducible refine W_and ?_) | (with_reducible refine W_or ?_) | (with_reducible refine W_not ?_) | (with_reducible refine W_tru ?_) | (with_reducible refine W_if ?_) | (with_reducible refine W_par ?_) | (with_reducible refine W_asg ?_) | (with_reducible refine W_rng1 ?_) | (with_reducible refine W_rng2 ?_) | ((with_reducible refine' W_storeIc ?h1 ?_); (case h1 => exact rfl)) | (with_reducible refine W_storeI ?_) | (with_reducible refine W_store2t ?_) | (with_reducible refine W_dnew ?_) | (with_reducible refine W_ps0 ?_) | (with_reducible refine W_ps1 ?_) | (with_reducible refine W_o0 ?_) | (with_reducible refine W_ox' ?_) | (with_reducible refine W_callP ?_) | (with_reducible refine W_altl ?_) | (with_reducible refine W_it ?_) | (with_reducible refine W_enum ?_) | (with_reducible refine W_enumK ?_) | (with_reducible refine W_LR1 ?_) | (with_reducible refine W_lc ?_) | (with_reducible refine W_cat ?_) | (with_reducible refine W_fn2 ?_) | ((with_reducible refine' W_cells2 ?h1 ?h2 ?h3 ?h4 ?h5 ?h6 ?h7 ?_); (case h1 => (with_reducible assumption)); (case h2 => exact rfl); (case h3 => exact rfl); (case h4 => decide); (case h5 => (kmk_sum; ktr_units)); (case h6 => exact inferInstance); (case h7 => exact inferInstance); (intro _ _); kmk_sum) | ((with_reducible refine' W_cell1 ?h1 ?h2 ?h3 ?h4 ?_); (case h1 => (with_reducible assumption)); (case h2 => exact rfl); (case h3 => (kmk_sum; ktr_units)); (case h4 => exact inferInstance); (intro _ _); kmk_sum) | ((with_reducible refine' W_tkn ?h1 ?_); (case h1 => exact rfl)) | ((with_reducible refine' W_call ?_)) | (with_reducible refine W_chain ?_) | ((with_reducible refine' W_sln ?h1 ?_); (case h1 => exact rfl)) | ((with_reducible refine' W_var ?h1 ?h2 ?_); (case h1 => exact rfl); (case h2 => exact rfl)) | ((with_reducible refine' W_mv ?h1 ?_); (case h1 => exact rfl)) | ((with_reducible refine' W_nx ?h1 ?_); (case h1 => exact rfl)) | ((with_reducible refine' W_nn' ?h1 ?h2 ?h3 ?h4 ?_); (case h1 => exact rfl); (case h2 => exact rfl); (case h3 => ktr_room); (case h4 => ktr_room)) | ((with_reducible refine' W_onl ?h1 ?h2 ?_); (case h1 => exact rfl); (case h2 => ktr_room)) | ((with_reducible refine' W_onp ?h1 ?_); (case h1 => exact rfl)) | ((with_reducible refine' W_ol ?h1 ?h2 ?_); (case h1 => ktn_lt); (case h2 => exact rfl)) | ((with_reducible refine' W_lk ?h1 ?h2 ?_); (case h1 => ktn_lt); (case h2 => kcu_lt)) | ((with_reducible refine' W_augI ?h1 ?_); (case h1 => exact rfl)) | ((with_reducible refine' W_aug ?h1 ?_); (case h1 => exact rfl)) | ((with_reducible refine' W_mtc ?h1 ?h2 ?h3 ?_); (case h1 => exact rfl); (case h2 => (with_reducible assumption)); (case h3 => exact rfl)) | ((with_reducible refine' W_mt ?h1 ?_); (case h1 => exact rfl)) | ((with_reducible refine' W_meth ?h1 ?h2 ?_); (case h1 => exact rfl); (case h2 => exact rfl)) | ((with_reducible refine' W_varF ?h1 ?h2 ?h3 ?_); (case h1 => exact rfl); (case h2 => exact inferInstance); (case h3 => exact inferInstance))
      ); w_fin)
  | ((first | (with_reducible refine Nx_nx ?_) | (with_reducible refine Nx_rt ?_) | (with_reducible refine Nx_bk ?_) | (with_reducible refine Nx_ct ?_) | (with_reducible refine Br_t ?_) | (with_reducible refine Br_f ?_) | (with_reducible refine Br_nt ?_) | (with_reducible refine Br_same ?_) | (with_reducible refine Br_samet ?_) | (with_reducible refine Br_nf ?_) | (with_reducible refine W_skip ?_) | (with_reducible refine W_pass ?_) | (with_reducible refine W_break ?_) | (with_reducible refine W_cont ?_)); kmk_sum; w_fin)
  | ((with_reducible refine new_bag ?_); (intro _ _); w_fin)
  | ((with_reducible refine newB ?_); (intro _ _); kmk_sum; w_fin)
  | ((with_reducible refine' hasB ?h1 ?_); (case h1 => (with_reducible assumption)); w_fin)
  | ((with_reducible refine' has_bag ?h1 ?_); (case h1 => (with_reducible assumption)); (intro _ _ _ _); w_fin)
  | ((first | ((with_reducible refine' Exists.intro _ (And.intro ?h1 ?_)); (case h1 => (with_reducible assumption))) | ((with_reducible refine' Exists.intro _ (And.intro (look_of2 ?h1 ?h2) ?_)); (case h1 => exact rfl); (case h2 => ktr_room)) | (with_reducible refine Exists.intro _ (And.intro (eqB_int _ _) ?_)) | (with_reducible refine Exists.intro _ (And.intro (max2_nat _ _) ?_)) | (with_reducible refine Exists.intro _ (And.intro (eqB_str _ _) ?_)) | (with_reducible refine Exists.intro _ (And.intro (neB_str _ _) ?_)) | (with_reducible refine Exists.intro _ (And.intro (neI _ _) ?_)) | (with_reducible refine Exists.intro _ (And.intro (eqB_nil _ _ _) ?_)) | (with_reducible refine Exists.intro _ (And.intro (neB_natnil _ _ _) ?_)) | (with_reducible refine Exists.intro _ (And.intro (len_l _ _ _) ?_)) | (with_reducible refine Exists.intro _ (And.intro (len_0 _ _) ?_)) | (with_reducible refine Exists.intro _ (And.intro (isN_opt _) ?_)) | (with_reducible refine Exists.intro _ (And.intro (neB_bl _ _) ?_)) | (with_reducible refine Exists.intro _ (And.intro (eqB_bl _ _) ?_)) | (with_reducible refine Exists.intro _ (And.intro (isN_int _) ?_)) | (with_reducible refine Exists.intro _ (And.intro (notN_int _) ?_)) | (with_reducible refine Exists.intro _ (And.intro isN_non ?_)) | (with_reducible refine Exists.intro _ (And.intro notN_non ?_)) | (with_reducible refine Exists.intro _ (And.intro (notN_opt _) ?_)) | (with_reducible refine Exists.intro _ (And.intro (rev_l _ _ _) ?_)) | (with_reducible refine Exists.intro _ (And.intro it_f ?_)) | (with_reducible refine Exists.intro _ (And.intro en_f ?_)) | (with_reducible refine Exists.intro _ (And.intro (list_l _ _ _) ?_)) | (with_reducible refine Exists.intro _ (And.intro (repr_bl _) ?_)) | (with_reducible refine Exists.intro _ (And.intro (all_t0 _ _) ?_)) | (with_reducible refine Exists.intro _ (And.intro (dkF_kinds _ _ _) ?_)) | (with_reducible refine Exists.intro _ (And.intro (dkF_pairs _ _ _) ?_)) | (with_reducible refine Exists.intro _ (And.intro (eqB_ops _ _ _ _) ?_)) | (with_reducible refine Exists.intro _ (And.intro (neB_ops _ _ _ _) ?_)) | ((with_reducible refine' Exists.intro _ (And.intro (ix_l ?h1) ?_)); (case h1 => kcj_in)) | ((with_reducible refine' Exists.intro _ (And.intro (ix_two ?h1) ?_)); (case h1 => (with_reducible assumption))) | ((with_reducible refine' Exists.intro _ (And.intro (add_l ?h1) ?_)); (case h1 => kcj_in)) | ((with_reducible refine' Exists.intro _ (And.intro (cat_l ?h1) ?_)); (case h1 => kcj_in)) | ((with_reducible refine' Exists.intro _ (And.intro (add_1 ?h1) ?_)); (case h1 => kcj_in)) | ((with_reducible refine' Exists.intro _ (And.intro (sl_lo ?h1) ?_)); (case h1 => omega)) | ((with_reducible refine' Exists.intro _ (And.intro (sl_hi ?h1) ?_)); (case h1 => omega)) | ((with_reducible refine' Exists.intro _ (And.intro (sl_mid ?h1 ?h2) ?_)); (case h1 => omega); (case h2 => omega)) | ((with_reducible refine' Exists.intro _ (And.intro (rep_l ?h1) ?_)); (case h1 => kcj_in)) | ((with_reducible refine' Exists.intro _ (And.intro (app_l ?h1) ?_)); (case h1 => kcj_in)) | ((with_reducible refine' Exists.intro _ (And.intro (gAppend_of ?h1) ?_)); (case h1 => kcj_in)) | ((with_reducible refine' Exists.intro _ (And.intro (gPop_l ?h1 ?h2) ?_)); (case h1 => kcj_in); (case h2 => kcj_in)) | ((with_reducible refine' Exists.intro _ (And.intro (gPop_at ?h1 ?h2) ?_)); (case h1 => kcj_in); (case h2 => kcj_in)) | ((with_reducible refine' Exists.intro _ (And.intro (gSet_l ?h1) ?_)); (case h1 => kcj_in)) | ((with_reducible refine' Exists.intro _ (And.intro (gSet_at ?h1) ?_)); (case h1 => kcj_in)) | ((with_reducible refine' Exists.intro _ (And.intro (stO_nm ?h1 ?h2 ?h3) ?_)); (case h1 => exact rfl); (case h2 => exact rfl); (case h3 => kcj_in)) | ((with_reducible refine' Exists.intro _ (And.intro (mulD_l ?h1) ?_)); (case h1 => decide)) | ((with_reducible refine' Exists.intro _ (And.intro (mulD_r ?h1) ?_)); (case h1 => decide)) | ((with_reducible refine' Exists.intro _ (And.intro (modD_l ?h1) ?_)); (case h1 => decide)) | ((with_reducible refine' Exists.intro _ (And.intro (fdivD_l ?h1) ?_)); (case h1 => decide)) | ((with_reducible refine' And.intro (smallI_of ?h1) ?_); (case h1 => kcj_in)) | ((with_reducible refine' And.intro (szOk_of ?h1) ?_); (case h1 => kcj_in))); w_fin)
  | ((with_reducible refine lcb_end (fun _ => ?_) (fun _ => ?_)) <;> w_fin)
  | (with_reducible refine hold_mul ?_) | (with_reducible refine hold_mod ?_) | (with_reducible refine hold_fdiv ?_)
  | ((first | ((with_reducible refine' Exists.intro _ (And.intro ?h1 ?_)); (case h1 => exact rfl)) | ((with_reducible refine' And.intro ?h1 ?_); (case h1 => kcu_lt))); w_fin)
  | (with_reducible exact rfl)
  | (dsimp only [Option.isNone_none, Option.isNone_some, Option.isSome_some, Option.isSome_none, Bool.not_true, Bool.not_false, List.isEmpty_nil, List.isEmpty_cons, List.map_nil, List.map_cons]; w_fin)
  | skip)

theorem law_start {ns : List Int} (hl : ns.length ≤ 63) {m : Ms} {n : Nat} (w : ∀ s, BagS s → W m (some (.scr ns) :: some (.cel 0) :: List.replicate n none) s (fun f e s => match f with | .rt d => d = .bl true | .nx => D.non = .bl true | _ => False)) : WF (mBody (n + 2) (mSeq (mSetC 1 (mCallP 1 f__law_bag [.nm 0])) m)) [.scr ns] [] fun d _ => d = .bl true := by
  refine WF_of ?_
  have e : ([D.scr ns].map some ++ List.replicate (n + 2 - [D.scr ns].length) none : DEnv) = some (.scr ns) :: none :: List.replicate n none := rfl
  rw [e]
  refine W_seq (W_setC (W_bagc hl rfl fun xs hx => ⟨_, rfl, by simp, nob_bag xs, ?_⟩))
  exact Nx_nx (w _ (bagS_new hx []))
theorem lay_of {ks : List Str} {ps : List (Str × Str)} (hp : PlanOk ks ps) {l : List Str} (h : ∀ x ∈ l, x ∈ ks) : ∀ x ∈ l, PyEnc.lay x := fun x hx => (hp.kind x (h x hx)).lay
theorem sub_take {ks l : List Str} (h : ∀ x ∈ l, x ∈ ks) (n : Nat) : ∀ x ∈ l.take n, x ∈ ks := fun x hx => h x (List.mem_of_mem_take hx)
theorem sub_nil {ks : List Str} : ∀ x ∈ ([] : List Str), x ∈ ks := fun x h => by cases h
/-- a list many times -/
theorem mul_l {α : Type} {f : α → D} [Pl f] {o : Bool} {xs : List α} {n : Int} (h : 0 ≤ n ∧ xs.length * n.toNat ≤ 16000000 ∧ n ≤ 1000000) : mulD (.lst o (xs.map f)) (.int n) = some (.lst true ((List.replicate n.toNat xs).flatten.map f)) := by
  unfold mulD
  dsimp only
  rw [if_pos ⟨by omega, by omega, decide_eq_true (by rw [List.length_map]; omega), frs_l f xs⟩]
  unfold repL
  rw [List.map_flatten, List.map_replicate]
theorem sub_mul {ks l : List Str} (h : ∀ x ∈ l, x ∈ ks) (n : Nat) : ∀ x ∈ (List.replicate n l).flatten, x ∈ ks := fun x hx => by
  obtain ⟨y, h1, h2⟩ := List.mem_flatten.mp hx
  rw [List.eq_of_mem_replicate h1] at h2
  exact h x h2
/-! a list in a cell -/
def okO (x : Option D) : Prop := ∀ d, x = some d → d.okC 1 = true
instance {o : Bool} {ks : List Str} {ps : List (Str × Str)} : Nc (planD o ks ps) := ⟨by
  unfold planD
  rw [D.noC, D.noCk, D.noCk, D.noCk, D.noC, D.noC, noCs_l D.str, noCs_l pairD]; rfl⟩
instance {o : Bool} {ks : List Str} {ps : List (Str × Str)} : Nc (matesD o ks ps) := ⟨by
  have g : ∀ l : List Str, D.noCk (l.map fun k => ((.inr k : Key), strD o (othersOf k (ordPs ps)))) = true := by
    intro l
    induction l with
    | nil => rfl
    | cons a l ih => rw [List.map_cons, D.noCk, ih, noC_l D.str]; rfl
  exact g ks⟩
instance {o : Bool} {ks : List Str} {ps : List (Str × Str)} : Nc (suitsD o ks ps) := ⟨by
  have h := (inferInstance : Nc (matesD o ks ps)).h
  unfold suitsD suitsF
  rw [D.noC, D.noCf, D.noCf, D.noCf, D.noCf, noC_l D.str, h, noC_l pairD]; rfl⟩
def NewBag (P : Sto → Prop) : Prop := ∀ s', BagS s' → P s'
end Fw

set_option Elab.async false
set_option linter.all false
set_option maxRecDepth 100000
namespace Fw
open PySem PySem.Spec PyProof.Rows L2
/-! _law_due -/
def m__law_due : Ms := (mSeq (mIte (mOr (mNot (mTru (.ex (mUn (isiD "list") (.nm 1))))) (mBin neX (.ex (mUn lenD (.nm 1))) (.nm 0))) (mRet (mC (.bl false))) mSkip)
  (mSeq (mFor (mRng1 (mCons (mVar 0) mNil)) (bName 2) (mSeq (mSet 3 (mIx (.nm 1) (.nm 2)))
  (mIte (mBin notND (.nm 3) (.ex (mC .non))) (mSeq (mIte (mOr (mTru (.ex (mUn (isiD "bool") (.nm 3)))) (mOr (mNot (mTru (.ex (mUn (isiD "int") (.nm 3))))) (mOr (mNot (mChain leD ltD (mC (.int 0)) (mVar 3) (mVar 0))) (mBin eqB (.nm 3) (.nm 2))))) (mRet (mC (.bl false))) mSkip)
  (mIte (mOr (mTru (.ex (mUn (isiD "bool") (.ex (mIx (.nm 1) (.nm 3)))))) (mBin neX (.ex (mIx (.nm 1) (.nm 3))) (.nm 2))) (mRet (mC (.bl false))) mSkip)) mSkip)))
  (mRet (mC (.bl true)))))
def f__law_due : Fn := mBody 4 m__law_due
/-! _law_odd -/
def m__law_odd : Ms := (mSeq (mSet 1 (mLst (mCons (mC .non) (mCons (mC (.bl true)) (mCons (mC (.bl false)) (mCons (mUn negD (.ex (mC (.int 1)))) (mCons (mC (.int 0)) (mCons (mC (.int 1)) (mCons (mC (.int 2)) (mCons (mBin powD (.ex (mC (.int 10))) (.ex (mC (.int 39)))) (mCons (mC (.str (Str.ofString ""))) (mCons (mC (.str (Str.ofString "a"))) (mCons (mC (.str (Str.ofString "come"))) (mCons (mC (.str (Str.ofString "A"))) (mCons (mTup mNil) (mCons (mLst mNil) (mCons mDnew (mCons (mLst (mCons (mC (.int 0)) mNil)) (mCons (mTup (mCons (mC (.int 0)) mNil)) (mCons (mLst (mCons (mC .non) mNil)) (mCons (mTup (mCons (mC (.str (Str.ofString "a"))) mNil)) mNil)))))))))))))))))))))
  (mRet (mIx (.ex (mVar 1)) (.ex (mCall 2 f__law_take (mCons (mVar 0) (mCons (mC (.int 19)) mNil)))))))
def f__law_odd : Fn := mBody 2 m__law_odd
/-! _law_drawn_links -/
def m__law_drawn_links : Ms := (mSeq (mPar [2, 3] (mCons (mBin mulD (.ex (mLst (mCons (mC .non) mNil))) (.nm 1)) (mCons (mLR1 (mVar 1)) mNil)))
  (mSeq (whileL (mAnd (mBin gtD (.ex (mUn lenD (.nm 3))) (.ex (mC (.int 1)))) (mBin gtD (.ex (mCall 2 f__law_take (mCons (mVar 0) (mCons (mC (.int 6)) mNil)))) (.ex (mC (.int 0))))) (mSeq (mSet 4 (mMt 3 gPop (mCons (mCall 2 f__law_take (mCons (mVar 0) (mCons (mUn lenD (.nm 3)) mNil))) mNil)))
  (mSeq (mSet 5 (mMt 3 gPop (mCons (mCall 2 f__law_take (mCons (mVar 0) (mCons (mUn lenD (.nm 3)) mNil))) mNil)))
  (mStore2 2 (.nm 4) (.nm 5) (mTup (mCons (mVar 5) (mCons (mVar 4) mNil)))))) 1000000)
  (mRet (mMv 2))))
def f__law_drawn_links : Fn := mBody 6 m__law_drawn_links
/-! _law_bent -/
def m__law_bent (fb : Fn) : Ms := (mSeq (mIte (mOr (mNot (mTru (.ex (mUn (isi2D "list" "tuple") (.nm 1))))) (mOr (mBin inED (.nm 1) (.ex (mTup (mCons (mLst mNil) (mCons (mTup mNil) mNil))))) (mBin eqB (.ex (mCall 2 f__law_take (mCons (mVar 0) (mCons (mC (.int 9)) mNil)))) (.ex (mC (.int 0)))))) (mRet (mCall 1 f__law_odd (mCons (mVar 0) mNil))) mSkip)
  (mSeq (mPar [2, 3, 4] (mCons (mUn listD (.nm 1)) (mCons (mCall 2 f__law_take (mCons (mVar 0) (mCons (mUn lenD (.nm 1)) mNil))) (mCons (mCall 2 f__law_take (mCons (mVar 0) (mCons (mC (.int 8)) mNil))) mNil))))
  (mSeq (mIte (mBin eqB (.nm 4) (.ex (mC (.int 0)))) (mSet 2 (mBin addD (.ex (mSl (.nm 2) none (some (mVar 3)))) (.ex (mSl (.nm 2) (some (mBin addD (.nm 3) (.ex (mC (.int 1))))) none)))) (mIte (mBin eqB (.nm 4) (.ex (mC (.int 1)))) (mExpr (mMt 2 gInsert (mCons (mVar 3) (mCons (mAlt (mIx (.nm 2) (.nm 3)) (mIx (.ex (mVar 2)) (.nm 3))) mNil)))) (mIte (mBin eqB (.nm 4) (.ex (mC (.int 2)))) (mStore2 2 (.nm 3) (.ex (mBin subD (.nm 3) (.ex (mC (.int 1))))) (mTup (mCons (mAlt (mIx (.nm 2) (.ex (mBin subD (.nm 3) (.ex (mC (.int 1)))))) (mIx (.ex (mVar 2)) (.ex (mBin subD (.nm 3) (.ex (mC (.int 1))))))) (mCons (mAlt (mIx (.nm 2) (.nm 3)) (mIx (.ex (mVar 2)) (.nm 3))) mNil)))) (mIte (mBin eqB (.nm 4) (.ex (mC (.int 3)))) (mExpr (mMt 2 gInsert (mCons (mVar 3) (mCons (mCall 1 f__law_odd (mCons (mVar 0) mNil)) mNil)))) (mIte (mBin eqB (.nm 4) (.ex (mC (.int 4)))) (mRet (mIx (.ex (mLst (mCons (mUn tupleD (.nm 2)) (mCons (mVar 2) mNil)))) (.ex (mUn intD (.ex (mUn (isiD "tuple") (.nm 1))))))) (mIte (mBin eqB (.nm 4) (.ex (mC (.int 5)))) (mStoreI 2 (.nm 3) (mCall 1 f__law_odd (mCons (mVar 0) mNil))) (mStoreI 2 (.nm 3) (mCall 2 fb (mCons (mVar 0) (mCons (mAlt (mIx (.nm 2) (.nm 3)) (mIx (.ex (mVar 2)) (.nm 3))) mNil))))))))))
  (mRet (mIf (mTru (.ex (mUn (isiD "tuple") (.nm 1)))) (mUn tupleD (.nm 2)) (mVar 2))))))
def fr__law_bent : Nat → Fn
  | 0 => fun _ _ => none
  | j + 1 => mBody 5 (m__law_bent (fr__law_bent j))
def f__law_bent : Fn := fr__law_bent 6
/-! law -/
def m_law : Ms := (mSeq (mSetC 1 (mCallP 1 f__law_bag [(.nm 0)]))
  (mSeq (mSet 2 (mCall 2 f__law_plan (mCons (mVar 1) (mCons (mC (.int 5)) mNil))))
  (mSeq (mFor (mRng1 (mCons (mC (.int 8)) mNil)) (bName 3) (mSeq (mSet 4 (mCall 3 f__law_row (mCons (mVar 1) (mCons (mVar 2) (mCons (mIx (.ex (mLst (mCons (mC (.int 4)) (mCons (mC (.int 14)) mNil)))) (.ex (mCall 2 f__law_take (mCons (mVar 1) (mCons (mC (.int 2)) mNil))))) mNil)))))
  (mSeq (mIte (mAnd (mBin eqB (.nm 3) (.ex (mC (.int 0)))) (mBin eqB (.ex (mCall 2 f__law_take (mCons (mVar 1) (mCons (mC (.int 2)) mNil)))) (.ex (mC (.int 0))))) (mSet 4 (mSl (.ex (mBin mulD (.nm 4) (.ex (mC (.int 50))))) none (some (mC (.int 200))))) mSkip)
  (mSeq (mSet 5 (mLst (mCons (mIx (.ex (mCallP 3 f__law_run [(.nm 2), (.ex (mLst mNil)), (.nm 4)])) (.ex (mC (.int 1)))) (mCons (mCall 2 f__law_drawn_links (mCons (mVar 1) (mCons (mUn lenD (.nm 4)) mNil))) (mCons (mCall 2 f__law_drawn_links (mCons (mVar 1) (mCons (mBin addD (.ex (mUn lenD (.nm 4))) (.ex (mC (.int 1)))) mNil))) mNil)))))
  (mFor (mIt (mVar 5)) (bName 6) (mFor (mRng1 (mCons (mC (.int 3)) mNil)) (bName 7) (mSeq (mPar [8, 9] (mCons (mUn reprD (.nm 6)) (mCons (mUn listD (.nm 4)) mNil)))
  (mSeq (mIte (mBin neB (.ex (mUn reprD (.ex (mCallP 2 f_are_links [(.nm 4), (.nm 6)])))) (.ex (mUn reprD (.ex (mCallP 2 f__law_due [(.ex (mUn lenD (.nm 4))), (.nm 6)]))))) (mRet (mC (.bl false))) mSkip)
  (mSeq (mIte (mOr (mBin neB (.ex (mUn reprD (.nm 6))) (.nm 8)) (mBin neB (.nm 4) (.nm 9))) (mRet (mC (.bl false))) mSkip)
  (mSet 6 (mCall 2 f__law_bent (mCons (mVar 1) (mCons (mVar 6) mNil)))))))))))))
  (mRet (mBin isBD (.ex (mCallP 2 f_are_links [(.ex (mLst mNil)), (.ex (mLst mNil))])) (.ex (mC (.bl true))))))))
def f_law : Fn := mBody 10 m_law
end Fw

set_option Elab.async false
set_option linter.all false
set_option maxRecDepth 100000
set_option maxHeartbeats 0
/-! things of any kind -/
namespace Fw
open PySem PySem.Spec PyProof.Rows L2
local macro_rules | `(tactic| ktr_units) => `(tactic| first | exact okE_nil | ((with_reducible refine' okE_cons ?h1 ?h2); (case h1 => first | (with_reducible assumption) | exact okO_none | exact okO_cel | exact okO_some inferInstance); (case h2 => ktr_units)))
local macro_rules | `(tactic| ktr_room) => `(tactic| first | exact deref_self rfl | exact deref_pl _ _ _ | exact deref_noc (by kcu_lt) _ | exact deref_cel (by with_reducible assumption) rfl rfl)
local macro_rules | `(tactic| ktn_lt) => `(tactic| first | (with_reducible exact rfl) | ((with_reducible refine' ev_nm ?h1 ?h2); (case h1 => exact rfl); (case h2 => ktr_room)) | ((with_reducible refine' ev_ix ?h1 ?h2 ?h3); (case h1 => ktn_lt); (case h2 => ktn_lt); (case h3 => first | (with_reducible assumption) | (with_reducible exact ix_l (by kcj_in)) | exact rfl)) | exact rfl)
local macro_rules | `(tactic| kcj_m) => `(tactic| (try with_reducible refine WF_fz ?_))
local macro_rules | `(tactic| kcj_in) => `(tactic| first | (with_reducible assumption) | omega | ((dsimp only [List.getElem_cons_zero]); first | (with_reducible assumption) | omega) | ((try simp only [List.length_map, List.length_append, List.length_take, List.length_drop, List.length_range, List.length_cons, List.length_nil, List.length_replicate, List.length_reverse, List.length_set, List.length_singleton, List.length_eraseIdx, List.length_zipIdx, List.getElem_cons_zero, Rn.pair_len] at *); first | (with_reducible assumption) | omega | (split <;> omega)))
local macro_rules | `(tactic| kcu_lt) => `(tactic| first | ((show (_ : Bool) = true); exact rfl) | ((show (_ : Nat) = _); exact rfl) | (with_reducible assumption) | ((with_reducible show (_ : Nat) < List.length _); (with_reducible show OfNat.ofNat _ < List.length _); exact of_decide_eq_true rfl) | ((show (_ : Option (Str × Str × D)) = _); exact rfl) | ((show (_ : D) = _); exact rfl) | ((show (_ : DEnv) = _); exact rfl) | ((show (_ : Sto) = _); exact rfl) | ((show (_ : Option (Option D)) = _); exact rfl) | exact Nb.h | exact Nbs.h | exact Us.h | exact Uss.h | exact Pl.fr _ | exact Nc.h | (refine decide_eq_true ?_; kcj_in) | (refine smallI_of ?_; kcj_in) | kcj_in)
local macro_rules | `(tactic| kmk_sum) => `(tactic| (try dsimp only [List.set_cons_zero, List.set_cons_succ, placeSet, peek, deref, D.isN', List.getElem?_cons_zero, List.getElem?_cons_succ, List.getElem_cons_zero, Int.reduceToNat, Int.toNat_natCast, setAll, keepE, wipeE, Option.getD_some, Option.getD_none, List.map_cons, List.map_nil, List.length_cons, List.length_nil, Nat.zero_add, Nat.reduceAdd, List.cons_append, List.nil_append, Nat.reduceSub]))
local macro_rules | `(tactic| k_search $t) => `(tactic| ((refine Exists.intro _ (And.intro $t ?_)); w_fin))
local macro_rules | `(tactic| ktf_call $t) => `(tactic| (kcj_m; (first | refine WF_call $t ?_ | refine WF_call' $t ?_); (try (with_reducible refine' And.intro ?h0 (And.intro ?h1 ?_); (case h0 => exact rfl); (case h1 => kcu_lt))); w_fin))
local macro_rules | `(tactic| w_fin) => `(tactic| first
  | ((first | (with_reducible refine W_seq ?_) | ((with_reducible refine' W_iteL ?h1 ?_); (case h1 => exact rfl)) | (with_reducible refine W_ite ?_) | (with_reducible refine W_for ?_) | (with_reducible refine W_set ?_) | (with_reducible refine W_mLx ?_) | (with_reducible refine W_mLE ?_) | (with_reducible refine W_raise ?_) | (with_reducible refine W_ret ?_) | (with_reducible refine W_expr ?_) | (with_reducible refine W_bin ?_) | (with_reducible refine W_un ?_) | (with_reducible refine W_c ?_) | (with_reducible refine W_xx ?_) | (with_reducible refine W_xn ?_) | (with_reducible refine W_ox ?_) | (with_reducible refine W_nil ?_) | (with_reducible refine W_cons ?_) | (with_reducible refine W_lst ?_) | (with_reducible refine W_tup ?_) | (with_reducible refine W_ixx ?_) | (with_reducible refine W_ixn ?_) | (with_reducible refine W_p0 ?_) | (with_reducible refine W_p1 ?_) | (with_reducible refine W_slx ?_) | (with_reducible refine W_nix ?_) | (with_reducible refine W_and ?_) | (with_reducible refine W_or ?_) | (with_reducible refine W_not ?_) | (with_reducible refine W_tru ?_) | (with_reducible refine W_if ?_) | (with_reducible refine W_par ?_) | (with_reducible refine W_asg ?_) | (with_reducible refine W_rng1 ?_) | (with_reducible refine W_rng2 ?_) | ((with_reducible refine' W_storeIc ?h1 ?_); (case h1 => exact rfl)) | (with_reducible refine W_storeI ?_) | (with_reducible refine W_store2t ?_) | (with_reducible refine W_dnew ?_) | (with_reducible refine W_ps0 ?_) | (with_reducible refine W_ps1 ?_) | (with_reducible refine W_o0 ?_) | (with_reducible refine W_ox' ?_) | (with_reducible refine W_callP ?_) | (with_reducible refine W_altl ?_) | (with_reducible refine W_it ?_) | (with_reducible refine W_enum ?_) | (with_reducible refine W_enumK ?_) | (with_reducible refine W_LR1 ?_) | (with_reducible refine W_lc ?_) | (with_reducible refine W_cat ?_) | (with_reducible refine W_fn2 ?_) | ((with_reducible refine' W_cells2 ?h1 ?h2 ?h3 ?h4 ?h5 ?h6 ?h7 ?_); (case h1 => (with_reducible assumption)); (case h2 => exact rfl); (case h3 => exact rfl); (case h4 => decide); (case h5 => (kmk_sum; ktr_units)); (case h6 => exact inferInstance); (case h7 => exact inferInstance); (intro _ _); kmk_sum) | ((with_reducible refine' W_cell1 ?h1 ?h2 ?h3 ?h4 ?_); (case h1 => (with_reducible assumption)); (case h2 => exact rfl); (case h3 => (kmk_sum; ktr_units)); (case h4 => exact inferInstance); (intro _ _); kmk_sum) | ((with_reducible refine' W_tkn ?h1 ?_); (case h1 => exact rfl)) | ((with_reducible refine' W_call ?_)) | (with_reducible refine W_chain ?_) | ((with_reducible refine' W_sln ?h1 ?_); (case h1 => exact rfl)) | ((with_reducible refine' W_var ?h1 ?h2 ?_); (case h1 => exact rfl); (case h2 => exact rfl)) | ((with_reducible refine' W_mv ?h1 ?_); (case h1 => exact rfl)) | ((with_reducible refine' W_nx ?h1 ?_); (case h1 => exact rfl)) | ((with_reducible refine' W_nn' ?h1 ?h2 ?h3 ?h4 ?_); (case h1 => exact rfl); (case h2 => exact rfl); (case h3 => ktr_room); (case h4 => ktr_room)) | ((with_reducible refine' W_onl ?h1 ?h2 ?_); (case h1 => exact rfl); (case h2 => ktr_room)) | ((with_reducible refine' W_onp ?h1 ?_); (case h1 => exact rfl)) | ((with_reducible refine' W_ol ?h1 ?h2 ?_); (case h1 => ktn_lt); (case h2 => exact rfl)) | ((with_reducible refine' W_lk ?h1 ?h2 ?_); (case h1 => ktn_lt); (case h2 => kcu_lt)) | ((with_reducible refine' W_augI ?h1 ?_); (case h1 => exact rfl)) | ((with_reducible refine' W_aug ?h1 ?_); (case h1 => exact rfl)) | ((with_reducible refine' W_mtc ?h1 ?h2 ?h3 ?_); (case h1 => exact rfl); (case h2 => (with_reducible assumption)); (case h3 => exact rfl)) | ((with_reducible refine' W_mt ?h1 ?_); (case h1 => exact rfl)) | ((with_reducible refine' W_meth ?h1 ?h2 ?_); (case h1 => exact rfl); (case h2 => exact rfl)) | ((with_reducible refine' W_varF ?h1 ?h2 ?h3 ?_); (case h1 => exact rfl); (case h2 => exact inferInstance); (case h3 => exact inferInstance))
      ); w_fin)
  | ((first | (with_reducible refine Nx_nx ?_) | (with_reducible refine Lx_nx ?_) | (with_reducible refine Lx_bk ?_) | (with_reducible refine Lx_ct ?_) | ((with_reducible refine' Lx_rt ?h1 ?_); (case h1 => exact rfl)) | (with_reducible refine Sx_nx ?_) | (with_reducible refine Sx_rt ?_) | (with_reducible refine Xx_rt ?_) | (with_reducible refine Nx_rt ?_) | (with_reducible refine Nx_bk ?_) | (with_reducible refine Nx_ct ?_) | (with_reducible refine Br_t ?_) | (with_reducible refine Br_f ?_) | (with_reducible refine Br_nt ?_) | (with_reducible refine Br_same ?_) | (with_reducible refine Br_samet ?_) | (with_reducible refine Br_nf ?_) | (with_reducible refine W_skip ?_) | (with_reducible refine W_pass ?_) | (with_reducible refine W_break ?_) | (with_reducible refine W_cont ?_)); kmk_sum; w_fin)
  | ((with_reducible refine new_bag ?_); (intro _ _); w_fin)
  | ((with_reducible refine newB ?_); (intro _ _); kmk_sum; w_fin)
  | ((with_reducible refine' hasB ?h1 ?_); (case h1 => (with_reducible assumption)); w_fin)
  | ((with_reducible refine' has_bag ?h1 ?_); (case h1 => (with_reducible assumption)); (intro _ _ _ _); w_fin)
  | ((first | ((with_reducible refine' Exists.intro _ (And.intro ?h1 ?_)); (case h1 => (with_reducible assumption))) | ((with_reducible refine' Exists.intro _ (And.intro (look_of2 ?h1 ?h2) ?_)); (case h1 => exact rfl); (case h2 => ktr_room)) | (with_reducible refine Exists.intro _ (And.intro (eqB_int _ _) ?_)) | (with_reducible refine Exists.intro _ (And.intro (max2_nat _ _) ?_)) | (with_reducible refine Exists.intro _ (And.intro (eqB_str _ _) ?_)) | (with_reducible refine Exists.intro _ (And.intro (neB_str _ _) ?_)) | (with_reducible refine Exists.intro _ (And.intro (neI _ _) ?_)) | (with_reducible refine Exists.intro _ (And.intro (eqB_nil _ _ _) ?_)) | (with_reducible refine Exists.intro _ (And.intro (neB_natnil _ _ _) ?_)) | (with_reducible refine Exists.intro _ (And.intro (len_l _ _ _) ?_)) | (with_reducible refine Exists.intro _ (And.intro (len_0 _ _) ?_)) | (with_reducible refine Exists.intro _ (And.intro (isN_opt _) ?_)) | (with_reducible refine Exists.intro _ (And.intro (neB_bl _ _) ?_)) | (with_reducible refine Exists.intro _ (And.intro (eqB_bl _ _) ?_)) | (with_reducible refine Exists.intro _ (And.intro (isN_int _) ?_)) | (with_reducible refine Exists.intro _ (And.intro (notN_int _) ?_)) | (with_reducible refine Exists.intro _ (And.intro isN_non ?_)) | (with_reducible refine Exists.intro _ (And.intro notN_non ?_)) | (with_reducible refine Exists.intro _ (And.intro (notN_opt _) ?_)) | (with_reducible refine Exists.intro _ (And.intro (rev_l _ _ _) ?_)) | (with_reducible refine Exists.intro _ (And.intro it_f ?_)) | (with_reducible refine Exists.intro _ (And.intro en_f ?_)) | (with_reducible refine Exists.intro _ (And.intro (list_l _ _ _) ?_)) | (with_reducible refine Exists.intro _ (And.intro (repr_bl _) ?_)) | (with_reducible refine Exists.intro _ (And.intro (all_t0 _ _) ?_)) | (with_reducible refine Exists.intro _ (And.intro (dkF_kinds _ _ _) ?_)) | (with_reducible refine Exists.intro _ (And.intro (dkF_pairs _ _ _) ?_)) | (with_reducible refine Exists.intro _ (And.intro (eqB_ops _ _ _ _) ?_)) | (with_reducible refine Exists.intro _ (And.intro (neB_ops _ _ _ _) ?_)) | ((with_reducible refine' Exists.intro _ (And.intro (ix_l ?h1) ?_)); (case h1 => kcj_in)) | ((with_reducible refine' Exists.intro _ (And.intro (ix_two ?h1) ?_)); (case h1 => (with_reducible assumption))) | ((with_reducible refine' Exists.intro _ (And.intro (add_l ?h1) ?_)); (case h1 => kcj_in)) | ((with_reducible refine' Exists.intro _ (And.intro (cat_l ?h1) ?_)); (case h1 => kcj_in)) | ((with_reducible refine' Exists.intro _ (And.intro (add_1 ?h1) ?_)); (case h1 => kcj_in)) | ((with_reducible refine' Exists.intro _ (And.intro (sl_lo ?h1) ?_)); (case h1 => omega)) | ((with_reducible refine' Exists.intro _ (And.intro (sl_hi ?h1) ?_)); (case h1 => omega)) | ((with_reducible refine' Exists.intro _ (And.intro (sl_mid ?h1 ?h2) ?_)); (case h1 => omega); (case h2 => omega)) | ((with_reducible refine' Exists.intro _ (And.intro (rep_l ?h1) ?_)); (case h1 => kcj_in)) | ((with_reducible refine' Exists.intro _ (And.intro (app_l ?h1) ?_)); (case h1 => kcj_in)) | ((with_reducible refine' Exists.intro _ (And.intro (gAppend_of ?h1) ?_)); (case h1 => kcj_in)) | ((with_reducible refine' Exists.intro _ (And.intro (gPop_l ?h1 ?h2) ?_)); (case h1 => kcj_in); (case h2 => kcj_in)) | ((with_reducible refine' Exists.intro _ (And.intro (gPop_at ?h1 ?h2) ?_)); (case h1 => kcj_in); (case h2 => kcj_in)) | ((with_reducible refine' Exists.intro _ (And.intro (gSet_l ?h1) ?_)); (case h1 => kcj_in)) | ((with_reducible refine' Exists.intro _ (And.intro (gSet_at ?h1) ?_)); (case h1 => kcj_in)) | ((with_reducible refine' Exists.intro _ (And.intro (stO_nm ?h1 ?h2 ?h3) ?_)); (case h1 => exact rfl); (case h2 => exact rfl); (case h3 => kcj_in)) | ((with_reducible refine' Exists.intro _ (And.intro (mulD_l ?h1) ?_)); (case h1 => decide)) | ((with_reducible refine' Exists.intro _ (And.intro (mulD_r ?h1) ?_)); (case h1 => decide)) | ((with_reducible refine' Exists.intro _ (And.intro (modD_l ?h1) ?_)); (case h1 => decide)) | ((with_reducible refine' Exists.intro _ (And.intro (fdivD_l ?h1) ?_)); (case h1 => decide)) | ((with_reducible refine' And.intro (smallI_of ?h1) ?_); (case h1 => kcj_in)) | ((with_reducible refine' And.intro (szOk_of ?h1) ?_); (case h1 => kcj_in))); w_fin)
  | ((with_reducible refine lcb_end (fun _ => ?_) (fun _ => ?_)) <;> w_fin)
  | (with_reducible refine hold_mul ?_) | (with_reducible refine hold_mod ?_) | (with_reducible refine hold_fdiv ?_)
  | ((first | ((with_reducible refine' Exists.intro _ (And.intro ?h1 ?_)); (case h1 => exact rfl)) | ((with_reducible refine' And.intro ?h1 ?_); (case h1 => kcu_lt))); w_fin)
  | (with_reducible exact rfl)
  | (dsimp only [Option.isNone_none, Option.isNone_some, Option.isSome_some, Option.isSome_none, Bool.not_true, Bool.not_false, List.isEmpty_nil, List.isEmpty_cons, List.map_nil, List.map_cons]; w_fin)
  | skip)

inductive Lv : List Nat → D → Prop
  | non (ns : List Nat) : Lv ns .non
  | bl (ns : List Nat) (b : Bool) : Lv ns (.bl b)
  | int (ns : List Nat) (i : Int) (h : i.natAbs < 10 ^ 60) : Lv ns (.int i)
  | str (ns : List Nat) (z : Str) (hc : ∀ c ∈ tl z, c < 55296) (hl : z.length ≤ 4) : Lv ns (.str z)
  | dic (ns : List Nat) : Lv ns (.dic false [])
  | lst (n : Nat) (ns : List Nat) (xs : List D) (hl : xs.length ≤ n) (h : ∀ x ∈ xs, Lv ns x) : Lv (n :: ns) (.lst false xs)
  | tup (n : Nat) (ns : List Nat) (xs : List D) (hl : xs.length ≤ n) (h : ∀ x ∈ xs, Lv ns x) : Lv (n :: ns) (.tup xs)
def bump : List Nat → List Nat
  | [] => [1]
  | n :: ns => (n + 1) :: bump ns
def Le : List Nat → List Nat → Prop
  | [], _ => True
  | _ :: _, [] => False
  | n :: ns, m :: ms => n ≤ m ∧ Le ns ms
theorem Lv.mono : ∀ {ns ms : List Nat} {t : D}, Lv ns t → Le ns ms → Lv ms t
  | _, ms, _, .non _, _ => .non ms
  | _, ms, _, .bl _ b, _ => .bl ms b
  | _, ms, _, .int _ i h, _ => .int ms i h
  | _, ms, _, .str _ z h h2, _ => .str ms z h h2
  | _, ms, _, .dic _, _ => .dic ms
  | _, [], _, .lst n ns xs hl h, q => absurd q id
  | _, m :: ms, _, .lst n ns xs hl h, q => .lst m ms xs (Nat.le_trans hl q.1) fun x hx => (h x hx).mono q.2
  | _, [], _, .tup n ns xs hl h, q => absurd q id
  | _, m :: ms, _, .tup n ns xs hl h, q => .tup m ms xs (Nat.le_trans hl q.1) fun x hx => (h x hx).mono q.2
theorem le_bump : ∀ ns : List Nat, Le ns (bump ns)
  | [] => trivial
  | n :: ns => ⟨by omega, le_bump ns⟩
theorem one_bump : ∀ ns : List Nat, Le [1] (bump ns)
  | [] => ⟨Nat.le_refl _, trivial⟩
  | n :: ns => ⟨by omega, trivial⟩
theorem fzs_same : ∀ {xs : List D}, (∀ x ∈ xs, x.fz = x) → D.fzs xs = xs
  | [], _ => rfl
  | x :: xs, h => by rw [D.fzs, h x List.mem_cons_self, fzs_same fun y hy => h y (List.mem_cons_of_mem _ hy)]
/-- what such a thing is -/
structure Frz (t : D) : Prop where
  fr : t.fr = true
  nob : t.nob = true
  noC : t.noC = true
  fz : t.fz = t
  drf : ∀ s, deref s t = t
theorem Lv.frz : ∀ {ns : List Nat} {t : D}, Lv ns t → Frz t
  | _, _, .non _ => ⟨rfl, rfl, rfl, rfl, fun _ => rfl⟩
  | _, _, .bl _ b => ⟨rfl, rfl, rfl, rfl, fun _ => rfl⟩
  | _, _, .int _ i h => ⟨rfl, rfl, rfl, rfl, fun _ => rfl⟩
  | _, _, .str _ z h h2 => ⟨rfl, rfl, rfl, rfl, fun _ => rfl⟩
  | _, _, .dic _ => ⟨rfl, rfl, rfl, rfl, fun _ => rfl⟩
  | _, _, .lst n ns xs hl h => ⟨rfl, by rw [D.nob]; exact nobs_of fun x hx => (h x hx).frz.nob, by rw [D.noC]; exact noCs_of fun x hx => (h x hx).frz.noC, rfl, fun _ => rfl⟩
  | _, _, .tup n ns xs hl h => ⟨by rw [D.fr]; exact frs_of fun x hx => (h x hx).frz.fr, by rw [D.nob]; exact nobs_of fun x hx => (h x hx).frz.nob, by rw [D.noC]; exact noCs_of fun x hx => (h x hx).frz.noC,
      by rw [D.fz, fzs_same fun x hx => (h x hx).frz.fz], fun _ => rfl⟩
def bb : List Nat → Nat
  | [] => 4
  | n :: ns => 4 + n * (bb ns + 1)
theorem bb4 (ns : List Nat) : 4 ≤ bb ns := by cases ns <;> simp [bb]
theorem Lv.shw : ∀ {ns : List Nat} {t : D}, Lv ns t → Shw t (bb ns) (ns.length + 1)
  | ns, _, .non _ => Shw.non.mono (Nat.zero_le _) (Nat.zero_le _)
  | _, _, .bl _ b => (Shw.bl b).mono (Nat.zero_le _) (Nat.zero_le _)
  | _, _, .int _ i h => (Shw.int h).mono (Nat.zero_le _) (Nat.zero_le _)
  | _, _, .str ns z h h2 => (Shw.str h).mono (Nat.le_trans h2 (bb4 ns)) (Nat.zero_le _)
  | _, _, .dic ns => ⟨.dict [], rfl, rfl, rfl, Nat.zero_le _, Nat.le_add_left _ _⟩
  | _, _, .lst n ns xs hl h => (Shw.lst false fun x hx => (h x hx).shw).mono (by rw [bb]; have := Nat.mul_le_mul_right (bb ns + 1) hl; omega) (Nat.le_refl _)
  | _, _, .tup n ns xs hl h => (Shw.tup fun x hx => (h x hx).shw).mono (by rw [bb]; have := Nat.mul_le_mul_right (bb ns + 1) hl; omega) (Nat.le_refl _)
theorem pick_l {o : Bool} {xs : List D} {q : Int} {P : D → Prop} (q0 : 0 ≤ q) (n : Nat) (q1 : q < n) (hn : xs.length = n) (h : ∀ d ∈ xs, P d) : ∃ z, ixD (.lst o xs) (.int q) = some z ∧ P z := by
  obtain ⟨k, rfl⟩ : ∃ k : Nat, q = k := ⟨q.toNat, by omega⟩
  have hlt : k < xs.length := by omega
  exact ⟨xs[k], ixD_at (List.getElem?_eq_getElem hlt), h _ (List.getElem_mem _)⟩
instance {o : Bool} : Nb (.dic o []) := ⟨rfl⟩
instance : Fz (.dic true []) (.dic false []) := ⟨rfl⟩
instance : Fz (.dic false []) (.dic false []) := ⟨rfl⟩
theorem lv_flat (ns : List Nat) : ∀ d ∈ [D.non, D.bl true, D.bl false, D.int (-1), D.int 0, D.int 1, D.int 2, D.int (10 ^ 39), D.str (Str.ofString ""), D.str (Str.ofString "a"), D.str (Str.ofString "come"), D.str (Str.ofString "A")], Lv ns d := by
  intro d hd
  simp only [List.mem_cons, List.not_mem_nil, or_false] at hd
  rcases hd with rfl | rfl | rfl | rfl | rfl | rfl | rfl | rfl | rfl | rfl | rfl | rfl <;>
    first | exact .non _ | exact .bl _ _ | exact .int _ _ (by decide) | exact .str _ _ (by decide +kernel) (by decide +kernel)
theorem odd_ok {s : Sto} (hb : BagS s) : WF f__law_odd [.cel 0] s fun d s' => BagS s' ∧ Lv [1] d := by
  refine WF_of ?_
  unfold m__law_odd
  show W _ [some (.cel 0), none] _ _
  w_fin
  rename_i n s2 hn hb2
  refine Exists.imp (fun z h => ⟨h.1, hb2, h.2⟩) (pick_l (P := Lv [1]) ?_ 19 ?_ rfl ?_)
  · omega
  · omega
  · intro d hd
    have h2 : d ∈ [D.non, D.bl true, D.bl false, D.int (-1), D.int 0, D.int 1, D.int 2, D.int (10 ^ 39), D.str (Str.ofString ""), D.str (Str.ofString "a"), D.str (Str.ofString "come"), D.str (Str.ofString "A")] ++ [D.tup [], D.lst false [], D.dic false [], D.lst false [D.int 0], D.tup [D.int 0], D.lst false [D.non], D.tup [D.str (Str.ofString "a")]] := hd
    rcases List.mem_append.mp h2 with h | h
    · exact lv_flat _ _ h
    · simp only [List.mem_cons, List.not_mem_nil, or_false] at h
      have one : ∀ {x : D}, x ∈ [D.non, D.bl true, D.bl false, D.int (-1), D.int 0, D.int 1, D.int 2, D.int (10 ^ 39), D.str (Str.ofString ""), D.str (Str.ofString "a"), D.str (Str.ofString "come"), D.str (Str.ofString "A")] → ∀ y ∈ [x], Lv [] y := fun hx y hy => by
        rw [List.mem_singleton.mp hy]; exact lv_flat _ _ hx
      rcases h with rfl | rfl | rfl | rfl | rfl | rfl | rfl
      · exact .tup 1 [] _ (by decide) fun x hx => by cases hx
      · exact .lst 1 [] _ (by decide) fun x hx => by cases hx
      · exact .dic _
      · exact .lst 1 [] _ (by decide) (one (by simp))
      · exact .tup 1 [] _ (by decide) (one (by simp))
      · exact .lst 1 [] _ (by decide) (one (by simp))
      · exact .tup 1 [] _ (by decide) (one (by simp))
/-- a list or a tuple -/
structure Sq (t : D) (b : Bool) (xs : List D) : Prop where
  isi2 : isi2D "list" "tuple" t = some (.bl true)
  isi : isiD "tuple" t = some (.bl b)
  inE : inED t (.tup [.lst true [], .tup []]) = some (.bl (isEm xs))
  lst : listD t = some (.lst true xs)
  len : lenD t = some (.int xs.length)
theorem sq_lst {xs : List D} (h : D.frs xs = true) : Sq (.lst false xs) false xs := ⟨rfl, rfl, rfl, if_pos h, rfl⟩
theorem sq_tup {xs : List D} (h : D.frs xs = true) : Sq (.tup xs) true xs := ⟨rfl, rfl, rfl, if_pos h, rfl⟩
theorem bent_odd {t : D} {j : Nat} {s : Sto} (f : Frz t) (h1 : isi2D "list" "tuple" t = some (.bl false)) (hb : BagS s) : WF (fr__law_bent (j + 1)) [.cel 0, t] s fun d s' => BagS s' ∧ Lv [1] d := by
  show WF (mBody 5 (m__law_bent (fr__law_bent j))) _ _ _
  refine WF_of ?_
  unfold m__law_bent
  show W _ [some (.cel 0), some t, none, none, none] _ _
  have hn := f.noC
  haveI : Nb t := ⟨f.nob⟩
  haveI : Fz t t := ⟨f.fz⟩
  w_fin
  refine WF.imp (odd_ok hb) ?_
  rintro d s2 ⟨hb2, h2⟩
  w_fin
  exact h2
/-- what is made of a list or a tuple -/
def Ben (ms : List Nat) (n : Nat) (d : D) : Prop := Lv [1] d ∨ ∃ ys, ys.length ≤ n ∧ (∀ y ∈ ys, Lv ms y) ∧ (d = .lst false ys ∨ d = .tup ys)
theorem ctD_lo {xs : List D} (n : Nat) : cutD xs none (some (n : Int)) = xs.take n := by
  unfold cutD
  rw [HT.sIx_none]
  show (xs.drop 0).take ((if (n : Int) < 0 then ((n : Int) + (xs.length : Int)).toNat else min (n : Int).toNat xs.length) - 0) = _
  rw [if_neg (by omega), List.drop_zero, Nat.sub_zero, Int.toNat_natCast]
  by_cases h : n ≤ xs.length
  · rw [Nat.min_eq_left h]
  · rw [Nat.min_eq_right (by omega), List.take_of_length_le (Nat.le_refl _), List.take_of_length_le (by omega)]
theorem ctD_hi {xs : List D} (n : Nat) : cutD xs (some (n : Int)) none = xs.drop n := by
  unfold cutD
  rw [HT.sIx_none]
  have e : HT.sIx xs.length 0 (some (n : Int)) = min n xs.length := by
    show (if (n : Int) < 0 then ((n : Int) + (xs.length : Int)).toNat else min (n : Int).toNat xs.length) = _
    rw [if_neg (by omega), Int.toNat_natCast]
  rw [e]
  by_cases h : n ≤ xs.length
  · rw [Nat.min_eq_left h, List.take_of_length_le (by rw [List.length_drop]; omega)]
  · rw [Nat.min_eq_right (by omega), List.drop_of_length_le (Nat.le_refl _), List.drop_of_length_le (by omega), List.take_nil]
theorem ixN_pred {n m : Nat} (h : n < m) : ∃ j, j < m ∧ ixN m ((n : Int) - 1) = some j := by
  unfold ixN
  by_cases h0 : n = 0
  · subst h0
    refine ⟨m - 1, by omega, ?_⟩
    rw [if_neg (by omega), if_pos (by omega)]
    congr 1
    omega
  · refine ⟨n - 1, by omega, ?_⟩
    rw [if_pos (by omega), if_pos (by omega)]
    congr 1
    omega
theorem bent_sq {t : D} {b : Bool} {xs : List D} {j : Nat} {s : Sto} {ns : List Nat} (q : Sq t b xs) (f : Frz t) (hx : ∀ x ∈ xs, Lv ns x) (hl : xs.length ≤ 400)
    (ih : ∀ x s, Lv ns x → BagS s → WF (fr__law_bent j) [.cel 0, x] s fun d s' => BagS s' ∧ Lv (bump ns) d) (hb : BagS s) :
    WF (fr__law_bent (j + 1)) [.cel 0, t] s fun d s' => BagS s' ∧ Ben (bump ns) (xs.length + 1) d := by
  show WF (mBody 5 (m__law_bent (fr__law_bent j))) _ _ _
  refine WF_of ?_
  unfold m__law_bent
  show W _ [some (.cel 0), some t, none, none, none] _ _
  obtain ⟨q1, q2, q3, q4, q5⟩ := q
  have hn := f.noC
  haveI : Nb t := ⟨f.nob⟩
  haveI : Fz t t := ⟨f.fz⟩
  have odd : ∀ {s : Sto}, BagS s → WF f__law_odd [.cel 0] s fun d s' => BagS s' ∧ Ben (bump ns) (xs.length + 1) d := fun h => (odd_ok h).imp fun d s' h => ⟨h.1, .inl h.2⟩
  w_fin
  by_cases he : xs = []
  · subst he
    refine Br_t ?_
    w_fin
    refine WF.imp (odd (by assumption)) ?_
    rintro d s2 ⟨hb2, h2⟩
    w_fin
    exact h2
  · have e : isEm xs = false := by cases xs with | nil => exact absurd rfl he | cons a r => rfl
    have hpos : 0 < xs.length := List.length_pos_iff.mpr he
    rw [e]
    w_fin
    rename_i n1 s1 hn1 hb1
    refine Br_b (fun _ => ?_) (fun _ => ?_)
    · w_fin
      refine WF.imp (odd (by assumption)) ?_
      rintro d s2 ⟨hb2, h2⟩
      w_fin
      exact h2
    · w_fin
      rename_i n2 s2 hn2 hb2 n3 s3 hn3 hb3
      have hxb : ∀ x ∈ xs, Lv (bump ns) x := fun x h => (hx x h).mono (le_bump ns)
      have tx : (D.lst true xs).fr = false := rfl
      have nbs : ∀ {ys : List D}, (∀ y ∈ ys, Lv (bump ns) y) → D.frs ys = true ∧ D.nobs ys = true ∧ D.fzs ys = ys := fun h => ⟨frs_of fun y hy => (h y hy).frz.fr, nobs_of fun y hy => (h y hy).frz.nob, fzs_same fun y hy => (h y hy).frz.fz⟩
      have fin : ∀ (ys : List D) s, BagS s → ys.length ≤ xs.length + 1 → (∀ y ∈ ys, Lv (bump ns) y) → Br (fun e s => W (mUn tupleD (Od.nm 2)) e s fun d e s => BagS s ∧ Ben (bump ns) (xs.length + 1) d)
          (fun e s => W (mVar 2) e s fun d e s => BagS s ∧ Ben (bump ns) (xs.length + 1) d) (D.bl b)
          [some (.cel 0), some t, some (.lst true ys), some (.int n2), some (.int n3)] s := fun ys s hb hyl hy => by
        obtain ⟨y1, y2, y3⟩ := nbs hy
        haveI : Nbs ys := ⟨y2⟩
        haveI : Fzs ys ys := ⟨y3⟩
        have yt : tupleD (.lst true ys) = some (.tup ys) := if_pos y1
        cases b with
        | true =>
          refine Br_t ?_
          w_fin
          exact .inr ⟨ys, hyl, hy, .inr rfl⟩
        | false =>
          refine Br_f ?_
          w_fin
          exact .inr ⟨ys, hyl, hy, .inl rfl⟩
      clear odd
      obtain ⟨x1, x2, x3⟩ := nbs hxb
      haveI : Nbs xs := ⟨x2⟩
      haveI : Fzs xs xs := ⟨x3⟩
      have hlt : n2 < xs.length := by omega
      have hix : ixD (.lst true xs) (.int (n2 : Int)) = some xs[n2] := ixD_at (List.getElem?_eq_getElem hlt)
      have hz2 := hxb _ (List.getElem_mem hlt)
      have hzf := hz2.frz.fr
      haveI : Nb xs[n2] := ⟨hz2.frz.nob⟩
      haveI : Fz xs[n2] xs[n2] := ⟨hz2.frz.fz⟩
      have ins : ∀ z, Lv (bump ns) z → gInsert xs [.int (n2 : Int), z] = some (.non, xs.take n2 ++ [z] ++ xs.drop n2) ∧ (xs.take n2 ++ [z] ++ xs.drop n2).length ≤ xs.length + 1 ∧ ∀ y ∈ xs.take n2 ++ [z] ++ xs.drop n2, Lv (bump ns) y := fun z hz => by
        refine ⟨if_pos ⟨decide_eq_true (by omega), by omega, by omega⟩, by rw [List.length_append, List.length_append, List.length_take, List.length_drop]; show _ + 1 + _ ≤ _; omega, fun y hy => ?_⟩
        rcases List.mem_append.mp hy with h | h
        · rcases List.mem_append.mp h with h | h
          · exact hxb y (List.mem_of_mem_take h)
          · rw [List.mem_singleton.mp h]; exact hz
        · exact hxb y (List.mem_of_mem_drop h)
      have mset : ∀ {ys : List D} {k : Nat} {z}, (∀ y ∈ ys, Lv (bump ns) y) → Lv (bump ns) z → ∀ y ∈ ys.set k z, Lv (bump ns) y := fun h hz y hy => (List.mem_or_eq_of_mem_set hy).elim (h y) fun e => e ▸ hz
      refine Br_b (fun _ => ?_) (fun _ => ?_)
      · w_fin
        k_search ((if_pos x1).trans (by rw [ctD_lo]))
        have e1 : ((n2 : Int) + 1) = ((n2 + 1 : Nat) : Int) := by omega
        rw [e1]
        k_search ((if_pos x1).trans (by rw [ctD_hi]))
        have hadd : addD (.lst true (xs.take n2)) (.lst true (xs.drop (n2 + 1))) = some (.lst true (xs.take n2 ++ xs.drop (n2 + 1))) := if_pos ⟨decide_eq_true (by rw [List.length_take, List.length_drop]; omega), frs_of fun y hy => (hxb y (List.mem_of_mem_take hy)).frz.fr, frs_of fun y hy => (hxb y (List.mem_of_mem_drop hy)).frz.fr⟩
        k_search hadd
        refine fin _ _ (by assumption) (by simp only [List.length_append, List.length_take, List.length_drop]; omega) fun y hy => ?_
        rcases List.mem_append.mp hy with h | h
        · exact hxb y (List.mem_of_mem_take h)
        · exact hxb y (List.mem_of_mem_drop h)
      · w_fin
        refine Br_b (fun _ => ?_) (fun _ => ?_)
        · w_fin
          k_search (ins _ hz2).1
          exact fin _ _ (by assumption) (ins _ hz2).2.1 (ins _ hz2).2.2
        · w_fin
          refine Br_b (fun _ => ?_) (fun _ => ?_)
          · obtain ⟨jj, hj1, hj2⟩ := ixN_pred hlt
            have hat : ixD (.lst true xs) (.int ((n2 : Int) - 1)) = some xs[jj] := by
              show atD xs _ = _
              unfold atD
              rw [hj2]
              exact List.getElem?_eq_getElem hj1
            have hzj := hxb _ (List.getElem_mem hj1)
            have hjf := hzj.frz.fr
            have hg : gSet (.int ((n2 : Int) - 1)) xs[n2] (xs.set n2 xs[jj]) = some ((xs.set n2 xs[jj]).set jj xs[n2]) := by unfold gSet; dsimp only; rw [List.length_set, hj2]
            have hs2 : stO 2 (Od.ex (mBin subD (Od.nm 3) (Od.ex (mC (D.int 1))))) xs[n2] [some (.cel 0), some t, some (.lst true (xs.set n2 xs[jj])), some (.int n2), some (.int n3)] s3 =
                some ([some (.cel 0), some t, some (.lst true ((xs.set n2 xs[jj]).set jj xs[n2])), some (.int n2), some (.int n3)], s3) := by
              show (match gSet (.int ((n2 : Int) - 1)) xs[n2] (xs.set n2 xs[jj]) with | some ds' => some (placeSet 2 ds' [some (.cel 0), some t, some (.lst true (xs.set n2 xs[jj])), some (.int n2), some (.int n3)] s3) | none => none) = _
              rw [hg]
              rfl
            refine W_store2 ?_
            w_fin
            refine ⟨_, _, rfl, hjf, hzf, _, stO_nm rfl rfl hlt, _, hs2, ?_⟩
            w_fin
            exact fin _ _ (by assumption) (by rw [List.length_set, List.length_set]; omega) (mset (mset hxb hzj) hz2)
          · w_fin
            refine Br_b (fun _ => ?_) (fun _ => ?_)
            · w_fin
              refine WF_fz ?_
              refine WF.imp (odd_ok (by assumption)) ?_
              rintro d s4 ⟨hb4, hd⟩
              have hd := hd.mono (one_bump ns)
              w_fin
              k_search (ins _ hd).1
              exact fin _ _ (by assumption) (ins _ hd).2.1 (ins _ hd).2.2
            · w_fin
              refine Br_b (fun _ => ?_) (fun _ => ?_)
              · have yt : tupleD (.lst true xs) = some (.tup xs) := if_pos x1
                cases b with
                | true =>
                  w_fin
                  exact .inr ⟨xs, by omega, hxb, .inl rfl⟩
                | false =>
                  w_fin
                  exact .inr ⟨xs, by omega, hxb, .inr rfl⟩
              · w_fin
                refine Br_b (fun _ => ?_) (fun _ => ?_)
                · w_fin
                  refine WF_fz ?_
                  refine WF.imp (odd_ok (by assumption)) ?_
                  rintro d s4 ⟨hb4, hd⟩
                  have hd := hd.mono (one_bump ns)
                  w_fin
                  exact fin _ _ (by assumption) (by rw [List.length_set]; omega) (mset hxb hd)
                · w_fin
                  refine WF_fz ?_
                  refine WF.imp (ih _ _ (hx _ (List.getElem_mem hlt)) (by assumption)) ?_
                  rintro d s4 ⟨hb4, hd⟩
                  w_fin
                  exact fin _ _ (by assumption) (by rw [List.length_set]; omega) (mset hxb hd)
theorem Ben.lv {ns : List Nat} {n m : Nat} {d : D} (h : Ben (bump ns) (m + 1) d) (hm : m ≤ n) : Lv (bump (n :: ns)) d := by
  rcases h with h | ⟨ys, hl, hy, rfl | rfl⟩
  · exact h.mono (one_bump (n :: ns))
  · exact .lst (n + 1) (bump ns) ys (by omega) hy
  · exact .tup (n + 1) (bump ns) ys (by omega) hy
theorem bent_ok : ∀ (ns : List Nat) (t : D), Lv ns t → (∀ n ∈ ns, n ≤ 400) → ∀ (j : Nat) (s : Sto), ns.length < j → BagS s → WF (fr__law_bent j) [.cel 0, t] s fun d s' => BagS s' ∧ Lv (bump ns) d
  | _, _, _, _, 0, _, h, _ => absurd h (Nat.not_lt_zero _)
  | _, _, .non ns, _, j + 1, _, _, hb => (bent_odd (Lv.non ns).frz rfl hb).imp fun d s h => ⟨h.1, h.2.mono (one_bump ns)⟩
  | _, _, .bl ns b, _, j + 1, _, _, hb => (bent_odd (Lv.bl ns b).frz rfl hb).imp fun d s h => ⟨h.1, h.2.mono (one_bump ns)⟩
  | _, _, .int ns i h, _, j + 1, _, _, hb => (bent_odd (Lv.int ns i h).frz rfl hb).imp fun d s h => ⟨h.1, h.2.mono (one_bump ns)⟩
  | _, _, .str ns z h h2, _, j + 1, _, _, hb => (bent_odd (Lv.str ns z h h2).frz rfl hb).imp fun d s h => ⟨h.1, h.2.mono (one_bump ns)⟩
  | _, _, .dic ns, _, j + 1, _, _, hb => (bent_odd (Lv.dic ns).frz rfl hb).imp fun d s h => ⟨h.1, h.2.mono (one_bump ns)⟩
  | _, _, .lst n ns xs hl hx, hn, j + 1, _, hj, hb => (bent_sq (sq_lst (frs_of fun y hy => (hx y hy).frz.fr)) (Lv.lst n ns xs hl hx).frz hx (Nat.le_trans hl (hn n List.mem_cons_self)) (fun x s h hb => bent_ok ns x h (fun m hm => hn m (List.mem_cons_of_mem _ hm)) j s (by simp only [List.length_cons] at hj; omega) hb) hb).imp
      fun d s h => ⟨h.1, h.2.lv hl⟩
  | _, _, .tup n ns xs hl hx, hn, j + 1, _, hj, hb => (bent_sq (sq_tup (frs_of fun y hy => (hx y hy).frz.fr)) (Lv.tup n ns xs hl hx).frz hx (Nat.le_trans hl (hn n List.mem_cons_self)) (fun x s h hb => bent_ok ns x h (fun m hm => hn m (List.mem_cons_of_mem _ hm)) j s (by simp only [List.length_cons] at hj; omega) hb) hb).imp
      fun d s h => ⟨h.1, h.2.lv hl⟩
end Fw

set_option Elab.async false
set_option linter.all false
set_option maxRecDepth 100000
set_option maxHeartbeats 0
/-! drawn links -/
namespace Fw
open PySem PySem.Spec PyProof.Rows L2
local macro_rules | `(tactic| ktr_units) => `(tactic| first | exact okE_nil | ((with_reducible refine' okE_cons ?h1 ?h2); (case h1 => first | (with_reducible assumption) | exact okO_none | exact okO_cel | exact okO_some inferInstance); (case h2 => ktr_units)))
local macro_rules | `(tactic| ktr_room) => `(tactic| first | exact deref_self rfl | exact deref_pl _ _ _ | exact deref_noc (by kcu_lt) _ | exact deref_cel (by with_reducible assumption) rfl rfl)
local macro_rules | `(tactic| ktn_lt) => `(tactic| first | (with_reducible exact rfl) | ((with_reducible refine' ev_nm ?h1 ?h2); (case h1 => exact rfl); (case h2 => ktr_room)) | ((with_reducible refine' ev_ix ?h1 ?h2 ?h3); (case h1 => ktn_lt); (case h2 => ktn_lt); (case h3 => first | (with_reducible assumption) | (with_reducible exact ix_l (by kcj_in)) | exact rfl)) | exact rfl)
local macro_rules | `(tactic| kcj_m) => `(tactic| (try with_reducible refine WF_fz ?_))
local macro_rules | `(tactic| kcj_in) => `(tactic| first | (with_reducible assumption) | omega | ((dsimp only [List.getElem_cons_zero]); first | (with_reducible assumption) | omega) | ((try simp only [List.length_map, List.length_append, List.length_take, List.length_drop, List.length_range, List.length_cons, List.length_nil, List.length_replicate, List.length_reverse, List.length_set, List.length_singleton, List.length_eraseIdx, List.length_zipIdx, List.getElem_cons_zero, Rn.pair_len] at *); first | (with_reducible assumption) | omega | (split <;> omega)))
local macro_rules | `(tactic| kcu_lt) => `(tactic| first | ((show (_ : Bool) = true); exact rfl) | ((show (_ : Nat) = _); exact rfl) | (with_reducible assumption) | ((with_reducible show (_ : Nat) < List.length _); (with_reducible show OfNat.ofNat _ < List.length _); exact of_decide_eq_true rfl) | ((show (_ : Option (Str × Str × D)) = _); exact rfl) | ((show (_ : D) = _); exact rfl) | ((show (_ : DEnv) = _); exact rfl) | ((show (_ : Sto) = _); exact rfl) | ((show (_ : Option (Option D)) = _); exact rfl) | exact Nb.h | exact Nbs.h | exact Us.h | exact Uss.h | exact Pl.fr _ | exact Nc.h | (refine decide_eq_true ?_; kcj_in) | (refine smallI_of ?_; kcj_in) | kcj_in)
local macro_rules | `(tactic| kmk_sum) => `(tactic| (try dsimp only [List.set_cons_zero, List.set_cons_succ, placeSet, peek, deref, D.isN', List.getElem?_cons_zero, List.getElem?_cons_succ, List.getElem_cons_zero, Int.reduceToNat, Int.toNat_natCast, setAll, keepE, wipeE, Option.getD_some, Option.getD_none, List.map_cons, List.map_nil, List.length_cons, List.length_nil, Nat.zero_add, Nat.reduceAdd, List.cons_append, List.nil_append, Nat.reduceSub]))
local macro_rules | `(tactic| k_search $t) => `(tactic| ((refine Exists.intro _ (And.intro $t ?_)); w_fin))
local macro_rules | `(tactic| ktf_call $t) => `(tactic| (kcj_m; (first | refine WF_call $t ?_ | refine WF_call' $t ?_); (try (with_reducible refine' And.intro ?h0 (And.intro ?h1 ?_); (case h0 => exact rfl); (case h1 => kcu_lt))); w_fin))
local macro_rules | `(tactic| w_fin) => `(tactic| first
  | ((first | (with_reducible refine W_seq ?_) | ((with_reducible refine' W_iteL ?h1 ?_); (case h1 => exact rfl)) | (with_reducible refine W_ite ?_) | (with_reducible refine W_for ?_) | (with_reducible refine W_set ?_) | (with_reducible refine W_mLx ?_) | (with_reducible refine W_mLE ?_) | (with_reducible refine W_raise ?_) | (with_reducible refine W_ret ?_) | (with_reducible refine W_expr ?_) | (with_reducible refine W_bin ?_) | (with_reducible refine W_un ?_) | (with_reducible refine W_c ?_) | (with_reducible refine W_xx ?_) | (with_reducible refine W_xn ?_) | (with_reducible refine W_ox ?_) | (with_reducible refine W_nil ?_) | (with_reducible refine W_cons ?_) | (with_reducible refine W_lst ?_) | (with_reducible refine W_tup ?_) | (with_reducible refine W_ixx ?_) | (with_reducible refine W_ixn ?_) | (with_reducible refine W_p0 ?_) | (with_reducible refine W_p1 ?_) | (with_reducible refine W_slx ?_) | (with_reducible refine W_nix ?_) | (with_reducible refine W_and ?_) | (with_reducible refine W_or ?_) | (with_reducible refine W_not ?_) | (with_reducible refine W_tru ?_) | (with_reducible refine W_if ?_) | (with_reducible refine W_par ?_) | (with_reducible refine W_asg ?_) | (with_reducible refine W_rng1 ?_) | (with_reducible refine W_rng2 ?_) | ((with_reducible refine' W_storeIc ?h1 ?_); (case h1 => exact rfl)) | (with_reducible refine W_storeI ?_) | (with_reducible refine W_store2t ?_) | (with_reducible refine W_dnew ?_) | (with_reducible refine W_ps0 ?_) | (with_reducible refine W_ps1 ?_) | (with_reducible refine W_o0 ?_) | (with_reducible refine W_ox' ?_) | (with_reducible refine W_callP ?_) | (with_reducible refine W_altl ?_) | (with_reducible refine W_it ?_) | (with_reducible refine W_enum ?_) | (with_reducible refine W_enumK ?_) | (with_reducible refine W_LR1 ?_) | (with_reducible refine W_lc ?_) | (with_reducible refine W_cat ?_) | (with_reducible refine W_fn2 ?_) | ((with_reducible refine' W_cells2 ?h1 ?h2 ?h3 ?h4 ?h5 ?h6 ?h7 ?_); (case h1 => (with_reducible assumption)); (case h2 => exact rfl); (case h3 => exact rfl); (case h4 => decide); (case h5 => (kmk_sum; ktr_units)); (case h6 => exact inferInstance); (case h7 => exact inferInstance); (intro _ _); kmk_sum) | ((with_reducible refine' W_cell1 ?h1 ?h2 ?h3 ?h4 ?_); (case h1 => (with_reducible assumption)); (case h2 => exact rfl); (case h3 => (kmk_sum; ktr_units)); (case h4 => exact inferInstance); (intro _ _); kmk_sum) | ((with_reducible refine' W_tkn ?h1 ?_); (case h1 => exact rfl)) | ((with_reducible refine' W_call ?_)) | (with_reducible refine W_chain ?_) | ((with_reducible refine' W_sln ?h1 ?_); (case h1 => exact rfl)) | ((with_reducible refine' W_var ?h1 ?h2 ?_); (case h1 => exact rfl); (case h2 => exact rfl)) | ((with_reducible refine' W_mv ?h1 ?_); (case h1 => exact rfl)) | ((with_reducible refine' W_nx ?h1 ?_); (case h1 => exact rfl)) | ((with_reducible refine' W_nn' ?h1 ?h2 ?h3 ?h4 ?_); (case h1 => exact rfl); (case h2 => exact rfl); (case h3 => ktr_room); (case h4 => ktr_room)) | ((with_reducible refine' W_onl ?h1 ?h2 ?_); (case h1 => exact rfl); (case h2 => ktr_room)) | ((with_reducible refine' W_onp ?h1 ?_); (case h1 => exact rfl)) | ((with_reducible refine' W_ol ?h1 ?h2 ?_); (case h1 => ktn_lt); (case h2 => exact rfl)) | ((with_reducible refine' W_lk ?h1 ?h2 ?_); (case h1 => ktn_lt); (case h2 => kcu_lt)) | ((with_reducible refine' W_augI ?h1 ?_); (case h1 => exact rfl)) | ((with_reducible refine' W_aug ?h1 ?_); (case h1 => exact rfl)) | ((with_reducible refine' W_mtc ?h1 ?h2 ?h3 ?_); (case h1 => exact rfl); (case h2 => (with_reducible assumption)); (case h3 => exact rfl)) | ((with_reducible refine' W_mt ?h1 ?_); (case h1 => exact rfl)) | ((with_reducible refine' W_meth ?h1 ?h2 ?_); (case h1 => exact rfl); (case h2 => exact rfl)) | ((with_reducible refine' W_varF ?h1 ?h2 ?h3 ?_); (case h1 => exact rfl); (case h2 => exact inferInstance); (case h3 => exact inferInstance))
      ); w_fin)
  | ((first | (with_reducible refine Nx_nx ?_) | (with_reducible refine Lx_nx ?_) | (with_reducible refine Lx_bk ?_) | (with_reducible refine Lx_ct ?_) | ((with_reducible refine' Lx_rt ?h1 ?_); (case h1 => exact rfl)) | (with_reducible refine Sx_nx ?_) | (with_reducible refine Sx_rt ?_) | (with_reducible refine Xx_rt ?_) | (with_reducible refine Nx_rt ?_) | (with_reducible refine Nx_bk ?_) | (with_reducible refine Nx_ct ?_) | (with_reducible refine Br_t ?_) | (with_reducible refine Br_f ?_) | (with_reducible refine Br_nt ?_) | (with_reducible refine Br_same ?_) | (with_reducible refine Br_samet ?_) | (with_reducible refine Br_nf ?_) | (with_reducible refine W_skip ?_) | (with_reducible refine W_pass ?_) | (with_reducible refine W_break ?_) | (with_reducible refine W_cont ?_)); kmk_sum; w_fin)
  | ((with_reducible refine new_bag ?_); (intro _ _); w_fin)
  | ((with_reducible refine newB ?_); (intro _ _); kmk_sum; w_fin)
  | ((with_reducible refine' hasB ?h1 ?_); (case h1 => (with_reducible assumption)); w_fin)
  | ((with_reducible refine' has_bag ?h1 ?_); (case h1 => (with_reducible assumption)); (intro _ _ _ _); w_fin)
  | ((first | ((with_reducible refine' Exists.intro _ (And.intro ?h1 ?_)); (case h1 => (with_reducible assumption))) | ((with_reducible refine' Exists.intro _ (And.intro (look_of2 ?h1 ?h2) ?_)); (case h1 => exact rfl); (case h2 => ktr_room)) | (with_reducible refine Exists.intro _ (And.intro (eqB_int _ _) ?_)) | (with_reducible refine Exists.intro _ (And.intro (max2_nat _ _) ?_)) | (with_reducible refine Exists.intro _ (And.intro (eqB_str _ _) ?_)) | (with_reducible refine Exists.intro _ (And.intro (neB_str _ _) ?_)) | (with_reducible refine Exists.intro _ (And.intro (neI _ _) ?_)) | (with_reducible refine Exists.intro _ (And.intro (eqB_nil _ _ _) ?_)) | (with_reducible refine Exists.intro _ (And.intro (neB_natnil _ _ _) ?_)) | (with_reducible refine Exists.intro _ (And.intro (len_l _ _ _) ?_)) | (with_reducible refine Exists.intro _ (And.intro (len_0 _ _) ?_)) | (with_reducible refine Exists.intro _ (And.intro (isN_opt _) ?_)) | (with_reducible refine Exists.intro _ (And.intro (neB_bl _ _) ?_)) | (with_reducible refine Exists.intro _ (And.intro (eqB_bl _ _) ?_)) | (with_reducible refine Exists.intro _ (And.intro (isN_int _) ?_)) | (with_reducible refine Exists.intro _ (And.intro (notN_int _) ?_)) | (with_reducible refine Exists.intro _ (And.intro isN_non ?_)) | (with_reducible refine Exists.intro _ (And.intro notN_non ?_)) | (with_reducible refine Exists.intro _ (And.intro (notN_opt _) ?_)) | (with_reducible refine Exists.intro _ (And.intro (rev_l _ _ _) ?_)) | (with_reducible refine Exists.intro _ (And.intro it_f ?_)) | (with_reducible refine Exists.intro _ (And.intro en_f ?_)) | (with_reducible refine Exists.intro _ (And.intro (list_l _ _ _) ?_)) | (with_reducible refine Exists.intro _ (And.intro (repr_bl _) ?_)) | (with_reducible refine Exists.intro _ (And.intro (all_t0 _ _) ?_)) | (with_reducible refine Exists.intro _ (And.intro (dkF_kinds _ _ _) ?_)) | (with_reducible refine Exists.intro _ (And.intro (dkF_pairs _ _ _) ?_)) | (with_reducible refine Exists.intro _ (And.intro (eqB_ops _ _ _ _) ?_)) | (with_reducible refine Exists.intro _ (And.intro (neB_ops _ _ _ _) ?_)) | ((with_reducible refine' Exists.intro _ (And.intro (ix_l ?h1) ?_)); (case h1 => kcj_in)) | ((with_reducible refine' Exists.intro _ (And.intro (ix_two ?h1) ?_)); (case h1 => (with_reducible assumption))) | ((with_reducible refine' Exists.intro _ (And.intro (add_l ?h1) ?_)); (case h1 => kcj_in)) | ((with_reducible refine' Exists.intro _ (And.intro (cat_l ?h1) ?_)); (case h1 => kcj_in)) | ((with_reducible refine' Exists.intro _ (And.intro (add_1 ?h1) ?_)); (case h1 => kcj_in)) | ((with_reducible refine' Exists.intro _ (And.intro (sl_lo ?h1) ?_)); (case h1 => omega)) | ((with_reducible refine' Exists.intro _ (And.intro (sl_hi ?h1) ?_)); (case h1 => omega)) | ((with_reducible refine' Exists.intro _ (And.intro (sl_mid ?h1 ?h2) ?_)); (case h1 => omega); (case h2 => omega)) | ((with_reducible refine' Exists.intro _ (And.intro (rep_l ?h1) ?_)); (case h1 => kcj_in)) | ((with_reducible refine' Exists.intro _ (And.intro (app_l ?h1) ?_)); (case h1 => kcj_in)) | ((with_reducible refine' Exists.intro _ (And.intro (gAppend_of ?h1) ?_)); (case h1 => kcj_in)) | ((with_reducible refine' Exists.intro _ (And.intro (gPop_l ?h1 ?h2) ?_)); (case h1 => kcj_in); (case h2 => kcj_in)) | ((with_reducible refine' Exists.intro _ (And.intro (gPop_at ?h1 ?h2) ?_)); (case h1 => kcj_in); (case h2 => kcj_in)) | ((with_reducible refine' Exists.intro _ (And.intro (gSet_l ?h1) ?_)); (case h1 => kcj_in)) | ((with_reducible refine' Exists.intro _ (And.intro (gSet_at ?h1) ?_)); (case h1 => kcj_in)) | ((with_reducible refine' Exists.intro _ (And.intro (stO_nm ?h1 ?h2 ?h3) ?_)); (case h1 => exact rfl); (case h2 => exact rfl); (case h3 => kcj_in)) | ((with_reducible refine' Exists.intro _ (And.intro (mulD_l ?h1) ?_)); (case h1 => decide)) | ((with_reducible refine' Exists.intro _ (And.intro (mulD_r ?h1) ?_)); (case h1 => decide)) | ((with_reducible refine' Exists.intro _ (And.intro (modD_l ?h1) ?_)); (case h1 => decide)) | ((with_reducible refine' Exists.intro _ (And.intro (fdivD_l ?h1) ?_)); (case h1 => decide)) | ((with_reducible refine' And.intro (smallI_of ?h1) ?_); (case h1 => kcj_in)) | ((with_reducible refine' And.intro (szOk_of ?h1) ?_); (case h1 => kcj_in))); w_fin)
  | ((with_reducible refine lcb_end (fun _ => ?_) (fun _ => ?_)) <;> w_fin)
  | (with_reducible refine hold_mul ?_) | (with_reducible refine hold_mod ?_) | (with_reducible refine hold_fdiv ?_)
  | ((first | ((with_reducible refine' Exists.intro _ (And.intro ?h1 ?_)); (case h1 => exact rfl)) | ((with_reducible refine' And.intro ?h1 ?_); (case h1 => kcu_lt))); w_fin)
  | (with_reducible exact rfl)
  | (dsimp only [Option.isNone_none, Option.isNone_some, Option.isSome_some, Option.isSome_none, Bool.not_true, Bool.not_false, List.isEmpty_nil, List.isEmpty_cons, List.map_nil, List.map_cons]; w_fin)
  | skip)

theorem drawn_ok {many : Nat} (hm : many ≤ 1000) {s : Sto} (hb : BagS s) : WF f__law_drawn_links [.cel 0, .int (many : Int)] s fun d s' => BagS s' ∧ ∃ l : List (Option Nat), d = opD true l ∧ l.length = many ∧ ∀ o ∈ l, ∀ i, o = some i → i < many := by
  refine WF_of ?_
  unfold m__law_drawn_links
  show W _ [some (.cel 0), some (.int (many : Int)), none, none, none, none] _ _
  w_fin
  refine W_while (fun n e s' => BagS s' ∧ ∃ (l : List (Option Nat)) (left : List Nat) (x4 x5 : Option D), n = left.length ∧ l.length = many ∧ left.length ≤ 1000 ∧ (∀ o ∈ l, ∀ i, o = some i → i < many) ∧ (∀ i ∈ left, i < many) ∧
    e = [some (.cel 0), some (.int (many : Int)), some (opD true l), some (natD true left), x4, x5]) ?_ _ many _ _ (by omega) ⟨hb, _, _, _, _, List.length_range.symm, List.length_replicate, (by rw [List.length_range]; exact hm), fun o ho i h => (by rw [List.eq_of_mem_replicate ho] at h; cases h), fun i hi => List.mem_range.mp hi, rfl⟩
  rintro n e s' ⟨hb, l, left, x4, x5, rfl, hl, hle, ho, hi, rfl⟩
  w_fin
  refine Br_b (fun h1 => ?_) (fun _ => ?_)
  · have h1 := of_decide_eq_true h1
    w_fin
    refine Br_b (fun _ => ?_) (fun _ => ?_)
    · have h2 : 0 < left.length := by omega
      w_fin
      rename_i a s1 ha hb1
      rename_i k _ _ _
      have hk : k < left.length := by omega
      have hx : left[k] < many := hi _ (List.getElem_mem _)
      have ha' : a < (left.eraseIdx k).length := by omega
      have hy : (left.eraseIdx k)[a] < many := hi _ (List.mem_of_mem_eraseIdx (List.getElem_mem ha'))
      have hl2 : ((left.eraseIdx k).eraseIdx a).length + 2 = left.length := by
        rw [List.length_eraseIdx_of_lt ha', List.length_eraseIdx_of_lt hk]; rw [List.length_eraseIdx_of_lt hk] at ha'; omega
      have hi2 : ∀ i ∈ (left.eraseIdx k).eraseIdx a, i < many := fun i h => hi i (List.mem_of_mem_eraseIdx (List.mem_of_mem_eraseIdx h))
      generalize left[k] = x at *
      generalize (left.eraseIdx k)[a] = y at *
      generalize (left.eraseIdx k).eraseIdx a = left2 at *
      refine ⟨by rw [List.length_map]; omega, by rw [List.length_map]; omega, left2.length, by omega, hb1, Rn.lnk2 l x y, left2, _, _, rfl, by rw [Rn.lnk2_len]; exact hl, by omega, fun o h i e => ?_, hi2, by rw [lnk2_map]; rfl⟩
      subst e
      unfold Rn.lnk2 at h
      rcases List.mem_or_eq_of_mem_set h with h | h
      · rcases List.mem_or_eq_of_mem_set h with h | h
        · exact ho _ h i rfl
        · cases h; exact hy
      · cases h; exact hx
    · w_fin
      exact ho
  · w_fin
    exact ho
end Fw

set_option Elab.async false
set_option linter.all false
set_option maxRecDepth 100000
set_option maxHeartbeats 0
/-! what are_links and the law say of any thing -/
namespace Fw
open PySem PySem.Spec PyProof.Rows L2
local macro_rules | `(tactic| ktr_units) => `(tactic| first | exact okE_nil | ((with_reducible refine' okE_cons ?h1 ?h2); (case h1 => first | (with_reducible assumption) | exact okO_none | exact okO_cel | exact okO_some inferInstance); (case h2 => ktr_units)))
local macro_rules | `(tactic| ktr_room) => `(tactic| first | exact deref_self rfl | exact deref_pl _ _ _ | exact deref_noc (by kcu_lt) _ | exact deref_cel (by with_reducible assumption) rfl rfl)
local macro_rules | `(tactic| ktn_lt) => `(tactic| first | (with_reducible exact rfl) | ((with_reducible refine' ev_nm ?h1 ?h2); (case h1 => exact rfl); (case h2 => ktr_room)) | ((with_reducible refine' ev_ix ?h1 ?h2 ?h3); (case h1 => ktn_lt); (case h2 => ktn_lt); (case h3 => first | (with_reducible assumption) | (with_reducible exact ix_l (by kcj_in)) | exact rfl)) | exact rfl)
local macro_rules | `(tactic| kcj_m) => `(tactic| (try with_reducible refine WF_fz ?_))
local macro_rules | `(tactic| kcj_in) => `(tactic| first | (with_reducible assumption) | omega | ((dsimp only [List.getElem_cons_zero]); first | (with_reducible assumption) | omega) | ((try simp only [List.length_map, List.length_append, List.length_take, List.length_drop, List.length_range, List.length_cons, List.length_nil, List.length_replicate, List.length_reverse, List.length_set, List.length_singleton, List.length_eraseIdx, List.length_zipIdx, List.getElem_cons_zero, Rn.pair_len] at *); first | (with_reducible assumption) | omega | (split <;> omega)))
local macro_rules | `(tactic| kcu_lt) => `(tactic| first | ((show (_ : Bool) = true); exact rfl) | ((show (_ : Nat) = _); exact rfl) | (with_reducible assumption) | ((with_reducible show (_ : Nat) < List.length _); (with_reducible show OfNat.ofNat _ < List.length _); exact of_decide_eq_true rfl) | ((show (_ : Option (Str × Str × D)) = _); exact rfl) | ((show (_ : D) = _); exact rfl) | ((show (_ : DEnv) = _); exact rfl) | ((show (_ : Sto) = _); exact rfl) | ((show (_ : Option (Option D)) = _); exact rfl) | exact Nb.h | exact Nbs.h | exact Us.h | exact Uss.h | exact Pl.fr _ | exact Nc.h | (refine decide_eq_true ?_; kcj_in) | (refine smallI_of ?_; kcj_in) | kcj_in)
local macro_rules | `(tactic| kmk_sum) => `(tactic| (try dsimp only [List.set_cons_zero, List.set_cons_succ, placeSet, peek, deref, D.isN', List.getElem?_cons_zero, List.getElem?_cons_succ, List.getElem_cons_zero, Int.reduceToNat, Int.toNat_natCast, setAll, keepE, wipeE, Option.getD_some, Option.getD_none, List.map_cons, List.map_nil, List.length_cons, List.length_nil, Nat.zero_add, Nat.reduceAdd, List.cons_append, List.nil_append, Nat.reduceSub]))
local macro_rules | `(tactic| k_search $t) => `(tactic| ((refine Exists.intro _ (And.intro $t ?_)); w_fin))
local macro_rules | `(tactic| ktf_call $t) => `(tactic| (kcj_m; (first | refine WF_call $t ?_ | refine WF_call' $t ?_); (try (with_reducible refine' And.intro ?h0 (And.intro ?h1 ?_); (case h0 => exact rfl); (case h1 => kcu_lt))); w_fin))
local macro_rules | `(tactic| w_fin) => `(tactic| first
  | ((first | (with_reducible refine W_seq ?_) | ((with_reducible refine' W_iteL ?h1 ?_); (case h1 => exact rfl)) | (with_reducible refine W_ite ?_) | (with_reducible refine W_for ?_) | (with_reducible refine W_set ?_) | (with_reducible refine W_mLx ?_) | (with_reducible refine W_mLE ?_) | (with_reducible refine W_raise ?_) | (with_reducible refine W_ret ?_) | (with_reducible refine W_expr ?_) | (with_reducible refine W_bin ?_) | (with_reducible refine W_un ?_) | (with_reducible refine W_c ?_) | (with_reducible refine W_xx ?_) | (with_reducible refine W_xn ?_) | (with_reducible refine W_ox ?_) | (with_reducible refine W_nil ?_) | (with_reducible refine W_cons ?_) | (with_reducible refine W_lst ?_) | (with_reducible refine W_tup ?_) | (with_reducible refine W_ixx ?_) | (with_reducible refine W_ixn ?_) | (with_reducible refine W_p0 ?_) | (with_reducible refine W_p1 ?_) | (with_reducible refine W_slx ?_) | (with_reducible refine W_nix ?_) | (with_reducible refine W_and ?_) | (with_reducible refine W_or ?_) | (with_reducible refine W_not ?_) | (with_reducible refine W_tru ?_) | (with_reducible refine W_if ?_) | (with_reducible refine W_par ?_) | (with_reducible refine W_asg ?_) | (with_reducible refine W_rng1 ?_) | (with_reducible refine W_rng2 ?_) | ((with_reducible refine' W_storeIc ?h1 ?_); (case h1 => exact rfl)) | (with_reducible refine W_storeI ?_) | (with_reducible refine W_store2t ?_) | (with_reducible refine W_dnew ?_) | (with_reducible refine W_ps0 ?_) | (with_reducible refine W_ps1 ?_) | (with_reducible refine W_o0 ?_) | (with_reducible refine W_ox' ?_) | (with_reducible refine W_callP ?_) | (with_reducible refine W_altl ?_) | (with_reducible refine W_it ?_) | (with_reducible refine W_enum ?_) | (with_reducible refine W_enumK ?_) | (with_reducible refine W_LR1 ?_) | (with_reducible refine W_lc ?_) | (with_reducible refine W_cat ?_) | (with_reducible refine W_fn2 ?_) | ((with_reducible refine' W_cells2 ?h1 ?h2 ?h3 ?h4 ?h5 ?h6 ?h7 ?_); (case h1 => (with_reducible assumption)); (case h2 => exact rfl); (case h3 => exact rfl); (case h4 => decide); (case h5 => (kmk_sum; ktr_units)); (case h6 => exact inferInstance); (case h7 => exact inferInstance); (intro _ _); kmk_sum) | ((with_reducible refine' W_cell1 ?h1 ?h2 ?h3 ?h4 ?_); (case h1 => (with_reducible assumption)); (case h2 => exact rfl); (case h3 => (kmk_sum; ktr_units)); (case h4 => exact inferInstance); (intro _ _); kmk_sum) | ((with_reducible refine' W_tkn ?h1 ?_); (case h1 => exact rfl)) | ((with_reducible refine' W_call ?_)) | (with_reducible refine W_chain ?_) | ((with_reducible refine' W_sln ?h1 ?_); (case h1 => exact rfl)) | ((with_reducible refine' W_var ?h1 ?h2 ?_); (case h1 => exact rfl); (case h2 => exact rfl)) | ((with_reducible refine' W_mv ?h1 ?_); (case h1 => exact rfl)) | ((with_reducible refine' W_nx ?h1 ?_); (case h1 => exact rfl)) | ((with_reducible refine' W_nn' ?h1 ?h2 ?h3 ?h4 ?_); (case h1 => exact rfl); (case h2 => exact rfl); (case h3 => ktr_room); (case h4 => ktr_room)) | ((with_reducible refine' W_onl ?h1 ?h2 ?_); (case h1 => exact rfl); (case h2 => ktr_room)) | ((with_reducible refine' W_onp ?h1 ?_); (case h1 => exact rfl)) | ((with_reducible refine' W_ol ?h1 ?h2 ?_); (case h1 => ktn_lt); (case h2 => exact rfl)) | ((with_reducible refine' W_lk ?h1 ?h2 ?_); (case h1 => ktn_lt); (case h2 => kcu_lt)) | ((with_reducible refine' W_augI ?h1 ?_); (case h1 => exact rfl)) | ((with_reducible refine' W_aug ?h1 ?_); (case h1 => exact rfl)) | ((with_reducible refine' W_mtc ?h1 ?h2 ?h3 ?_); (case h1 => exact rfl); (case h2 => (with_reducible assumption)); (case h3 => exact rfl)) | ((with_reducible refine' W_mt ?h1 ?_); (case h1 => exact rfl)) | ((with_reducible refine' W_meth ?h1 ?h2 ?_); (case h1 => exact rfl); (case h2 => exact rfl)) | ((with_reducible refine' W_varF ?h1 ?h2 ?h3 ?_); (case h1 => exact rfl); (case h2 => exact inferInstance); (case h3 => exact inferInstance))
      ); w_fin)
  | ((first | (with_reducible refine Nx_nx ?_) | (with_reducible refine Lx_nx ?_) | (with_reducible refine Lx_bk ?_) | (with_reducible refine Lx_ct ?_) | ((with_reducible refine' Lx_rt ?h1 ?_); (case h1 => exact rfl)) | (with_reducible refine Sx_nx ?_) | (with_reducible refine Sx_rt ?_) | (with_reducible refine Xx_rt ?_) | (with_reducible refine Nx_rt ?_) | (with_reducible refine Nx_bk ?_) | (with_reducible refine Nx_ct ?_) | (with_reducible refine Br_t ?_) | (with_reducible refine Br_f ?_) | (with_reducible refine Br_nt ?_) | (with_reducible refine Br_same ?_) | (with_reducible refine Br_samet ?_) | (with_reducible refine Br_nf ?_) | (with_reducible refine W_skip ?_) | (with_reducible refine W_pass ?_) | (with_reducible refine W_break ?_) | (with_reducible refine W_cont ?_)); kmk_sum; w_fin)
  | ((with_reducible refine new_bag ?_); (intro _ _); w_fin)
  | ((with_reducible refine newB ?_); (intro _ _); kmk_sum; w_fin)
  | ((with_reducible refine' hasB ?h1 ?_); (case h1 => (with_reducible assumption)); w_fin)
  | ((with_reducible refine' has_bag ?h1 ?_); (case h1 => (with_reducible assumption)); (intro _ _ _ _); w_fin)
  | ((first | ((with_reducible refine' Exists.intro _ (And.intro ?h1 ?_)); (case h1 => (with_reducible assumption))) | ((with_reducible refine' Exists.intro _ (And.intro (look_of2 ?h1 ?h2) ?_)); (case h1 => exact rfl); (case h2 => ktr_room)) | (with_reducible refine Exists.intro _ (And.intro (eqB_int _ _) ?_)) | (with_reducible refine Exists.intro _ (And.intro (max2_nat _ _) ?_)) | (with_reducible refine Exists.intro _ (And.intro (eqB_str _ _) ?_)) | (with_reducible refine Exists.intro _ (And.intro (neB_str _ _) ?_)) | (with_reducible refine Exists.intro _ (And.intro (neI _ _) ?_)) | (with_reducible refine Exists.intro _ (And.intro (eqB_nil _ _ _) ?_)) | (with_reducible refine Exists.intro _ (And.intro (neB_natnil _ _ _) ?_)) | (with_reducible refine Exists.intro _ (And.intro (len_l _ _ _) ?_)) | (with_reducible refine Exists.intro _ (And.intro (len_0 _ _) ?_)) | (with_reducible refine Exists.intro _ (And.intro (isN_opt _) ?_)) | (with_reducible refine Exists.intro _ (And.intro (neB_bl _ _) ?_)) | (with_reducible refine Exists.intro _ (And.intro (eqB_bl _ _) ?_)) | (with_reducible refine Exists.intro _ (And.intro (isN_int _) ?_)) | (with_reducible refine Exists.intro _ (And.intro (notN_int _) ?_)) | (with_reducible refine Exists.intro _ (And.intro isN_non ?_)) | (with_reducible refine Exists.intro _ (And.intro notN_non ?_)) | (with_reducible refine Exists.intro _ (And.intro (notN_opt _) ?_)) | (with_reducible refine Exists.intro _ (And.intro (rev_l _ _ _) ?_)) | (with_reducible refine Exists.intro _ (And.intro it_f ?_)) | (with_reducible refine Exists.intro _ (And.intro en_f ?_)) | (with_reducible refine Exists.intro _ (And.intro (list_l _ _ _) ?_)) | (with_reducible refine Exists.intro _ (And.intro (repr_bl _) ?_)) | (with_reducible refine Exists.intro _ (And.intro (all_t0 _ _) ?_)) | (with_reducible refine Exists.intro _ (And.intro (dkF_kinds _ _ _) ?_)) | (with_reducible refine Exists.intro _ (And.intro (dkF_pairs _ _ _) ?_)) | (with_reducible refine Exists.intro _ (And.intro (eqB_ops _ _ _ _) ?_)) | (with_reducible refine Exists.intro _ (And.intro (neB_ops _ _ _ _) ?_)) | ((with_reducible refine' Exists.intro _ (And.intro (ix_l ?h1) ?_)); (case h1 => kcj_in)) | ((with_reducible refine' Exists.intro _ (And.intro (ix_two ?h1) ?_)); (case h1 => (with_reducible assumption))) | ((with_reducible refine' Exists.intro _ (And.intro (add_l ?h1) ?_)); (case h1 => kcj_in)) | ((with_reducible refine' Exists.intro _ (And.intro (cat_l ?h1) ?_)); (case h1 => kcj_in)) | ((with_reducible refine' Exists.intro _ (And.intro (add_1 ?h1) ?_)); (case h1 => kcj_in)) | ((with_reducible refine' Exists.intro _ (And.intro (sl_lo ?h1) ?_)); (case h1 => omega)) | ((with_reducible refine' Exists.intro _ (And.intro (sl_hi ?h1) ?_)); (case h1 => omega)) | ((with_reducible refine' Exists.intro _ (And.intro (sl_mid ?h1 ?h2) ?_)); (case h1 => omega); (case h2 => omega)) | ((with_reducible refine' Exists.intro _ (And.intro (rep_l ?h1) ?_)); (case h1 => kcj_in)) | ((with_reducible refine' Exists.intro _ (And.intro (app_l ?h1) ?_)); (case h1 => kcj_in)) | ((with_reducible refine' Exists.intro _ (And.intro (gAppend_of ?h1) ?_)); (case h1 => kcj_in)) | ((with_reducible refine' Exists.intro _ (And.intro (gPop_l ?h1 ?h2) ?_)); (case h1 => kcj_in); (case h2 => kcj_in)) | ((with_reducible refine' Exists.intro _ (And.intro (gPop_at ?h1 ?h2) ?_)); (case h1 => kcj_in); (case h2 => kcj_in)) | ((with_reducible refine' Exists.intro _ (And.intro (gSet_l ?h1) ?_)); (case h1 => kcj_in)) | ((with_reducible refine' Exists.intro _ (And.intro (gSet_at ?h1) ?_)); (case h1 => kcj_in)) | ((with_reducible refine' Exists.intro _ (And.intro (stO_nm ?h1 ?h2 ?h3) ?_)); (case h1 => exact rfl); (case h2 => exact rfl); (case h3 => kcj_in)) | ((with_reducible refine' Exists.intro _ (And.intro (mulD_l ?h1) ?_)); (case h1 => decide)) | ((with_reducible refine' Exists.intro _ (And.intro (mulD_r ?h1) ?_)); (case h1 => decide)) | ((with_reducible refine' Exists.intro _ (And.intro (modD_l ?h1) ?_)); (case h1 => decide)) | ((with_reducible refine' Exists.intro _ (And.intro (fdivD_l ?h1) ?_)); (case h1 => decide)) | ((with_reducible refine' And.intro (smallI_of ?h1) ?_); (case h1 => kcj_in)) | ((with_reducible refine' And.intro (szOk_of ?h1) ?_); (case h1 => kcj_in))); w_fin)
  | ((with_reducible refine lcb_end (fun _ => ?_) (fun _ => ?_)) <;> w_fin)
  | (with_reducible refine hold_mul ?_) | (with_reducible refine hold_mod ?_) | (with_reducible refine hold_fdiv ?_)
  | ((first | ((with_reducible refine' Exists.intro _ (And.intro ?h1 ?_)); (case h1 => exact rfl)) | ((with_reducible refine' And.intro ?h1 ?_); (case h1 => kcu_lt))); w_fin)
  | (with_reducible exact rfl)
  | (dsimp only [Option.isNone_none, Option.isNone_some, Option.isSome_some, Option.isSome_none, Bool.not_true, Bool.not_false, List.isEmpty_nil, List.isEmpty_cons, List.map_nil, List.map_cons]; w_fin)
  | skip)

/-- a number, and no truth value -/
def idx (m : Nat) : D → Bool
  | .int i => decide (0 ≤ i ∧ i < m)
  | _ => false
def okI (m : Nat) : D → Bool
  | .non => true
  | x => idx m x
def isIt : D → Bool
  | .int _ => true
  | _ => false
theorem isint_gen {x : D} {a b : Bool} (f : Frz x) (i1 : isiD "int" x = some (.bl a)) (i2 : isiD "bool" x = some (.bl b)) (s : Sto) : WF f_is_integer [x] s fun d s' => s' = s ∧ d = .bl (a && !b) := by
  have hn := f.noC
  haveI : Nb x := ⟨f.nob⟩
  haveI : Fz x x := ⟨f.fz⟩
  refine WF_of ?_
  unfold m_is_integer
  show W _ [some x] _ _
  w_fin
  cases a with
  | true =>
    refine Br_t ?_
    w_fin
    cases b <;> rfl
  | false =>
    refine Br_f ?_
    w_fin
    rfl
theorem isint_ok {ns : List Nat} {x : D} (h : Lv ns x) (s : Sto) : WF f_is_integer [x] s fun d s' => s' = s ∧ d = .bl (isIt x) := by
  have f := h.frz
  cases h with
  | non => exact isint_gen f rfl rfl s
  | bl _ b => exact isint_gen f (a := true) (b := true) rfl rfl s
  | int _ i _ => exact isint_gen f rfl rfl s
  | str _ z _ _ => exact isint_gen f (a := false) rfl rfl s
  | dic _ => exact isint_gen f (a := false) rfl rfl s
  | lst n ns xs _ _ => exact isint_gen f (a := false) rfl rfl s
  | tup n ns xs _ _ => exact isint_gen f (a := false) rfl rfl s
theorem isidx_ok {ns : List Nat} {x : D} (h : Lv ns x) (m : Nat) (s : Sto) : WF f_is_index [x, .int (m : Int)] s fun d s' => s' = s ∧ d = .bl (idx m x) := by
  have hn := h.frz.noC
  haveI : Nb x := ⟨h.frz.nob⟩
  haveI : Fz x x := ⟨h.frz.fz⟩
  refine WF_of ?_
  unfold m_is_index
  show W _ [some x, some (.int (m : Int))] _ _
  w_fin
  ktf_call (isint_ok h _)
  cases h with
  | int _ i hi =>
    refine Br_t ?_
    w_fin
    show if decide (0 ≤ i) = true then _ else _
    by_cases h0 : 0 ≤ i
    · rw [if_pos (decide_eq_true h0)]
      w_fin
      show D.bl (decide (i < (m : Int))) = .bl (decide (0 ≤ i ∧ i < (m : Int)))
      congr 1
      rw [decide_eq_decide]
      exact ⟨fun h => ⟨h0, h⟩, fun h => h.2⟩
    · rw [if_neg (fun h => h0 (of_decide_eq_true h))]
      refine ⟨rfl, ?_⟩
      show D.bl false = .bl (decide (0 ≤ i ∧ i < (m : Int)))
      rw [decide_eq_false (fun h => h0 h.1)]
  | _ =>
    refine Br_f ?_
    w_fin
    try rfl
/-- links of m newcomers -/
def LinksT (m : Nat) (t : D) : Prop := ∃ l : List (Option Nat), t = opD false l ∧ l.length = m ∧ Rn.Lk l
noncomputable def linkB (m : Nat) (t : D) : Bool := @decide (LinksT m t) (Classical.propDecidable _)
theorem linkB_t {m : Nat} {t : D} (h : LinksT m t) : linkB m t = true := @decide_eq_true _ (Classical.propDecidable _) h
theorem linkB_f {m : Nat} {t : D} (h : ¬ LinksT m t) : linkB m t = false := @decide_eq_false _ (Classical.propDecidable _) h
theorem opt_of : ∀ {m : Nat} {xs : List D}, xs.all (okI m) = true → ∃ l : List (Option Nat), xs = l.map optD ∧ ∀ o ∈ l, ∀ i, o = some i → i < m
  | _, [], _ => ⟨[], rfl, fun o h => by cases h⟩
  | m, x :: xs, h => by
    rw [List.all_cons, Bool.and_eq_true] at h
    obtain ⟨l, rfl, hl⟩ := opt_of h.2
    have hx : ∃ o : Option Nat, x = optD o ∧ ∀ i, o = some i → i < m := by
      have h1 := h.1
      cases x with
      | non => exact ⟨none, rfl, fun i e => by cases e⟩
      | int i =>
        have h1 := of_decide_eq_true h1
        exact ⟨some i.toNat, by rw [optD_some, Int.toNat_of_nonneg h1.1], fun j e => by cases e; omega⟩
      | _ => cases h1
    obtain ⟨o, rfl, ho⟩ := hx
    exact ⟨o :: l, rfl, fun q hq => (List.mem_cons.mp hq).elim (fun e => e ▸ ho) (hl q)⟩
theorem optD_inj : ∀ {x y : Option Nat}, optD x = optD y → x = y
  | none, none, _ => rfl
  | none, some b, h => by rw [optD_some] at h; cases h
  | some a, none, h => by rw [optD_some] at h; cases h
  | some a, some b, h => by
    rw [optD_some, optD_some] at h
    injection h with h
    exact congrArg some (Int.ofNat.inj h)
theorem mapD_inj : ∀ {a b : List (Option Nat)}, a.map optD = b.map optD → a = b
  | [], [], _ => rfl
  | [], _ :: _, h => by cases h
  | _ :: _, [], h => by cases h
  | x :: a, y :: b, h => by
    rw [List.map_cons, List.map_cons] at h
    injection h with h1 h2
    rw [optD_inj h1, mapD_inj h2]
theorem opD_inj {a b : List (Option Nat)} (h : opD false a = opD false b) : a = b := by
  injection h with _ h
  exact mapD_inj h
theorem islink_ok {l : List (Option Nat)} {i j : Nat} (hj : j < l.length) (s : Sto) : WF f__is_link [opD false l, .int (i : Int), .int (j : Int)] s fun d s' => s' = s ∧ d = .bl (decide (j ≠ i ∧ l[j]? = some (some i))) := by
  refine WF_of ?_
  unfold m__is_link
  show W _ [some (opD false l), some (.int (i : Int)), some (.int (j : Int))] _ _
  w_fin
  by_cases e : j = i
  · rw [decide_eq_true (show (j : Int) = i by omega)]
    refine Br_f ?_
    w_fin
    rw [decide_eq_false (fun h => h.1 e)]
  · rw [decide_eq_false (show ¬ (j : Int) = i by omega)]
    refine Br_t ?_
    w_fin
    refine ⟨_, eqB_opt l[j] (some i), ?_⟩
    w_fin
    congr 1
    rw [decide_eq_decide]
    rw [List.getElem?_eq_getElem hj]
    exact ⟨fun h => ⟨e, by rw [h]⟩, fun h => by have := h.2; injection this⟩
def isNo : D → Bool
  | .non => true
  | _ => false
theorem Lv.isN {ns : List Nat} {x : D} (h : Lv ns x) : isND x .non = some (.bl (isNo x)) := by cases h <;> rfl
theorem okI_no {m : Nat} {x : D} (h : isNo x = true) : okI m x = true := by cases x <;> first | rfl | cases h
theorem okI_nn {m : Nat} {x : D} (h : isNo x = false) : okI m x = idx m x := by cases x <;> first | rfl | cases h
theorem lcL_id {vs : List Nat} {bi : Bi} {t elt : Mo D} {xs : List D} {e : DEnv} {s : Sto} {Q : List D → DEnv → Sto → Prop} (w : W (lcL vs bi t elt (xs.map id)) e s Q) : W (lcL vs bi t elt xs) e s Q := by rw [List.map_id] at w; exact w
theorem isLst_f {ns : List Nat} {t : D} (h : Lv ns t) : (∃ xs, t = .lst false xs ∧ (∃ m, ∀ x ∈ xs, Lv m x)) ∨ (isiD "list" t = some (.bl false) ∧ ∀ xs, t ≠ .lst false xs) := by
  cases h with
  | lst n ns xs hl h => exact .inl ⟨xs, rfl, ns, h⟩
  | _ => exact .inr ⟨rfl, fun xs e => by cases e⟩
theorem not_lst {m : Nat} {t : D} (h : ∀ xs, t ≠ .lst false xs) : ¬ LinksT m t := fun ⟨l, e, _, _⟩ => h _ e
def lkP (l : List (Option Nat)) : Option Nat × Nat → Bool
  | (none, _) => true
  | (some j, i) => decide (j ≠ i ∧ l[j]? = some (some i))
theorem lkP_all (l : List (Option Nat)) : l.zipIdx.all (lkP l) = true ↔ Rn.Lk l := by
  rw [List.all_eq_true]
  constructor
  · intro h i j hij
    exact of_decide_eq_true (h (some j, i) (List.mem_zipIdx_iff_getElem?.mpr hij))
  · rintro h ⟨o, i⟩ hp
    have hp := List.mem_zipIdx_iff_getElem?.mp hp
    cases o with
    | none => rfl
    | some j => exact decide_eq_true (h i j hp)
theorem are_ok {ns : List Nat} {t : D} (h : Lv ns t) {row : List Str} (hr : row.length ≤ 5000) (s : Sto) : WF f_are_links [strD false row, t] s fun d s' => s' = s ∧ d = .bl (linkB row.length t) := by
  have hn := h.frz.noC
  haveI : Nb t := ⟨h.frz.nob⟩
  haveI : Fz t t := ⟨h.frz.fz⟩
  refine WF_of ?_
  unfold m_are_links
  show W _ [some (strD false row), some t, none, none] _ _
  rcases isLst_f h with ⟨xs, rfl, m, hx⟩ | ⟨h1, h2⟩
  · haveI : Nbs xs := ⟨nobs_of fun x hm => (hx x hm).frz.nob⟩
    w_fin
    refine Br_b (fun h1 => ?_) (fun h1 => ?_)
    · have hne : xs.length ≠ row.length := by intro e; rw [e] at h1; simp at h1
      w_fin
      rw [linkB_f]
      rintro ⟨l, e, e2, _⟩
      injection e with _ e
      exact hne (by rw [e, List.length_map]; exact e2)
    · have hlen : xs.length = row.length := by simp at h1; omega
      have hlx : xs.length ≤ 5000 := by omega
      w_fin
      refine lcL_id (lc_pu1 (fun x => .bl (okI row.length x)) ?_ ?_)
      · intro x hxm
        refine ⟨[some (strD false row), some (.lst false xs), some x, none], rfl, ?_⟩
        have hL := hx x hxm
        have hxn := hL.frz.noC
        haveI : Nb x := ⟨hL.frz.nob⟩
        haveI : Fz x x := ⟨hL.frz.fz⟩
        have hN := hL.isN
        w_fin
        cases hi : isNo x with
        | true =>
          refine Br_t ?_
          rw [okI_no hi]
          w_fin
        | false =>
          refine Br_f ?_
          w_fin
          ktf_call (isidx_ok hL _ _)
          rw [okI_nn hi]
          exact ⟨rfl, rfl, rfl⟩
      · w_fin
        k_search (all_l true (okI row.length) xs)
        refine Br_b (fun h2 => ?_) (fun h2 => ?_)
        · w_fin
          rw [linkB_f]
          rintro ⟨l, e, e2, e3⟩
          injection e with _ e
          have : xs.all (okI row.length) = true := by
            rw [List.all_eq_true, e]
            intro y hy
            obtain ⟨o, ho, rfl⟩ := List.mem_map.mp hy
            cases o with
            | none => rfl
            | some j =>
              obtain ⟨i, hi, hix⟩ := List.getElem_of_mem ho
              have hj := (List.getElem?_eq_some_iff.mp (e3 i j (by rw [List.getElem?_eq_getElem hi, hix])).2).1
              rw [optD_some]
              exact decide_eq_true (by omega)
          rw [this] at h2
          cases h2
        · have h2 : xs.all (okI row.length) = true := by simpa using h2
          obtain ⟨l, rfl, hlo⟩ := opt_of h2
          rw [List.length_map] at hlen hlx
          clear h1 h2
          w_fin
          refine lc_enum (fun p => .bl (lkP l p)) ?_ ?_
          · intro i x hix
            refine ⟨_, rfl, ?_⟩
            cases x with
            | none => w_fin
            | some j =>
              have hj : j < l.length := by have := hlo _ (List.mem_of_getElem? hix) j rfl; omega
              rw [optD_some]
              w_fin
              ktf_call (islink_ok hj _)
          · w_fin
            k_search (all_l true (lkP l) l.zipIdx)
            congr 1
            by_cases hk : Rn.Lk l
            · rw [linkB_t ⟨l, rfl, hlen, hk⟩, (lkP_all l).mpr hk]
            · rw [linkB_f (fun ⟨l', e, _, hk'⟩ => hk (opD_inj e ▸ hk'))]
              cases h : l.zipIdx.all (lkP l) with
              | false => rfl
              | true => exact absurd ((lkP_all l).mp h) hk
  · w_fin
    rw [linkB_f (not_lst h2)]
end Fw

set_option Elab.async false
set_option linter.all false
set_option maxRecDepth 100000
set_option maxHeartbeats 0
/-! the law's own look -/
namespace Fw
open PySem PySem.Spec PyProof.Rows L2
local macro_rules | `(tactic| ktr_units) => `(tactic| first | exact okE_nil | ((with_reducible refine' okE_cons ?h1 ?h2); (case h1 => first | (with_reducible assumption) | exact okO_none | exact okO_cel | exact okO_some inferInstance); (case h2 => ktr_units)))
local macro_rules | `(tactic| ktr_room) => `(tactic| first | exact deref_self rfl | exact deref_pl _ _ _ | exact deref_noc (by kcu_lt) _ | exact deref_cel (by with_reducible assumption) rfl rfl)
local macro_rules | `(tactic| ktn_lt) => `(tactic| first | (with_reducible exact rfl) | ((with_reducible refine' ev_nm ?h1 ?h2); (case h1 => exact rfl); (case h2 => ktr_room)) | ((with_reducible refine' ev_ix ?h1 ?h2 ?h3); (case h1 => ktn_lt); (case h2 => ktn_lt); (case h3 => first | (with_reducible assumption) | (with_reducible exact ix_l (by kcj_in)) | exact rfl)) | exact rfl)
local macro_rules | `(tactic| kcj_m) => `(tactic| (try with_reducible refine WF_fz ?_))
local macro_rules | `(tactic| kcj_in) => `(tactic| first | (with_reducible assumption) | omega | ((dsimp only [List.getElem_cons_zero]); first | (with_reducible assumption) | omega) | ((try simp only [List.length_map, List.length_append, List.length_take, List.length_drop, List.length_range, List.length_cons, List.length_nil, List.length_replicate, List.length_reverse, List.length_set, List.length_singleton, List.length_eraseIdx, List.length_zipIdx, List.getElem_cons_zero, Rn.pair_len] at *); first | (with_reducible assumption) | omega | (split <;> omega)))
local macro_rules | `(tactic| kcu_lt) => `(tactic| first | ((show (_ : Bool) = true); exact rfl) | ((show (_ : Nat) = _); exact rfl) | (with_reducible assumption) | ((with_reducible show (_ : Nat) < List.length _); (with_reducible show OfNat.ofNat _ < List.length _); exact of_decide_eq_true rfl) | ((show (_ : Option (Str × Str × D)) = _); exact rfl) | ((show (_ : D) = _); exact rfl) | ((show (_ : DEnv) = _); exact rfl) | ((show (_ : Sto) = _); exact rfl) | ((show (_ : Option (Option D)) = _); exact rfl) | exact Nb.h | exact Nbs.h | exact Us.h | exact Uss.h | exact Pl.fr _ | exact Nc.h | (refine decide_eq_true ?_; kcj_in) | (refine smallI_of ?_; kcj_in) | kcj_in)
local macro_rules | `(tactic| kmk_sum) => `(tactic| (try dsimp only [List.set_cons_zero, List.set_cons_succ, placeSet, peek, deref, D.isN', List.getElem?_cons_zero, List.getElem?_cons_succ, List.getElem_cons_zero, Int.reduceToNat, Int.toNat_natCast, setAll, keepE, wipeE, Option.getD_some, Option.getD_none, List.map_cons, List.map_nil, List.length_cons, List.length_nil, Nat.zero_add, Nat.reduceAdd, List.cons_append, List.nil_append, Nat.reduceSub]))
local macro_rules | `(tactic| k_search $t) => `(tactic| ((refine Exists.intro _ (And.intro $t ?_)); w_fin))
local macro_rules | `(tactic| ktf_call $t) => `(tactic| (kcj_m; (first | refine WF_call $t ?_ | refine WF_call' $t ?_); (try (with_reducible refine' And.intro ?h0 (And.intro ?h1 ?_); (case h0 => exact rfl); (case h1 => kcu_lt))); w_fin))
local macro_rules | `(tactic| w_fin) => `(tactic| first
  | ((first | (with_reducible refine W_seq ?_) | ((with_reducible refine' W_iteL ?h1 ?_); (case h1 => exact rfl)) | (with_reducible refine W_ite ?_) | (with_reducible refine W_for ?_) | (with_reducible refine W_set ?_) | (with_reducible refine W_mLx ?_) | (with_reducible refine W_mLE ?_) | (with_reducible refine W_raise ?_) | (with_reducible refine W_ret ?_) | (with_reducible refine W_expr ?_) | (with_reducible refine W_bin ?_) | (with_reducible refine W_un ?_) | (with_reducible refine W_c ?_) | (with_reducible refine W_xx ?_) | (with_reducible refine W_xn ?_) | (with_reducible refine W_ox ?_) | (with_reducible refine W_nil ?_) | (with_reducible refine W_cons ?_) | (with_reducible refine W_lst ?_) | (with_reducible refine W_tup ?_) | (with_reducible refine W_ixx ?_) | (with_reducible refine W_ixn ?_) | (with_reducible refine W_p0 ?_) | (with_reducible refine W_p1 ?_) | (with_reducible refine W_slx ?_) | (with_reducible refine W_nix ?_) | (with_reducible refine W_and ?_) | (with_reducible refine W_or ?_) | (with_reducible refine W_not ?_) | (with_reducible refine W_tru ?_) | (with_reducible refine W_if ?_) | (with_reducible refine W_par ?_) | (with_reducible refine W_asg ?_) | (with_reducible refine W_rng1 ?_) | (with_reducible refine W_rng2 ?_) | ((with_reducible refine' W_storeIc ?h1 ?_); (case h1 => exact rfl)) | (with_reducible refine W_storeI ?_) | (with_reducible refine W_store2t ?_) | (with_reducible refine W_dnew ?_) | (with_reducible refine W_ps0 ?_) | (with_reducible refine W_ps1 ?_) | (with_reducible refine W_o0 ?_) | (with_reducible refine W_ox' ?_) | (with_reducible refine W_callP ?_) | (with_reducible refine W_altl ?_) | (with_reducible refine W_it ?_) | (with_reducible refine W_enum ?_) | (with_reducible refine W_enumK ?_) | (with_reducible refine W_LR1 ?_) | (with_reducible refine W_lc ?_) | (with_reducible refine W_cat ?_) | (with_reducible refine W_fn2 ?_) | ((with_reducible refine' W_cells2 ?h1 ?h2 ?h3 ?h4 ?h5 ?h6 ?h7 ?_); (case h1 => (with_reducible assumption)); (case h2 => exact rfl); (case h3 => exact rfl); (case h4 => decide); (case h5 => (kmk_sum; ktr_units)); (case h6 => exact inferInstance); (case h7 => exact inferInstance); (intro _ _); kmk_sum) | ((with_reducible refine' W_cell1 ?h1 ?h2 ?h3 ?h4 ?_); (case h1 => (with_reducible assumption)); (case h2 => exact rfl); (case h3 => (kmk_sum; ktr_units)); (case h4 => exact inferInstance); (intro _ _); kmk_sum) | ((with_reducible refine' W_tkn ?h1 ?_); (case h1 => exact rfl)) | ((with_reducible refine' W_call ?_)) | (with_reducible refine W_chain ?_) | ((with_reducible refine' W_sln ?h1 ?_); (case h1 => exact rfl)) | ((with_reducible refine' W_var ?h1 ?h2 ?_); (case h1 => exact rfl); (case h2 => exact rfl)) | ((with_reducible refine' W_mv ?h1 ?_); (case h1 => exact rfl)) | ((with_reducible refine' W_nx ?h1 ?_); (case h1 => exact rfl)) | ((with_reducible refine' W_nn' ?h1 ?h2 ?h3 ?h4 ?_); (case h1 => exact rfl); (case h2 => exact rfl); (case h3 => ktr_room); (case h4 => ktr_room)) | ((with_reducible refine' W_onl ?h1 ?h2 ?_); (case h1 => exact rfl); (case h2 => ktr_room)) | ((with_reducible refine' W_onp ?h1 ?_); (case h1 => exact rfl)) | ((with_reducible refine' W_ol ?h1 ?h2 ?_); (case h1 => ktn_lt); (case h2 => exact rfl)) | ((with_reducible refine' W_lk ?h1 ?h2 ?_); (case h1 => ktn_lt); (case h2 => kcu_lt)) | ((with_reducible refine' W_augI ?h1 ?_); (case h1 => exact rfl)) | ((with_reducible refine' W_aug ?h1 ?_); (case h1 => exact rfl)) | ((with_reducible refine' W_mtc ?h1 ?h2 ?h3 ?_); (case h1 => exact rfl); (case h2 => (with_reducible assumption)); (case h3 => exact rfl)) | ((with_reducible refine' W_mt ?h1 ?_); (case h1 => exact rfl)) | ((with_reducible refine' W_meth ?h1 ?h2 ?_); (case h1 => exact rfl); (case h2 => exact rfl)) | ((with_reducible refine' W_varF ?h1 ?h2 ?h3 ?_); (case h1 => exact rfl); (case h2 => exact inferInstance); (case h3 => exact inferInstance))
      ); w_fin)
  | ((first | (with_reducible refine Nx_nx ?_) | (with_reducible refine Lx_nx ?_) | (with_reducible refine Lx_bk ?_) | (with_reducible refine Lx_ct ?_) | ((with_reducible refine' Lx_rt ?h1 ?_); (case h1 => exact rfl)) | (with_reducible refine Sx_nx ?_) | (with_reducible refine Sx_rt ?_) | (with_reducible refine Xx_rt ?_) | (with_reducible refine Nx_rt ?_) | (with_reducible refine Nx_bk ?_) | (with_reducible refine Nx_ct ?_) | (with_reducible refine Br_t ?_) | (with_reducible refine Br_f ?_) | (with_reducible refine Br_nt ?_) | (with_reducible refine Br_same ?_) | (with_reducible refine Br_samet ?_) | (with_reducible refine Br_nf ?_) | (with_reducible refine W_skip ?_) | (with_reducible refine W_pass ?_) | (with_reducible refine W_break ?_) | (with_reducible refine W_cont ?_)); kmk_sum; w_fin)
  | ((with_reducible refine new_bag ?_); (intro _ _); w_fin)
  | ((with_reducible refine newB ?_); (intro _ _); kmk_sum; w_fin)
  | ((with_reducible refine' hasB ?h1 ?_); (case h1 => (with_reducible assumption)); w_fin)
  | ((with_reducible refine' has_bag ?h1 ?_); (case h1 => (with_reducible assumption)); (intro _ _ _ _); w_fin)
  | ((first | ((with_reducible refine' Exists.intro _ (And.intro ?h1 ?_)); (case h1 => (with_reducible assumption))) | ((with_reducible refine' Exists.intro _ (And.intro (look_of2 ?h1 ?h2) ?_)); (case h1 => exact rfl); (case h2 => ktr_room)) | (with_reducible refine Exists.intro _ (And.intro (eqB_int _ _) ?_)) | (with_reducible refine Exists.intro _ (And.intro (max2_nat _ _) ?_)) | (with_reducible refine Exists.intro _ (And.intro (eqB_str _ _) ?_)) | (with_reducible refine Exists.intro _ (And.intro (neB_str _ _) ?_)) | (with_reducible refine Exists.intro _ (And.intro (neI _ _) ?_)) | (with_reducible refine Exists.intro _ (And.intro (eqB_nil _ _ _) ?_)) | (with_reducible refine Exists.intro _ (And.intro (neB_natnil _ _ _) ?_)) | (with_reducible refine Exists.intro _ (And.intro (len_l _ _ _) ?_)) | (with_reducible refine Exists.intro _ (And.intro (len_0 _ _) ?_)) | (with_reducible refine Exists.intro _ (And.intro (isN_opt _) ?_)) | (with_reducible refine Exists.intro _ (And.intro (neB_bl _ _) ?_)) | (with_reducible refine Exists.intro _ (And.intro (eqB_bl _ _) ?_)) | (with_reducible refine Exists.intro _ (And.intro (isN_int _) ?_)) | (with_reducible refine Exists.intro _ (And.intro (notN_int _) ?_)) | (with_reducible refine Exists.intro _ (And.intro isN_non ?_)) | (with_reducible refine Exists.intro _ (And.intro notN_non ?_)) | (with_reducible refine Exists.intro _ (And.intro (notN_opt _) ?_)) | (with_reducible refine Exists.intro _ (And.intro (rev_l _ _ _) ?_)) | (with_reducible refine Exists.intro _ (And.intro it_f ?_)) | (with_reducible refine Exists.intro _ (And.intro en_f ?_)) | (with_reducible refine Exists.intro _ (And.intro (list_l _ _ _) ?_)) | (with_reducible refine Exists.intro _ (And.intro (repr_bl _) ?_)) | (with_reducible refine Exists.intro _ (And.intro (all_t0 _ _) ?_)) | (with_reducible refine Exists.intro _ (And.intro (dkF_kinds _ _ _) ?_)) | (with_reducible refine Exists.intro _ (And.intro (dkF_pairs _ _ _) ?_)) | (with_reducible refine Exists.intro _ (And.intro (eqB_ops _ _ _ _) ?_)) | (with_reducible refine Exists.intro _ (And.intro (neB_ops _ _ _ _) ?_)) | ((with_reducible refine' Exists.intro _ (And.intro (ix_l ?h1) ?_)); (case h1 => kcj_in)) | ((with_reducible refine' Exists.intro _ (And.intro (ix_two ?h1) ?_)); (case h1 => (with_reducible assumption))) | ((with_reducible refine' Exists.intro _ (And.intro (add_l ?h1) ?_)); (case h1 => kcj_in)) | ((with_reducible refine' Exists.intro _ (And.intro (cat_l ?h1) ?_)); (case h1 => kcj_in)) | ((with_reducible refine' Exists.intro _ (And.intro (add_1 ?h1) ?_)); (case h1 => kcj_in)) | ((with_reducible refine' Exists.intro _ (And.intro (sl_lo ?h1) ?_)); (case h1 => omega)) | ((with_reducible refine' Exists.intro _ (And.intro (sl_hi ?h1) ?_)); (case h1 => omega)) | ((with_reducible refine' Exists.intro _ (And.intro (sl_mid ?h1 ?h2) ?_)); (case h1 => omega); (case h2 => omega)) | ((with_reducible refine' Exists.intro _ (And.intro (rep_l ?h1) ?_)); (case h1 => kcj_in)) | ((with_reducible refine' Exists.intro _ (And.intro (app_l ?h1) ?_)); (case h1 => kcj_in)) | ((with_reducible refine' Exists.intro _ (And.intro (gAppend_of ?h1) ?_)); (case h1 => kcj_in)) | ((with_reducible refine' Exists.intro _ (And.intro (gPop_l ?h1 ?h2) ?_)); (case h1 => kcj_in); (case h2 => kcj_in)) | ((with_reducible refine' Exists.intro _ (And.intro (gPop_at ?h1 ?h2) ?_)); (case h1 => kcj_in); (case h2 => kcj_in)) | ((with_reducible refine' Exists.intro _ (And.intro (gSet_l ?h1) ?_)); (case h1 => kcj_in)) | ((with_reducible refine' Exists.intro _ (And.intro (gSet_at ?h1) ?_)); (case h1 => kcj_in)) | ((with_reducible refine' Exists.intro _ (And.intro (stO_nm ?h1 ?h2 ?h3) ?_)); (case h1 => exact rfl); (case h2 => exact rfl); (case h3 => kcj_in)) | ((with_reducible refine' Exists.intro _ (And.intro (mulD_l ?h1) ?_)); (case h1 => decide)) | ((with_reducible refine' Exists.intro _ (And.intro (mulD_r ?h1) ?_)); (case h1 => decide)) | ((with_reducible refine' Exists.intro _ (And.intro (modD_l ?h1) ?_)); (case h1 => decide)) | ((with_reducible refine' Exists.intro _ (And.intro (fdivD_l ?h1) ?_)); (case h1 => decide)) | ((with_reducible refine' And.intro (smallI_of ?h1) ?_); (case h1 => kcj_in)) | ((with_reducible refine' And.intro (szOk_of ?h1) ?_); (case h1 => kcj_in))); w_fin)
  | ((with_reducible refine lcb_end (fun _ => ?_) (fun _ => ?_)) <;> w_fin)
  | (with_reducible refine hold_mul ?_) | (with_reducible refine hold_mod ?_) | (with_reducible refine hold_fdiv ?_)
  | ((first | ((with_reducible refine' Exists.intro _ (And.intro ?h1 ?_)); (case h1 => exact rfl)) | ((with_reducible refine' And.intro ?h1 ?_); (case h1 => kcu_lt))); w_fin)
  | (with_reducible exact rfl)
  | (dsimp only [Option.isNone_none, Option.isNone_some, Option.isSome_some, Option.isSome_none, Bool.not_true, Bool.not_false, List.isEmpty_nil, List.isEmpty_cons, List.map_nil, List.map_cons]; w_fin)
  | skip)

/-- an item that does -/
def Does (m : Nat) (xs : List D) (i : Nat) : Prop := ∃ x, xs[i]? = some x ∧ (x = .non ∨ ∃ j : Nat, x = .int (j : Int) ∧ j < m ∧ j ≠ i ∧ xs[j]? = some (.int (i : Int)))
theorem does_of {m : Nat} {xs : List D} : LinksT m (.lst false xs) → ∀ i, i < m → Does m xs i := by
  rintro ⟨l, e, rfl, h⟩ i hi
  injection e with _ e
  subst e
  refine ⟨optD l[i], by rw [List.getElem?_map, List.getElem?_eq_getElem hi]; rfl, ?_⟩
  cases hl : l[i] with
  | none => exact .inl rfl
  | some j =>
    obtain ⟨h1, h2⟩ := h i j (by rw [List.getElem?_eq_getElem hi, hl])
    exact .inr ⟨j, rfl, (List.getElem?_eq_some_iff.mp h2).1, h1, by rw [List.getElem?_map, h2]; rfl⟩
theorem of_does {m : Nat} {xs : List D} (hl : xs.length = m) (h : ∀ i, i < m → Does m xs i) : LinksT m (.lst false xs) := by
  have ha : xs.all (okI m) = true := by
    rw [List.all_eq_true]
    intro x hx
    obtain ⟨i, hi, rfl⟩ := List.getElem_of_mem hx
    obtain ⟨x, h1, h2⟩ := h i (by omega)
    rw [List.getElem?_eq_getElem hi] at h1
    cases h1
    rcases h2 with h2 | ⟨j, h2, h3, _⟩
    · rw [h2]; rfl
    · rw [h2]; exact decide_eq_true (by omega)
  obtain ⟨l, rfl, hlo⟩ := opt_of ha
  rw [List.length_map] at hl
  refine ⟨l, rfl, hl, fun i j hij => ?_⟩
  have hi : i < l.length := (List.getElem?_eq_some_iff.mp hij).1
  obtain ⟨x, h1, h2⟩ := h i (by omega)
  rw [List.getElem?_map, hij] at h1
  cases h1
  rcases h2 with h2 | ⟨k, h2, h3, h4, h5⟩
  · cases h2
  · injection h2 with h2
    have : j = k := Int.ofNat.inj h2
    subst this
    refine ⟨h4, ?_⟩
    rw [List.getElem?_map] at h5
    cases hq : l[j]? with
    | none => rw [hq] at h5; cases h5
    | some o =>
      rw [hq] at h5
      have h5 : optD o = optD (some i) := by injection h5
      rw [optD_inj h5]
def isBo : D → Bool
  | .bl _ => true
  | _ => false
theorem Lv.isB {ns : List Nat} {x : D} (h : Lv ns x) : isiD "bool" x = some (.bl (isBo x)) := by cases h <;> rfl
theorem Lv.isI {ns : List Nat} {x : D} (h : Lv ns x) : isiD "int" x = some (.bl (isIt x || isBo x)) := by cases h <;> rfl
theorem Lv.notN {ns : List Nat} {x : D} (h : Lv ns x) : notND x .non = some (.bl (!isNo x)) := by cases h <;> rfl
theorem neX_sq {y : D} {k : Int} {a : PyData → Bool} (h : ∀ b, neB y (.int k) = some b → b = .bl true) (h2 : neB y (.int k) = none → neX y (.int k) = some (.bl true)) : neX y (.int k) = some (.bl true) := by
  cases e : neB y (.int k) with
  | none => exact h2 e
  | some b =>
    unfold neX
    rw [e, h b e]
theorem neB_no {y : D} {k : Int} (h : ∀ a, y.pd = some a → PyData.eqv a (.int k) = false) (hs : ∀ z, y ≠ .str z) : ∀ b, neB y (.int k) = some b → b = .bl true := by
  intro b hb
  unfold neB eqD at hb
  cases e : y.pd with
  | none =>
    rw [e] at hb
    dsimp only at hb
    split at hb
    · rename_i z _ _ _; exact absurd rfl (hs _)
    · cases hb
  | some a =>
    rw [e] at hb
    have hk := h a e
    dsimp only [D.pd] at hb
    split at hb
    · rename_i b' hb'
      split at hb'
      · cases hb'
        cases hb
        rw [hk]; rfl
      · cases hb'
    · split at hb
      · exact absurd rfl (hs _)
      · cases hb
theorem neX_ok {ns : List Nat} {y : D} (h : Lv ns y) (hb : isBo y = false) (k : Int) : ∃ b, neX y (.int k) = some (.bl b) ∧ (b = false ↔ y = .int k) := by
  cases h with
  | non => exact ⟨true, rfl, ⟨fun h => (by cases h), fun h => (by cases h)⟩⟩
  | bl _ b => cases hb
  | int _ i _ => 
    refine ⟨!decide (i = k), ?_, ?_⟩
    · unfold neX
      rw [neI]
    · by_cases e : i = k
      · rw [e]; simp
      · simp [e]
  | str _ z hc _ => 
    refine ⟨true, ?_, ⟨fun h => (by cases h), fun h => (by cases h)⟩⟩
    have : eqD (.str z) (.int k) = some false := if_pos ⟨shaped_of (a := z) hc (by decide), rfl⟩
    unfold neX neB
    rw [this]
    rfl
  | dic _ => exact ⟨true, rfl, ⟨fun h => (by cases h), fun h => (by cases h)⟩⟩
  | lst n ns xs _ _ =>
    refine ⟨true, neX_sq (a := fun _ => true) (neB_no (fun a e => ?_) fun z e => by cases e) (fun e => by unfold neX; rw [e]), ⟨fun h => (by cases h), fun h => (by cases h)⟩⟩
    rw [D.pd] at e
    cases q : D.pds xs with
    | none => rw [q] at e; cases e
    | some as => rw [q] at e; cases e; rfl
  | tup n ns xs _ _ =>
    refine ⟨true, neX_sq (a := fun _ => true) (neB_no (fun a e => ?_) fun z e => by cases e) (fun e => by unfold neX; rw [e]), ⟨fun h => (by cases h), fun h => (by cases h)⟩⟩
    rw [D.pd] at e
    cases q : D.pds xs with
    | none => rw [q] at e; cases e
    | some as => rw [q] at e; cases e; rfl
theorem due_ok {ns : List Nat} {t : D} (h : Lv ns t) {m : Nat} (hm : m ≤ 5000) (s : Sto) : WF f__law_due [.int (m : Int), t] s fun d s' => s' = s ∧ d = .bl (linkB m t) := by
  have hn := h.frz.noC
  haveI : Nb t := ⟨h.frz.nob⟩
  haveI : Fz t t := ⟨h.frz.fz⟩
  refine WF_of ?_
  unfold m__law_due
  show W _ [some (.int (m : Int)), some t, none, none] _ _
  rcases isLst_f h with ⟨xs, rfl, k0, hx⟩ | ⟨h1, h2⟩
  · haveI : Nbs xs := ⟨nobs_of fun x hm => (hx x hm).frz.nob⟩
    w_fin
    refine Br_b (fun h1 => ?_) (fun h1 => ?_)
    · have h1 : (!((xs.length : Int) == (m : Int))) = true := h1
      have hne : xs.length ≠ m := by intro e; rw [e] at h1; simp at h1
      w_fin
      rw [linkB_f]
      rintro ⟨l, e, e2, _⟩
      injection e with _ e
      exact hne (by rw [e, List.length_map]; exact e2)
    · have h1 : (!((xs.length : Int) == (m : Int))) = false := h1
      have hlen : xs.length = m := by simp at h1; omega
      clear h1
      subst hlen
      w_fin
      rw [Int.toNat_natCast]
      refine forL_range (n := xs.length) (fun k e s' => s' = s ∧ (∀ i, i < k → Does xs.length xs i) ∧ ∃ x2 x3, e = [some (.int (xs.length : Int)), some (.lst false xs), x2, x3]) ?_ ?_ ⟨rfl, fun i h => absurd h (Nat.not_lt_zero _), _, _, rfl⟩
      · rintro k e s' hk ⟨rfl, hd, x2, x3, rfl⟩
        refine ⟨_, rfl, ?_⟩
        have hix : ixD (.lst false xs) (.int (k : Int)) = some xs[k] := ixD_at (List.getElem?_eq_getElem hk)
        have hL := hx _ (List.getElem_mem hk)
        have hxn := hL.frz.noC
        have hxf := hL.frz.fr
        haveI : Nb xs[k] := ⟨hL.frz.nob⟩
        haveI : Fz xs[k] xs[k] := ⟨hL.frz.fz⟩
        have hN := hL.notN
        have hB := hL.isB
        have hI := hL.isI
        have hgx : xs[k]? = some xs[k] := List.getElem?_eq_getElem hk
        have bad : ¬ Does xs.length xs k → linkB xs.length (.lst false xs) = false := fun h => linkB_f fun h2 => h (does_of h2 k hk)
        generalize hxk : xs[k] = x at *
        w_fin
        refine Br_b (fun n1 => ?_) (fun n1 => ?_)
        · have n1 : isNo x = false := by simpa using n1
          have ne : x ≠ .non := fun e => by rw [e] at n1; cases n1
          w_fin
          refine Br_b (fun b1 => ?_) (fun b1 => ?_)
          · w_fin
            rw [bad]
            rintro ⟨y, e, h⟩
            rw [hgx] at e
            cases e
            rcases h with h | ⟨j, h, _⟩
            · exact ne h
            · rw [h] at b1; cases b1
          · w_fin
            refine Br_b (fun b2 => ?_) (fun b2 => ?_)
            · w_fin
              rw [bad]
              rintro ⟨y, e, h⟩
              rw [hgx] at e
              cases e
              rcases h with h | ⟨j, h, _⟩
              · exact ne h
              · rw [h] at b2; cases b2
            · have hint : ∃ i : Int, x = .int i := by
                rw [b1, Bool.or_false] at b2
                cases x with
                | int i => exact ⟨i, rfl⟩
                | _ => cases b2
              obtain ⟨i, rfl⟩ := hint
              clear b1 b2 hN hB hI n1 ne
              w_fin
              show if decide (0 ≤ i) = true then _ else _
              by_cases h0 : 0 ≤ i
              · rw [if_pos (decide_eq_true h0)]
                obtain ⟨j, rfl⟩ : ∃ j : Nat, i = (j : Int) := ⟨i.toNat, by omega⟩
                have got : ∀ {y : D}, xs[k]? = some y → (y = .non ∨ ∃ j : Nat, y = .int (j : Int) ∧ j < xs.length ∧ j ≠ k ∧ xs[j]? = some (.int (k : Int))) → j < xs.length ∧ j ≠ k ∧ xs[j]? = some (.int (k : Int)) := fun e h => by
                  rw [hgx] at e
                  cases e
                  rcases h with h | ⟨j', h, h2⟩
                  · cases h
                  · injection h with h
                    have : j = j' := Int.ofNat.inj h
                    subst this
                    exact h2
                w_fin
                refine Br_b (fun c1 => ?_) (fun c1 => ?_)
                · have hj : ¬ j < xs.length := by simpa using c1
                  w_fin
                  rw [bad]
                  rintro ⟨y, e, h⟩
                  exact hj (got e h).1
                · have hj : j < xs.length := by simpa using c1
                  w_fin
                  refine Br_b (fun c2 => ?_) (fun c2 => ?_)
                  · have hjk : j = k := by have := c2; simp at this; omega
                    w_fin
                    rw [bad]
                    rintro ⟨y, e, h⟩
                    exact (got e h).2.1 hjk
                  · have hjk : j ≠ k := by have := c2; simp at this; omega
                    have hjx : ixD (.lst false xs) (.int (j : Int)) = some xs[j] := ixD_at (List.getElem?_eq_getElem hj)
                    have hJ := hx _ (List.getElem_mem hj)
                    have hjn := hJ.frz.noC
                    have hjf := hJ.frz.fr
                    have hB := hJ.isB
                    have hgy : xs[j]? = some xs[j] := List.getElem?_eq_getElem hj
                    generalize hyj : xs[j] = y at *
                    w_fin
                    refine Br_b (fun c3 => ?_) (fun c3 => ?_)
                    · w_fin
                      rw [bad]
                      rintro ⟨z, e, h⟩
                      have h3 := (got e h).2.2
                      rw [hgy] at h3
                      cases h3
                      cases c3
                    · obtain ⟨b, hb1, hb2⟩ := neX_ok hJ c3 (k : Int)
                      w_fin
                      cases b with
                      | true =>
                        refine Br_t ?_
                        w_fin
                        rw [bad]
                        rintro ⟨z, e, h⟩
                        have h3 := (got e h).2.2
                        rw [hgy] at h3
                        have h3 : y = .int (k : Int) := by injection h3
                        cases hb2.mpr h3
                      | false =>
                        refine Br_f ?_
                        w_fin
                        refine ⟨fun i hi => ?_, _, _, rfl⟩
                        by_cases e : i = k
                        · subst e
                          exact ⟨_, hgx, .inr ⟨j, rfl, hj, hjk, by rw [hgy, hb2.mp rfl]⟩⟩
                        · exact hd i (by omega)
              · rw [if_neg (fun h => h0 (of_decide_eq_true h))]
                w_fin
                rw [bad]
                rintro ⟨y, e, h⟩
                rw [hgx] at e
                cases e
                rcases h with h | ⟨j', h, h2⟩
                · cases h
                · injection h with h
                  omega
        · have n1 : isNo x = true := by simpa using n1
          w_fin
          refine ⟨fun i hi => ?_, _, _, rfl⟩
          by_cases e : i = k
          · subst e
            exact ⟨x, hgx, .inl (by cases x <;> first | rfl | cases n1)⟩
          · exact hd i (by omega)
      · rintro e s' ⟨rfl, hd, x2, x3, rfl⟩
        w_fin
        rw [linkB_t (of_does rfl hd)]
  · w_fin
    rw [linkB_f (not_lst h2)]
end Fw

set_option Elab.async false
set_option linter.all false
set_option maxRecDepth 100000
set_option maxHeartbeats 0
namespace Fw
open PySem PySem.Spec PyProof.Rows L2
local macro_rules | `(tactic| ktr_units) => `(tactic| first | exact okE_nil | ((with_reducible refine' okE_cons ?h1 ?h2); (case h1 => first | (with_reducible assumption) | exact okO_none | exact okO_cel | exact okO_some inferInstance); (case h2 => ktr_units)))
local macro_rules | `(tactic| ktr_room) => `(tactic| first | exact deref_self rfl | exact deref_pl _ _ _ | exact deref_noc (by kcu_lt) _ | exact deref_cel (by with_reducible assumption) rfl rfl)
local macro_rules | `(tactic| ktn_lt) => `(tactic| first | (with_reducible exact rfl) | ((with_reducible refine' ev_nm ?h1 ?h2); (case h1 => exact rfl); (case h2 => ktr_room)) | ((with_reducible refine' ev_ix ?h1 ?h2 ?h3); (case h1 => ktn_lt); (case h2 => ktn_lt); (case h3 => first | (with_reducible assumption) | (with_reducible exact ix_l (by kcj_in)) | exact rfl)) | exact rfl)
local macro_rules | `(tactic| kcj_m) => `(tactic| (try with_reducible refine WF_fz ?_))
local macro_rules | `(tactic| kcj_in) => `(tactic| first | (with_reducible assumption) | omega | ((dsimp only [List.getElem_cons_zero]); first | (with_reducible assumption) | omega) | ((try simp only [List.length_map, List.length_append, List.length_take, List.length_drop, List.length_range, List.length_cons, List.length_nil, List.length_replicate, List.length_reverse, List.length_set, List.length_singleton, List.length_eraseIdx, List.length_zipIdx, List.getElem_cons_zero, Rn.pair_len] at *); first | (with_reducible assumption) | omega | (split <;> omega)))
local macro_rules | `(tactic| kcu_lt) => `(tactic| first | ((show (_ : Bool) = true); exact rfl) | ((show (_ : Nat) = _); exact rfl) | (with_reducible assumption) | ((with_reducible show (_ : Nat) < List.length _); (with_reducible show OfNat.ofNat _ < List.length _); exact of_decide_eq_true rfl) | ((show (_ : Option (Str × Str × D)) = _); exact rfl) | ((show (_ : D) = _); exact rfl) | ((show (_ : DEnv) = _); exact rfl) | ((show (_ : Sto) = _); exact rfl) | ((show (_ : Option (Option D)) = _); exact rfl) | exact Nb.h | exact Nbs.h | exact Us.h | exact Uss.h | exact Pl.fr _ | exact Nc.h | (refine decide_eq_true ?_; kcj_in) | (refine smallI_of ?_; kcj_in) | kcj_in)
local macro_rules | `(tactic| kmk_sum) => `(tactic| (try dsimp only [List.set_cons_zero, List.set_cons_succ, placeSet, peek, deref, D.isN', List.getElem?_cons_zero, List.getElem?_cons_succ, List.getElem_cons_zero, Int.reduceToNat, Int.toNat_natCast, setAll, keepE, wipeE, Option.getD_some, Option.getD_none, List.map_cons, List.map_nil, List.length_cons, List.length_nil, Nat.zero_add, Nat.reduceAdd, List.cons_append, List.nil_append, Nat.reduceSub]))
local macro_rules | `(tactic| k_search $t) => `(tactic| ((refine Exists.intro _ (And.intro $t ?_)); w_fin))
local macro_rules | `(tactic| ktf_call $t) => `(tactic| (kcj_m; (first | refine WF_call $t ?_ | refine WF_call' $t ?_); (try (with_reducible refine' And.intro ?h0 (And.intro ?h1 ?_); (case h0 => exact rfl); (case h1 => kcu_lt))); w_fin))
local macro_rules | `(tactic| w_fin) => `(tactic| first
  | ((first | (with_reducible refine W_seq ?_) | ((with_reducible refine' W_iteL ?h1 ?_); (case h1 => exact rfl)) | (with_reducible refine W_ite ?_) | (with_reducible refine W_for ?_) | (with_reducible refine W_set ?_) | (with_reducible refine W_mLx ?_) | (with_reducible refine W_mLE ?_) | (with_reducible refine W_raise ?_) | (with_reducible refine W_ret ?_) | (with_reducible refine W_expr ?_) | (with_reducible refine W_bin ?_) | (with_reducible refine W_un ?_) | (with_reducible refine W_c ?_) | (with_reducible refine W_xx ?_) | (with_reducible refine W_xn ?_) | (with_reducible refine W_ox ?_) | (with_reducible refine W_nil ?_) | (with_reducible refine W_cons ?_) | (with_reducible refine W_lst ?_) | (with_reducible refine W_tup ?_) | (with_reducible refine W_ixx ?_) | (with_reducible refine W_ixn ?_) | (with_reducible refine W_p0 ?_) | (with_reducible refine W_p1 ?_) | (with_reducible refine W_slx ?_) | (with_reducible refine W_nix ?_) | (with_reducible refine W_and ?_) | (with_reducible refine W_or ?_) | (with_reducible refine W_not ?_) | (with_reducible refine W_tru ?_) | (with_reducible refine W_if ?_) | (with_reducible refine W_par ?_) | (with_reducible refine W_asg ?_) | (with_reducible refine W_rng1 ?_) | (with_reducible refine W_rng2 ?_) | ((with_reducible refine' W_storeIc ?h1 ?_); (case h1 => exact rfl)) | (with_reducible refine W_storeI ?_) | (with_reducible refine W_store2t ?_) | (with_reducible refine W_dnew ?_) | (with_reducible refine W_ps0 ?_) | (with_reducible refine W_ps1 ?_) | (with_reducible refine W_o0 ?_) | (with_reducible refine W_ox' ?_) | (with_reducible refine W_callP ?_) | (with_reducible refine W_altl ?_) | (with_reducible refine W_it ?_) | (with_reducible refine W_enum ?_) | (with_reducible refine W_enumK ?_) | (with_reducible refine W_LR1 ?_) | (with_reducible refine W_lc ?_) | (with_reducible refine W_cat ?_) | (with_reducible refine W_fn2 ?_) | ((with_reducible refine' W_cells2 ?h1 ?h2 ?h3 ?h4 ?h5 ?h6 ?h7 ?_); (case h1 => (with_reducible assumption)); (case h2 => exact rfl); (case h3 => exact rfl); (case h4 => decide); (case h5 => (kmk_sum; ktr_units)); (case h6 => exact inferInstance); (case h7 => exact inferInstance); (intro _ _); kmk_sum) | ((with_reducible refine' W_cell1 ?h1 ?h2 ?h3 ?h4 ?_); (case h1 => (with_reducible assumption)); (case h2 => exact rfl); (case h3 => (kmk_sum; ktr_units)); (case h4 => exact inferInstance); (intro _ _); kmk_sum) | ((with_reducible refine' W_tkn ?h1 ?_); (case h1 => exact rfl)) | ((with_reducible refine' W_call ?_)) | (with_reducible refine W_chain ?_) | ((with_reducible refine' W_sln ?h1 ?_); (case h1 => exact rfl)) | ((with_reducible refine' W_var ?h1 ?h2 ?_); (case h1 => exact rfl); (case h2 => exact rfl)) | ((with_reducible refine' W_mv ?h1 ?_); (case h1 => exact rfl)) | ((with_reducible refine' W_nx ?h1 ?_); (case h1 => exact rfl)) | ((with_reducible refine' W_nn' ?h1 ?h2 ?h3 ?h4 ?_); (case h1 => exact rfl); (case h2 => exact rfl); (case h3 => ktr_room); (case h4 => ktr_room)) | ((with_reducible refine' W_onl ?h1 ?h2 ?_); (case h1 => exact rfl); (case h2 => ktr_room)) | ((with_reducible refine' W_onp ?h1 ?_); (case h1 => exact rfl)) | ((with_reducible refine' W_ol ?h1 ?h2 ?_); (case h1 => ktn_lt); (case h2 => exact rfl)) | ((with_reducible refine' W_lk ?h1 ?h2 ?_); (case h1 => ktn_lt); (case h2 => kcu_lt)) | ((with_reducible refine' W_augI ?h1 ?_); (case h1 => exact rfl)) | ((with_reducible refine' W_aug ?h1 ?_); (case h1 => exact rfl)) | ((with_reducible refine' W_mtc ?h1 ?h2 ?h3 ?_); (case h1 => exact rfl); (case h2 => (with_reducible assumption)); (case h3 => exact rfl)) | ((with_reducible refine' W_mt ?h1 ?_); (case h1 => exact rfl)) | ((with_reducible refine' W_meth ?h1 ?h2 ?_); (case h1 => exact rfl); (case h2 => exact rfl)) | ((with_reducible refine' W_varF ?h1 ?h2 ?h3 ?_); (case h1 => exact rfl); (case h2 => exact inferInstance); (case h3 => exact inferInstance))
      ); w_fin)
  | ((first | (with_reducible refine Nx_nx ?_) | (with_reducible refine Lx_nx ?_) | (with_reducible refine Lx_bk ?_) | (with_reducible refine Lx_ct ?_) | ((with_reducible refine' Lx_rt ?h1 ?_); (case h1 => exact rfl)) | (with_reducible refine Sx_nx ?_) | (with_reducible refine Sx_rt ?_) | (with_reducible refine Xx_rt ?_) | (with_reducible refine Nx_rt ?_) | (with_reducible refine Nx_bk ?_) | (with_reducible refine Nx_ct ?_) | (with_reducible refine Br_t ?_) | (with_reducible refine Br_f ?_) | (with_reducible refine Br_nt ?_) | (with_reducible refine Br_same ?_) | (with_reducible refine Br_samet ?_) | (with_reducible refine Br_nf ?_) | (with_reducible refine W_skip ?_) | (with_reducible refine W_pass ?_) | (with_reducible refine W_break ?_) | (with_reducible refine W_cont ?_)); kmk_sum; w_fin)
  | ((with_reducible refine new_bag ?_); (intro _ _); w_fin)
  | ((with_reducible refine newB ?_); (intro _ _); kmk_sum; w_fin)
  | ((with_reducible refine' hasB ?h1 ?_); (case h1 => (with_reducible assumption)); w_fin)
  | ((with_reducible refine' has_bag ?h1 ?_); (case h1 => (with_reducible assumption)); (intro _ _ _ _); w_fin)
  | ((first | ((with_reducible refine' Exists.intro _ (And.intro ?h1 ?_)); (case h1 => (with_reducible assumption))) | ((with_reducible refine' Exists.intro _ (And.intro (look_of2 ?h1 ?h2) ?_)); (case h1 => exact rfl); (case h2 => ktr_room)) | (with_reducible refine Exists.intro _ (And.intro (eqB_int _ _) ?_)) | (with_reducible refine Exists.intro _ (And.intro (max2_nat _ _) ?_)) | (with_reducible refine Exists.intro _ (And.intro (eqB_str _ _) ?_)) | (with_reducible refine Exists.intro _ (And.intro (neB_str _ _) ?_)) | (with_reducible refine Exists.intro _ (And.intro (neI _ _) ?_)) | (with_reducible refine Exists.intro _ (And.intro (eqB_nil _ _ _) ?_)) | (with_reducible refine Exists.intro _ (And.intro (neB_natnil _ _ _) ?_)) | (with_reducible refine Exists.intro _ (And.intro (len_l _ _ _) ?_)) | (with_reducible refine Exists.intro _ (And.intro (len_0 _ _) ?_)) | (with_reducible refine Exists.intro _ (And.intro (isN_opt _) ?_)) | (with_reducible refine Exists.intro _ (And.intro (neB_bl _ _) ?_)) | (with_reducible refine Exists.intro _ (And.intro (eqB_bl _ _) ?_)) | (with_reducible refine Exists.intro _ (And.intro (isN_int _) ?_)) | (with_reducible refine Exists.intro _ (And.intro (notN_int _) ?_)) | (with_reducible refine Exists.intro _ (And.intro isN_non ?_)) | (with_reducible refine Exists.intro _ (And.intro notN_non ?_)) | (with_reducible refine Exists.intro _ (And.intro (notN_opt _) ?_)) | (with_reducible refine Exists.intro _ (And.intro (rev_l _ _ _) ?_)) | (with_reducible refine Exists.intro _ (And.intro it_f ?_)) | (with_reducible refine Exists.intro _ (And.intro en_f ?_)) | (with_reducible refine Exists.intro _ (And.intro (list_l _ _ _) ?_)) | (with_reducible refine Exists.intro _ (And.intro (repr_bl _) ?_)) | (with_reducible refine Exists.intro _ (And.intro (all_t0 _ _) ?_)) | (with_reducible refine Exists.intro _ (And.intro (dkF_kinds _ _ _) ?_)) | (with_reducible refine Exists.intro _ (And.intro (dkF_pairs _ _ _) ?_)) | (with_reducible refine Exists.intro _ (And.intro (eqB_ops _ _ _ _) ?_)) | (with_reducible refine Exists.intro _ (And.intro (neB_ops _ _ _ _) ?_)) | ((with_reducible refine' Exists.intro _ (And.intro (ix_l ?h1) ?_)); (case h1 => kcj_in)) | ((with_reducible refine' Exists.intro _ (And.intro (ix_two ?h1) ?_)); (case h1 => (with_reducible assumption))) | ((with_reducible refine' Exists.intro _ (And.intro (add_l ?h1) ?_)); (case h1 => kcj_in)) | ((with_reducible refine' Exists.intro _ (And.intro (cat_l ?h1) ?_)); (case h1 => kcj_in)) | ((with_reducible refine' Exists.intro _ (And.intro (add_1 ?h1) ?_)); (case h1 => kcj_in)) | ((with_reducible refine' Exists.intro _ (And.intro (sl_lo ?h1) ?_)); (case h1 => omega)) | ((with_reducible refine' Exists.intro _ (And.intro (sl_hi ?h1) ?_)); (case h1 => omega)) | ((with_reducible refine' Exists.intro _ (And.intro (sl_mid ?h1 ?h2) ?_)); (case h1 => omega); (case h2 => omega)) | ((with_reducible refine' Exists.intro _ (And.intro (rep_l ?h1) ?_)); (case h1 => kcj_in)) | ((with_reducible refine' Exists.intro _ (And.intro (app_l ?h1) ?_)); (case h1 => kcj_in)) | ((with_reducible refine' Exists.intro _ (And.intro (gAppend_of ?h1) ?_)); (case h1 => kcj_in)) | ((with_reducible refine' Exists.intro _ (And.intro (gPop_l ?h1 ?h2) ?_)); (case h1 => kcj_in); (case h2 => kcj_in)) | ((with_reducible refine' Exists.intro _ (And.intro (gPop_at ?h1 ?h2) ?_)); (case h1 => kcj_in); (case h2 => kcj_in)) | ((with_reducible refine' Exists.intro _ (And.intro (gSet_l ?h1) ?_)); (case h1 => kcj_in)) | ((with_reducible refine' Exists.intro _ (And.intro (gSet_at ?h1) ?_)); (case h1 => kcj_in)) | ((with_reducible refine' Exists.intro _ (And.intro (stO_nm ?h1 ?h2 ?h3) ?_)); (case h1 => exact rfl); (case h2 => exact rfl); (case h3 => kcj_in)) | ((with_reducible refine' Exists.intro _ (And.intro (mulD_l ?h1) ?_)); (case h1 => decide)) | ((with_reducible refine' Exists.intro _ (And.intro (mulD_r ?h1) ?_)); (case h1 => decide)) | ((with_reducible refine' Exists.intro _ (And.intro (modD_l ?h1) ?_)); (case h1 => decide)) | ((with_reducible refine' Exists.intro _ (And.intro (fdivD_l ?h1) ?_)); (case h1 => decide)) | ((with_reducible refine' And.intro (smallI_of ?h1) ?_); (case h1 => kcj_in)) | ((with_reducible refine' And.intro (szOk_of ?h1) ?_); (case h1 => kcj_in))); w_fin)
  | ((with_reducible refine lcb_end (fun _ => ?_) (fun _ => ?_)) <;> w_fin)
  | (with_reducible refine hold_mul ?_) | (with_reducible refine hold_mod ?_) | (with_reducible refine hold_fdiv ?_)
  | ((first | ((with_reducible refine' Exists.intro _ (And.intro ?h1 ?_)); (case h1 => exact rfl)) | ((with_reducible refine' And.intro ?h1 ?_); (case h1 => kcu_lt))); w_fin)
  | (with_reducible exact rfl)
  | (dsimp only [Option.isNone_none, Option.isNone_some, Option.isSome_some, Option.isSome_none, Bool.not_true, Bool.not_false, List.isEmpty_nil, List.isEmpty_cons, List.map_nil, List.map_cons]; w_fin)
  | skip)

def bj : Nat → List Nat
  | 0 => [201]
  | j + 1 => bump (bj j)
theorem bj_ok (j : Nat) (h : j < 3) : (∀ n ∈ bj j, n ≤ 400) ∧ (bj j).length < 6 ∧ bb (bj j) ≤ 100000 ∧ (bj j).length + 1 ≤ 60 := by
  match j, h with
  | 0, _ => decide
  | 1, _ => decide
  | 2, _ => decide
theorem op_lv {l : List (Option Nat)} {n : Nat} (hl : l.length ≤ 201) (ho : ∀ o ∈ l, ∀ i, o = some i → i < n) (hn : n ≤ 1000) : Lv [201] (opD false l) := .lst 201 [] _ (by rw [List.length_map]; exact hl) fun x hx => by
  obtain ⟨o, h, rfl⟩ := List.mem_map.mp hx
  cases o with
  | none => exact .non _
  | some i =>
    have := ho _ h i rfl
    exact .int _ _ (Nat.lt_of_le_of_lt (by show ((i : Int)).natAbs ≤ 1000; omega) (by decide))
theorem are_nil (s : Sto) : WF f_are_links [.lst false [], .lst false []] s fun d s' => s' = s ∧ d = .bl true := by
  have h := are_ok (row := []) (Lv.lst 0 [] [] (Nat.le_refl _) fun x hx => by cases hx) (Nat.zero_le _) s
  have e : linkB ([] : List Str).length (.lst false []) = true := linkB_t ⟨[], rfl, rfl, fun i j h => by cases h⟩
  rw [e] at h
  exact h
theorem law_ok (ns : List Int) (hl : ns.length ≤ 63) : WF f_law [.scr ns] [] fun d _ => d = .bl true := by
  refine law_start hl fun s0 hb0 => ?_
  show W _ [some (.scr ns), some (.cel 0), none, none, none, none, none, none, none, none] _ _
  w_fin
  refine WF_fz ?_
  refine WF.imp (plan_ok hb0 (by decide)) ?_
  rintro _ s2 ⟨hb2, ks, ps, rfl, hp, _⟩
  w_fin
  rw [show (8 : Int).toNat = 8 from rfl]
  refine forL_range (n := 8) (fun k e s => BagS s ∧ ∃ o x3 x4 x5 x6 x7 x8 x9, e = [some (.scr ns), some (.cel 0), some (planD o ks ps), x3, x4, x5, x6, x7, x8, x9]) ?_ ?_ ⟨hb2, _, _, _, _, _, _, _, _, rfl⟩
  · rintro t e s ht ⟨hb, o, x3, x4, x5, x6, x7, x8, x9, rfl⟩
    refine ⟨_, rfl, ?_⟩
    w_fin
    rename_i n1 s1 hn1 hb1
    refine WF_fz ?_
    refine WF.imp (row_ok hp (by split <;> omega) hb1) ?_
    rintro _ s4 ⟨hb4, row, rfl, hr, hrl⟩
    have hrl : row.length ≤ 14 := by split at hrl <;> omega
    w_fin
    have hR0 : ∀ c : Bool, (∀ k ∈ (if c = true then List.take 200 (List.replicate 50 row).flatten else row), k ∈ ks) ∧ (if c = true then List.take 200 (List.replicate 50 row).flatten else row).length ≤ 200 := by
      intro c
      cases c with
      | true => exact ⟨sub_take (sub_mul hr _) _, by rw [if_pos rfl, List.length_take]; exact Nat.min_le_left _ _⟩
      | false => exact ⟨hr, by rw [if_neg (by decide)]; omega⟩
    refine Br_b (fun q1 => ?_) (fun q1 => ?_)
    all_goals
      w_fin
      k_search (mul_l ⟨by decide, by rw [show Int.toNat 50 = 50 from rfl]; omega, by decide⟩)
    all_goals
      first
      | (rename_i n5 s5 _ hb5
         have hRc := hR0 (decide ((n5 : Int) = 0))
         generalize (if decide ((n5 : Int) = 0) = true then List.take 200 (List.replicate 50 row).flatten else row) = R at hRc
         revert hb5 R)
      | (have hRc := hR0 false
         generalize (if false = true then List.take 200 (List.replicate 50 row).flatten else row) = R at hRc
         revert hb4 R)
    all_goals
      intro hbR R hRc
      have hRl := hRc.2
      have hRk := hRc.1
      ktf_call (lawrun_ok hp (ls := []) (row := R) sub_nil hRk (Nat.zero_le _) (by omega) _)
      refine WF_fz ?_
      refine WF.imp (drawn_ok (by omega) (by assumption)) ?_
      rintro _ s6 ⟨hb6, l1, rfl, ll1, lo1⟩
      w_fin
      rw [show ((R.length : Int) + 1) = ((R.length + 1 : Nat) : Int) from rfl]
      refine WF_fz ?_
      refine WF.imp (drawn_ok (by omega) (by assumption)) ?_
      rintro _ s7 ⟨hb7, l2, rfl, ll2, lo2⟩
      w_fin
      have dl : (Run ps [] R).2.length = R.length := by rw [Run_len]; exact Nat.zero_add _
      have dk : Rn.Lk (Run ps [] R).2 := Rn.run_lk _ _ _
      have hds : ∀ d ∈ [opD false (Run ps [] R).2, opD false l1, opD false l2], Lv [201] d := by
        intro d hd
        simp only [List.mem_cons, List.not_mem_nil, or_false] at hd
        rcases hd with rfl | rfl | rfl
        · exact op_lv (n := R.length) (by omega) (fun o ho i e => by
            subst e
            obtain ⟨k, hk, hkx⟩ := List.getElem_of_mem ho
            have := (List.getElem?_eq_some_iff.mp (dk k i (by rw [List.getElem?_eq_getElem hk, hkx])).2).1
            omega) (by omega)
        · exact op_lv (by omega) lo1 (by omega)
        · exact op_lv (by omega) lo2 (by omega)
      generalize [opD false (Run ps [] R).2, opD false l1, opD false l2] = ds at hds
      refine forL_at (fun k e s => BagS s ∧ ∃ x6 x7 x8 x9, e = [some (.scr ns), some (.cel 0), some (planD false ks ps), some (.int (t : Int)), some (strD true R), some (.lst false ds), x6, x7, x8, x9]) ?_ ?_ ⟨hb7, _, _, _, _, rfl⟩
      · rintro k e s d hd ⟨hb, x6, x7, x8, x9, rfl⟩
        have hL := hds d (List.mem_of_getElem? hd)
        refine ⟨_, rfl, ?_⟩
        w_fin
        rw [show (3 : Int).toNat = 3 from rfl]
        refine forL_range (n := 3) (fun j e s => BagS s ∧ ∃ th x7 x8 x9, Lv (bj j) th ∧ e = [some (.scr ns), some (.cel 0), some (planD false ks ps), some (.int (t : Int)), some (strD true R), some (.lst false ds), some th, x7, x8, x9]) ?_ ?_ ⟨hb, d, _, _, _, hL, rfl⟩
        · rintro j e s hj ⟨hb, th, x7, x8, x9, hT, rfl⟩
          obtain ⟨j1, j2, j3, j4⟩ := bj_ok j hj
          obtain ⟨P, hP⟩ := reprD_shw hT.shw j3 j4
          have hn := hT.frz.noC
          haveI : Nb th := ⟨hT.frz.nob⟩
          haveI : Fz th th := ⟨hT.frz.fz⟩
          refine ⟨_, rfl, ?_⟩
          w_fin
          ktf_call (are_ok hT (by omega) _)
          ktf_call (due_ok hT (by omega) _)
          k_search (neB_strs _ _ (lay_of hp hRk) (lay_of hp hRk))
          refine WF_fz ?_
          refine WF.imp (bent_ok _ _ hT j1 6 _ j2 (by assumption)) ?_
          rintro d2 s8 ⟨hb8, hT2⟩
          w_fin
          exact ⟨_, _, _, _, hT2, rfl⟩
        · rintro e s ⟨hb, th, x7, x8, x9, hT, rfl⟩
          w_fin
          exact ⟨_, _, _, _, rfl⟩
      · rintro e s ⟨hb, x6, x7, x8, x9, rfl⟩
        w_fin
        exact ⟨_, _, _, _, _, _, _, _, rfl⟩
  · rintro e s ⟨hb, o, x3, x4, x5, x6, x7, x8, x9, rfl⟩
    w_fin
    refine WF_fz ?_
    refine WF.imp (are_nil _) ?_
    rintro _ _ ⟨rfl, rfl⟩
    w_fin
    rw [decide_eq_true rfl]
end Fw

set_option Elab.async false
set_option linter.all false
set_option maxRecDepth 100000
namespace Fw
open PySem PySem.Spec PyProof.Rows L2
def topS (i : Nat) : Stmt := PySem.Challenge.pw_suitedpairs_k31_links_known.main.body.getD i (.Pass ⟨0, 0, 0, 0⟩)
section
variable {P : Program} {w : World} {K : PySem.W.Frag} {mg : Str → Option Value} {base : Heap} {cA : Str → Addr}
/-! is_integer -/
abbrev s_is_integer : Stmt := topS 1
theorem sc_is_integer : FnScope [(Str.ofString "thing")] [(Str.ofString "thing")] (defScope s_is_integer) := ⟨rfl, rfl, rfl, by decide +kernel, rfl, by decide +kernel, by decide +kernel⟩
theorem ok_is_integer {f : Addr} {fd : FuncData} (F : Fun K "is_integer" "is_integer" s_is_integer f fd) (z_isinstance : mg "isinstance" = none) (z_int : mg "int" = none) (z_bool : mg "bool" = none) : FnG P w K mg base CX0 1 f fd [(Str.ofString "thing")] (spD cA K 1 f_is_integer) :=
  fn_ok F sc_is_integer fun cdv A outer s H E hr hG => (by
    have hN := sc_is_integer.nd
    exact (pds_one (pds_ret (pd_and (pd_isi (by rfl) z_isinstance (by rfl) z_int (by boot_by_name) (po_nm 0)) (pd_one (pd_not (po_ex (pd_isi (by rfl) z_isinstance (by rfl) z_bool (by boot_by_name) (po_nm 0)))))))))
/-! _is_link -/
abbrev s__is_link : Stmt := topS 5
theorem sc__is_link : FnScope [(Str.ofString "links"), (Str.ofString "index"), (Str.ofString "other")] [(Str.ofString "links"), (Str.ofString "index"), (Str.ofString "other")] (defScope s__is_link) := ⟨rfl, rfl, rfl, by decide +kernel, rfl, by decide +kernel, by decide +kernel⟩
theorem ok__is_link {f : Addr} {fd : FuncData} (F : Fun K "_is_link" "_is_link" s__is_link f fd) : FnG P w K mg base CX0 1 f fd [(Str.ofString "links"), (Str.ofString "index"), (Str.ofString "other")] (spD cA K 3 f__is_link) :=
  fn_ok F sc__is_link fun cdv A outer s H E hr hG => (by
    have hN := sc__is_link.nd
    exact (pds_one (pds_ret (pd_and (pd_cmp (od_neB hr.u64) (po_nm 2) (po_nm 1) (by rfl)) (pd_one (pd_cmp (od_eqB hr.u64) (po_ex (pd_ix (po_nm 0) (po_nm 2))) (po_nm 1) (by rfl)))))))
/-! _law_bag -/
abbrev s__law_bag : Stmt := topS 7
theorem sc__law_bag : FnScope [(Str.ofString "_law_script"), (Str.ofString "_law_cell")] [(Str.ofString "_law_script")] (defScope s__law_bag) := ⟨rfl, rfl, rfl, by decide +kernel, rfl, by decide +kernel, by decide +kernel⟩
theorem ok__law_bag {f : Addr} {fd : FuncData} (F : Fun K "_law_bag" "_law_bag" s__law_bag f fd) (z_abs : mg "abs" = none) : FnG P w K mg base CX0 1 f fd [(Str.ofString "_law_script")] (spD cA K 1 f__law_bag) :=
  fn_ok F sc__law_bag fun cdv A outer s H E hr hG => (by
    have hN := sc__law_bag.nd
    exact (pds_one (pds_ret (pd_lst (pds_cons pd_int (pds_cons pd_int (pds_cons pd_int (pds_cons (pd_lc (by rfl) hN (pid_val (pd_sl (po_nm 0) .no (.so pd_int))) (blkOk_by (own := [((Str.ofString "_law_cell"), 1)]) (by rfl)) (fun _ _ _ _ _ => (pgd_name (by simp) hN (by rfl) (by first | exact .inl rfl | exact .inr rfl))) (fun _ _ _ _ _ => ptbs_nil) (fun _ _ _ _ _ => (pd_fn fd_abs (by rfl) z_abs (by boot_by_name) (po_nm 1)))) pds_nil))))))))
/-! _law_take -/
abbrev s__law_take : Stmt := topS 8
theorem sc__law_take : FnScope [(Str.ofString "_law_bag_here"), (Str.ofString "_law_many"), (Str.ofString "_law_cell"), (Str.ofString "_law_value"), (Str.ofString "_law_begin"), (Str.ofString "_law_second")] [(Str.ofString "_law_bag_here"), (Str.ofString "_law_many")] (defScope s__law_take) := ⟨rfl, rfl, rfl, by decide +kernel, rfl, by decide +kernel, by decide +kernel⟩
theorem ok__law_take {f : Addr} {fd : FuncData} (F : Fun K "_law_take" "_law_take" s__law_take f fd) (z_len : mg "len" = none) : FnG P w K mg base CX0 1 f fd [(Str.ofString "_law_bag_here"), (Str.ofString "_law_many")] (spD cA K 2 f__law_take) :=
  fn_ok F sc__law_take fun cdv A outer s H E hr hG => (by
    have hN := sc__law_take.nd
    exact (pds_seq (pds_if (pb_cmp (od_eqB hr.u64) (po_ex (pd_ix (po_nm 0) (po_ex pd_int))) (po_ex pd_int) (by rfl)) (pds_seq (pds_set hN (by rfl) (by first | exact .inl rfl | exact .inr rfl) pd_int)
  (pds_seq (pds_if (pb_cmp od_lt (po_ex (pd_ix (po_nm 0) (po_ex pd_int))) (po_ex (pd_fn fd_len (by rfl) z_len (by boot_by_name) (po_ex (pd_ix (po_nm 0) (po_ex pd_int))))) (by rfl)) (pds_one (pds_set hN (by rfl) (by first | exact .inl rfl | exact .inr rfl) (pd_lk (pl_ix (pl_ix (pl_nm 0) pl_int) (pl_ix (pl_nm 0) pl_int))))) pds_skip)
  (pds_seq (pds_augI (pe_var (by rfl) (by first | exact .inl rfl | exact .inr (.inl rfl) | exact .inr (.inr rfl))) (po_ex pd_int) pd_int id_add)
  (pds_seq (pds_if (pb_cmp od_ge (po_nm 2) (po_ex pd_int) (by rfl)) (pds_one (pds_storeI (pe_var (by rfl) (by first | exact .inl rfl | exact .inr (.inl rfl) | exact .inr (.inr rfl))) (po_ex pd_int) (pd_var 2))) pds_skip)
  (pds_one (pds_storeI (pe_var (by rfl) (by first | exact .inl rfl | exact .inr (.inl rfl) | exact .inr (.inr rfl))) (po_ex pd_int) (pd_op od_mod (po_ex (pd_op od_add (po_ex (pd_op od_add (po_ex (pd_op od_mul (po_ex (pd_ix (po_nm 0) (po_ex pd_int))) (po_ex pd_int))) (po_ex (pd_op od_mod (po_nm 2) (po_ex pd_int))))) (po_ex (pd_op od_mul (po_ex pd_int) (po_ex (pd_ix (po_nm 0) (po_ex pd_int))))))) (po_ex pd_int)))))))) pds_skip)
  (pds_seq (pds_if (pb_cmp od_gt (po_ex (pd_ix (po_nm 0) (po_ex pd_int))) (po_ex pd_int) (by rfl)) (pds_seq (pds_set hN (by rfl) (by first | exact .inl rfl | exact .inr rfl) (pd_op od_mod (po_ex (pd_ix (po_nm 0) (po_ex pd_int))) (po_nm 1)))
  (pds_seq (pds_storeI (pe_var (by rfl) (by first | exact .inl rfl | exact .inr (.inl rfl) | exact .inr (.inr rfl))) (po_ex pd_int) (pd_op od_fdiv (po_ex (pd_ix (po_nm 0) (po_ex pd_int))) (po_nm 1)))
  (pds_one (pds_ret (pd_mv 3))))) pds_skip)
  (pds_seq (pds_set hN (by rfl) (by first | exact .inl rfl | exact .inr rfl) (pd_op od_mod (po_ex (pd_op od_mul (po_ex (pd_op od_add (po_ex (pd_ix (po_nm 0) (po_ex pd_int))) (po_ex pd_int))) (po_ex pd_int))) (po_ex pd_int)))
  (pds_seq (pds_set hN (by rfl) (by first | exact .inl rfl | exact .inr rfl) (pd_op od_mod (po_ex (pd_op od_mul (po_ex (pd_op od_mod (po_ex (pd_op od_mul (po_nm 4) (po_nm 4))) (po_ex pd_int))) (po_ex pd_int))) (po_ex pd_int)))
  (pds_seq (pds_if (pb_cmp od_gt (po_nm 1) (po_ex pd_int) (by rfl)) (pds_one (pds_ret (pd_op od_mod (po_ex (pd_op od_add (po_ex (pd_op od_mul (po_nm 5) (po_ex pd_int))) (po_nm 4))) (po_nm 1)))) pds_skip)
  (pds_one (pds_ret (pd_op od_mod (po_ex (pd_op od_fdiv (po_nm 5) (po_ex pd_int))) (po_nm 1))))))))))
/-! _law_fit -/
abbrev s__law_fit : Stmt := topS 11
theorem sc__law_fit : FnScope [(Str.ofString "_law_plan_here"), (Str.ofString "_law_one"), (Str.ofString "_law_other")] [(Str.ofString "_law_plan_here"), (Str.ofString "_law_one"), (Str.ofString "_law_other")] (defScope s__law_fit) := ⟨rfl, rfl, rfl, by decide +kernel, rfl, by decide +kernel, by decide +kernel⟩
theorem ok__law_fit {f : Addr} {fd : FuncData} (F : Fun K "_law_fit" "_law_fit" s__law_fit f fd) : FnG P w K mg base CX0 1 f fd [(Str.ofString "_law_plan_here"), (Str.ofString "_law_one"), (Str.ofString "_law_other")] (spD cA K 3 f__law_fit) :=
  fn_ok F sc__law_fit fun cdv A outer s H E hr hG => (by
    have hN := sc__law_fit.nd
    exact (pds_one (pds_ret (pd_or (pd_cmp (od_inB hr.u65) (po_ex (pd_tup (pds_cons (pd_var 1) (pds_cons (pd_var 2) pds_nil)))) (po_ex (pd_dk hr.u1 (po_nm 0) (po_ex pd_str))) (by rfl)) (pd_one (pd_cmp (od_inB hr.u65) (po_ex (pd_tup (pds_cons (pd_var 2) (pds_cons (pd_var 1) pds_nil)))) (po_ex (pd_dk hr.u1 (po_nm 0) (po_ex pd_str))) (by rfl)))))))
/-! _law_due -/
abbrev s__law_due : Stmt := topS 17
theorem sc__law_due : FnScope [(Str.ofString "_law_many"), (Str.ofString "_law_thing"), (Str.ofString "_law_at"), (Str.ofString "_law_item")] [(Str.ofString "_law_many"), (Str.ofString "_law_thing")] (defScope s__law_due) := ⟨rfl, rfl, rfl, by decide +kernel, rfl, by decide +kernel, by decide +kernel⟩
theorem ok__law_due {f : Addr} {fd : FuncData} (F : Fun K "_law_due" "_law_due" s__law_due f fd) (z_isinstance : mg "isinstance" = none) (z_list : mg "list" = none) (z_len : mg "len" = none) (z_range : mg "range" = none) (z_bool : mg "bool" = none) (z_int : mg "int" = none) : FnG P w K mg base CX0 1 f fd [(Str.ofString "_law_many"), (Str.ofString "_law_thing")] (spD cA K 2 f__law_due) :=
  fn_ok F sc__law_due fun cdv A outer s H E hr hG => (by
    have hN := sc__law_due.nd
    exact (pds_seq (pds_if (pb_w (pw_or' (pb_not (pb_val (po_ex (pd_isi (by rfl) z_isinstance (by rfl) z_list (by boot_by_name) (po_nm 1))))) (pw_or1' (pb_cmp (od_neX hr.u64) (po_ex (pd_fn fd_len (by rfl) z_len (by boot_by_name) (po_nm 1))) (po_nm 0) (by rfl))))) (pds_one (pds_ret pd_bl)) pds_skip)
  (pds_seq (pds_for (sl := [2]) PassesOwn.never (by rfl) (pid_range1 (by rfl) z_range (pds_cons (pd_var 0) pds_nil)) (pgd_name (by simp) hN (by rfl) (by first | exact .inl rfl | exact .inr rfl)) (pds_seq (pds_set hN (by rfl) (by first | exact .inl rfl | exact .inr rfl) (pd_ix (po_nm 1) (po_nm 2)))
  (pds_one (pds_if (pb_cmp od_notN (po_nm 3) (po_ex pd_non) (by rfl)) (pds_seq (pds_if (pb_w (pw_or' (pb_val (po_ex (pd_isi (by rfl) z_isinstance (by rfl) z_bool (by boot_by_name) (po_nm 3)))) (pw_or' (pb_not (pb_val (po_ex (pd_isi (by rfl) z_isinstance (by rfl) z_int (by boot_by_name) (po_nm 3))))) (pw_or' (pb_not (pb_chain od_le od_lt pd_int (pd_var 3) (pd_var 0))) (pw_or1' (pb_cmp (od_eqB hr.u64) (po_nm 3) (po_nm 2) (by rfl))))))) (pds_one (pds_ret pd_bl)) pds_skip)
  (pds_one (pds_if (pb_w (pw_or' (pb_val (po_ex (pd_isi (by rfl) z_isinstance (by rfl) z_bool (by boot_by_name) (po_ex (pd_ix (po_nm 1) (po_nm 3)))))) (pw_or1' (pb_cmp (od_neX hr.u64) (po_ex (pd_ix (po_nm 1) (po_nm 3))) (po_nm 2) (by rfl))))) (pds_one (pds_ret pd_bl)) pds_skip))) pds_skip))))
  (pds_one (pds_ret pd_bl)))))
/-! is_index -/
abbrev s_is_index : Stmt := topS 2
theorem sc_is_index : FnScope [(Str.ofString "thing"), (Str.ofString "many")] [(Str.ofString "thing"), (Str.ofString "many")] (defScope s_is_index) := ⟨rfl, rfl, rfl, by decide +kernel, rfl, by decide +kernel, by decide +kernel⟩
theorem ok_is_index {f : Addr} {fd : FuncData} (F : Fun K "is_index" "is_index" s_is_index f fd) (g_is_integer : Fnc cA P w K mg base 1 "is_integer" 1 f_is_integer) : FnG P w K mg base CX0 2 f fd [(Str.ofString "thing"), (Str.ofString "many")] (spD cA K 2 f_is_index) :=
  fn_ok F sc_is_index fun cdv A outer s H E hr hG => (by
    have hN := sc_is_index.nd
    exact (pds_one (pds_ret (pd_and (pd_callP g_is_integer hr hG (by decide) (by rfl) (.cons (pa_nm 0) .nil)) (pd_one (pd_chain od_le od_lt pd_int (pd_var 0) (pd_var 1)))))))
/-! _law_names -/
abbrev s__law_names : Stmt := topS 9
theorem sc__law_names : FnScope [(Str.ofString "_law_bag_here"), (Str.ofString "_law_many"), (Str.ofString "_law_letters"), (Str.ofString "_law_way"), (Str.ofString "_law_turn"), (Str.ofString "_law_words"), (Str.ofString "_law_k"), (Str.ofString "_law_base"), (Str.ofString "_law_at")] [(Str.ofString "_law_bag_here"), (Str.ofString "_law_many")] (defScope s__law_names) := ⟨rfl, rfl, rfl, by decide +kernel, rfl, by decide +kernel, by decide +kernel⟩
theorem ok__law_names {f : Addr} {fd : FuncData} (F : Fun K "_law_names" "_law_names" s__law_names f fd) (g__law_take : Fnc cA P w K mg base 1 "_law_take" 2 f__law_take) (z_range : mg "range" = none) (z_len : mg "len" = none) : FnG P w K mg base CX0 2 f fd [(Str.ofString "_law_bag_here"), (Str.ofString "_law_many")] (spD cA K 2 f__law_names) :=
  fn_ok F sc__law_names fun cdv A outer s H E hr hG => (by
    have hN := sc__law_names.nd
    exact (pds_seq (pds_set hN (by rfl) (by first | exact .inl rfl | exact .inr rfl) pd_str)
  (pds_seq (pds_asg (sl := [3, 4]) (pd_tup (pds_cons (pd_call g__law_take hr hG (by decide) (by rfl) (pds_cons (pd_var 0) (pds_cons pd_int pds_nil))) (pds_cons (pd_call g__law_take hr hG (by decide) (by rfl) (pds_cons (pd_var 0) (pds_cons pd_int pds_nil))) pds_nil))) (pgd_tup (by rfl) (pgds_cons (pgd_name (by simp) hN (by rfl) (by first | exact .inl rfl | exact .inr rfl)) (pgds_cons (pgd_name (by simp) hN (by rfl) (by first | exact .inl rfl | exact .inr rfl)) pgds_nil))))
  (pds_seq (pds_if (pb_cmp (od_eqB hr.u64) (po_nm 3) (po_ex pd_int) (by rfl)) (pds_seq (pds_set hN (by rfl) (by first | exact .inl rfl | exact .inr rfl) (pd_lst (pds_cons pd_str (pds_cons pd_str (pds_cons pd_str (pds_cons pd_str (pds_cons pd_str (pds_cons pd_str (pds_cons pd_str (pds_cons pd_str pds_nil))))))))))
  (pds_one (pds_ret (pd_sl (po_ex (pd_op od_add (po_ex (pd_sl (po_nm 5) (.so (pd_op od_mod (po_nm 4) (po_ex pd_int))) .no)) (po_ex (pd_sl (po_nm 5) .no (.so (pd_op od_mod (po_nm 4) (po_ex pd_int))))))) .no (.so (pd_var 1)))))) pds_skip)
  (pds_seq (pds_if (pb_cmp (od_eqB hr.u64) (po_nm 3) (po_ex pd_int) (by rfl)) (pds_one (pds_ret (pd_lc (by rfl) hN (pid_range1 (by rfl) z_range (pds_cons (pd_var 1) pds_nil)) (blkOk_by (own := [((Str.ofString "_law_k"), 6)]) (by rfl)) (fun _ _ _ _ _ => (pgd_name (by simp) hN (by rfl) (by first | exact .inl rfl | exact .inr rfl))) (fun _ _ _ _ _ => ptbs_nil) (fun _ _ _ _ _ => (pd_alt (pd_ix (po_nm 2) (po_ex (pd_op od_mod (po_ex (pd_op od_add (po_nm 4) (po_ex (pd_op od_mul (po_ex pd_int) (po_nm 6))))) (po_ex pd_int)))) (pd_ix (po_ex (pd_var 2)) (po_ex (pd_op od_mod (po_ex (pd_op od_add (po_nm 4) (po_ex (pd_op od_mul (po_ex pd_int) (po_nm 6))))) (po_ex pd_int))))))))) pds_skip)
  (pds_seq (pds_if (pb_cmp (od_eqB hr.u64) (po_nm 3) (po_ex pd_int) (by rfl)) (pds_one (pds_ret (pd_lc (by rfl) hN (pid_range1 (by rfl) z_range (pds_cons (pd_var 1) pds_nil)) (blkOk_by (own := [((Str.ofString "_law_k"), 6)]) (by rfl)) (fun _ _ _ _ _ => (pgd_name (by simp) hN (by rfl) (by first | exact .inl rfl | exact .inr rfl))) (fun _ _ _ _ _ => ptbs_nil) (fun _ _ _ _ _ => (pd_op od_mul (po_ex (pd_alt (pd_ix (po_nm 2) (po_nm 4)) (pd_ix (po_ex (pd_var 2)) (po_nm 4)))) (po_ex (pd_op od_add (po_nm 6) (po_ex pd_int)))))))) pds_skip)
  (pds_seq (pds_set hN (by rfl) (by first | exact .inl rfl | exact .inr rfl) (pd_join (po_ex (pd_lc (by rfl) hN (pid_range1 (by rfl) z_range (pds_cons (pd_op od_add (po_ex pd_int) (po_ex (pd_call g__law_take hr hG (by decide) (by rfl) (pds_cons (pd_var 0) (pds_cons pd_int pds_nil))))) pds_nil)) (blkOk_by (own := [((Str.ofString "_law_k"), 6)]) (by rfl)) (fun _ _ _ _ _ => (pgd_name (by simp) hN (by rfl) (by first | exact .inl rfl | exact .inr rfl))) (fun _ _ _ _ _ => ptbs_nil) (fun _ _ _ _ _ => (pd_alt (pd_ix (po_nm 2) (po_ex (pd_call g__law_take hr hG (by decide) (by rfl) (pds_cons (pd_var 0) (pds_cons pd_int pds_nil))))) (pd_ix (po_ex (pd_var 2)) (po_ex (pd_call g__law_take hr hG (by decide) (by rfl) (pds_cons (pd_var 0) (pds_cons pd_int pds_nil)))))))))))
  (pds_seq (pds_set hN (by rfl) (by first | exact .inl rfl | exact .inr rfl) (pd_call g__law_take hr hG (by decide) (by rfl) (pds_cons (pd_var 0) (pds_cons (pd_fn fd_len (by rfl) z_len (by boot_by_name) (po_nm 7)) pds_nil))))
  (pds_one (pds_ret (pd_lc (by rfl) hN (pid_range1 (by rfl) z_range (pds_cons (pd_var 1) pds_nil)) (blkOk_by (own := [((Str.ofString "_law_k"), 6)]) (by rfl)) (fun _ _ _ _ _ => (pgd_name (by simp) hN (by rfl) (by first | exact .inl rfl | exact .inr rfl))) (fun _ _ _ _ _ => ptbs_nil) (fun _ _ _ _ _ => (pd_op od_add (po_ex (pd_op od_add (po_ex (pd_sl (po_nm 7) .no (.so (pd_var 8)))) (po_ex (pd_alt (pd_ix (po_nm 2) (po_ex (pd_op od_mod (po_ex (pd_op od_add (po_nm 4) (po_ex (pd_op od_mul (po_ex pd_int) (po_nm 6))))) (po_ex pd_int)))) (pd_ix (po_ex (pd_var 2)) (po_ex (pd_op od_mod (po_ex (pd_op od_add (po_nm 4) (po_ex (pd_op od_mul (po_ex pd_int) (po_nm 6))))) (po_ex pd_int)))))))) (po_ex (pd_sl (po_nm 7) (.so (pd_op od_add (po_nm 8) (po_ex pd_int))) .no)))))))))))))))
/-! _law_row -/
abbrev s__law_row : Stmt := topS 12
theorem sc__law_row : FnScope [(Str.ofString "_law_bag_here"), (Str.ofString "_law_plan_here"), (Str.ofString "_law_most"), (Str.ofString "_law_k")] [(Str.ofString "_law_bag_here"), (Str.ofString "_law_plan_here"), (Str.ofString "_law_most")] (defScope s__law_row) := ⟨rfl, rfl, rfl, by decide +kernel, rfl, by decide +kernel, by decide +kernel⟩
theorem ok__law_row {f : Addr} {fd : FuncData} (F : Fun K "_law_row" "_law_row" s__law_row f fd) (g__law_take : Fnc cA P w K mg base 1 "_law_take" 2 f__law_take) (z_range : mg "range" = none) (z_len : mg "len" = none) : FnG P w K mg base CX0 2 f fd [(Str.ofString "_law_bag_here"), (Str.ofString "_law_plan_here"), (Str.ofString "_law_most")] (spD cA K 3 f__law_row) :=
  fn_ok F sc__law_row fun cdv A outer s H E hr hG => (by
    have hN := sc__law_row.nd
    exact (pds_one (pds_ret (pd_lc (by rfl) hN (pid_range1 (by rfl) z_range (pds_cons (pd_call g__law_take hr hG (by decide) (by rfl) (pds_cons (pd_var 0) (pds_cons (pd_op od_add (po_nm 2) (po_ex pd_int)) pds_nil))) pds_nil)) (blkOk_by (own := [((Str.ofString "_law_k"), 3)]) (by rfl)) (fun _ _ _ _ _ => (pgd_name (by simp) hN (by rfl) (by first | exact .inl rfl | exact .inr rfl))) (fun _ _ _ _ _ => ptbs_nil) (fun _ _ _ _ _ => (pd_ix (po_ex (pd_dk hr.u1 (po_nm 1) (po_ex pd_str))) (po_ex (pd_call g__law_take hr hG (by decide) (by rfl) (pds_cons (pd_var 0) (pds_cons (pd_fn fd_len (by rfl) z_len (by boot_by_name) (po_ex (pd_dk hr.u1 (po_nm 1) (po_ex pd_str)))) pds_nil))))))))))
/-! _law_run -/
abbrev s__law_run : Stmt := topS 13
theorem sc__law_run : FnScope [(Str.ofString "_law_plan_here"), (Str.ofString "_law_line"), (Str.ofString "_law_row_here"), (Str.ofString "_law_there"), (Str.ofString "_law_mate_of"), (Str.ofString "_law_kind"), (Str.ofString "_law_number"), (Str.ofString "_law_places"), (Str.ofString "_law_earlier"), (Str.ofString "_law_k")] [(Str.ofString "_law_plan_here"), (Str.ofString "_law_line"), (Str.ofString "_law_row_here")] (defScope s__law_run) := ⟨rfl, rfl, rfl, by decide +kernel, rfl, by decide +kernel, by decide +kernel⟩
theorem ok__law_run {f : Addr} {fd : FuncData} (F : Fun K "_law_run" "_law_run" s__law_run f fd) (g__law_fit : Fnc cA P w K mg base 1 "_law_fit" 3 f__law_fit) (z_list : mg "list" = none) (z_enumerate : mg "enumerate" = none) (z_len : mg "len" = none) (z_range : mg "range" = none) : FnG P w K mg base CX0 2 f fd [(Str.ofString "_law_plan_here"), (Str.ofString "_law_line"), (Str.ofString "_law_row_here")] (spD cA K 3 f__law_run) :=
  fn_ok F sc__law_run fun cdv A outer s H E hr hG => (by
    have hN := sc__law_run.nd
    exact (pds_seq (pds_asg (sl := [3, 4]) (pd_tup (pds_cons (pd_listEn (by rfl) (by rfl) z_list (by rfl) z_enumerate (po_nm 1)) (pds_cons (pd_op od_mul (po_ex (pd_lst (pds_cons pd_non pds_nil))) (po_ex (pd_fn fd_len (by rfl) z_len (by boot_by_name) (po_nm 1)))) pds_nil))) (pgd_tup (by rfl) (pgds_cons (pgd_name (by simp) hN (by rfl) (by first | exact .inl rfl | exact .inr rfl)) (pgds_cons (pgd_name (by simp) hN (by rfl) (by first | exact .inl rfl | exact .inr rfl)) pgds_nil))))
  (pds_seq (pds_for (sl := [5]) PassesOwn.never (by rfl) (pid_val (pd_var 2)) (pgd_name (by simp) hN (by rfl) (by first | exact .inl rfl | exact .inr rfl)) (pds_seq (pds_set hN (by rfl) (by first | exact .inl rfl | exact .inr rfl) (pd_fn fd_len (by rfl) z_len (by boot_by_name) (po_nm 4)))
  (pds_seq (pds_expr (pd_mt PySem.F.slot_list_append PySem.F.type_list_append md_append (pe_var (by rfl) (by first | exact .inl rfl | exact .inr (.inl rfl) | exact .inr (.inr rfl))) (pds_cons pd_non pds_nil)))
  (pds_seq (pds_setLc (by rfl) hN (by rfl) (by rfl) (by rfl) (pid_range1 (by rfl) z_range (pds_cons (pd_fn fd_len (by rfl) z_len (by boot_by_name) (po_nm 3)) pds_nil)) (blkOk_by (own := [((Str.ofString "_law_k"), 9)]) (by rfl)) (fun _ _ _ _ _ => (pgd_name (by simp) hN (by rfl) (by first | exact .inl rfl | exact .inr rfl))) (fun _ _ _ _ _ => (ptbs_one (pb_val (po_ex (pd_callP g__law_fit hr hG (by decide) (by rfl) (.cons (pa_nm 0) (.cons (pa_lk (pl_ix (pl_ix (pl_nm 3) (pl_nm 9)) pl_int)) (.cons (pa_nm 5) .nil)))))))) (fun _ _ _ _ _ => (pd_var 9)))
  (pds_one (pds_if (pb_cmp (od_eqB hr.u64) (po_nm 7) (po_ex (pd_lst pds_nil)) (by rfl)) (pds_one (pds_expr (pd_mt PySem.F.slot_list_append PySem.F.type_list_append md_append (pe_var (by rfl) (by first | exact .inl rfl | exact .inr (.inl rfl) | exact .inr (.inr rfl))) (pds_cons (pd_tup (pds_cons (pd_var 6) (pds_cons (pd_var 5) pds_nil))) pds_nil)))) (pds_seq (pds_set hN (by rfl) (by first | exact .inl rfl | exact .inr rfl) (pd_ix (po_ex (pd_mt PySem.F.slot_list_pop PySem.F.type_list_pop md_pop (pe_var (by rfl) (by first | exact .inl rfl | exact .inr (.inl rfl) | exact .inr (.inr rfl))) (pds_cons (pd_alt (pd_ix (po_nm 7) (po_ex pd_int)) (pd_ix (po_ex (pd_var 7)) (po_ex pd_int))) pds_nil))) (po_ex pd_int)))
  (pds_one (pds_store2 (by rfl) (pe_var (by rfl) (by first | exact .inl rfl | exact .inr (.inl rfl) | exact .inr (.inr rfl))) (pe_var (by rfl) (by first | exact .inl rfl | exact .inr (.inl rfl) | exact .inr (.inr rfl))) (po_nm 8) (po_nm 6) (pd_tup (pds_cons (pd_var 6) (pds_cons (pd_var 8) pds_nil))))))))))))
  (pds_one (pds_ret (pd_tup (pds_cons (pd_mv 3) (pds_cons (pd_mv 4) pds_nil))))))))
/-! _law_odd -/
abbrev s__law_odd : Stmt := topS 14
theorem sc__law_odd : FnScope [(Str.ofString "_law_bag_here"), (Str.ofString "_law_some")] [(Str.ofString "_law_bag_here")] (defScope s__law_odd) := ⟨rfl, rfl, rfl, by decide +kernel, rfl, by decide +kernel, by decide +kernel⟩
theorem ok__law_odd {f : Addr} {fd : FuncData} (F : Fun K "_law_odd" "_law_odd" s__law_odd f fd) (g__law_take : Fnc cA P w K mg base 1 "_law_take" 2 f__law_take) : FnG P w K mg base CX0 2 f fd [(Str.ofString "_law_bag_here")] (spD cA K 1 f__law_odd) :=
  fn_ok F sc__law_odd fun cdv A outer s H E hr hG => (by
    have hN := sc__law_odd.nd
    exact (pds_seq (pds_set hN (by rfl) (by first | exact .inl rfl | exact .inr rfl) (pd_lst (pds_cons pd_non (pds_cons pd_bl (pds_cons pd_bl (pds_cons (pd_neg (po_ex pd_int)) (pds_cons pd_int (pds_cons pd_int (pds_cons pd_int (pds_cons (pd_op od_pow (po_ex pd_int) (po_ex pd_int)) (pds_cons pd_str (pds_cons pd_str (pds_cons pd_str (pds_cons pd_str (pds_cons (pd_tup pds_nil) (pds_cons (pd_lst pds_nil) (pds_cons pd_dnew (pds_cons (pd_lst (pds_cons pd_int pds_nil)) (pds_cons (pd_tup (pds_cons pd_int pds_nil)) (pds_cons (pd_lst (pds_cons pd_non pds_nil)) (pds_cons (pd_tup (pds_cons pd_str pds_nil)) pds_nil)))))))))))))))))))))
  (pds_one (pds_ret (pd_ix (po_ex (pd_var 1)) (po_ex (pd_call g__law_take hr hG (by decide) (by rfl) (pds_cons (pd_var 0) (pds_cons pd_int pds_nil)))))))))
/-! _law_drawn_links -/
abbrev s__law_drawn_links : Stmt := topS 16
theorem sc__law_drawn_links : FnScope [(Str.ofString "_law_bag_here"), (Str.ofString "_law_many"), (Str.ofString "_law_links"), (Str.ofString "_law_left"), (Str.ofString "_law_one"), (Str.ofString "_law_other")] [(Str.ofString "_law_bag_here"), (Str.ofString "_law_many")] (defScope s__law_drawn_links) := ⟨rfl, rfl, rfl, by decide +kernel, rfl, by decide +kernel, by decide +kernel⟩
theorem ok__law_drawn_links {f : Addr} {fd : FuncData} (F : Fun K "_law_drawn_links" "_law_drawn_links" s__law_drawn_links f fd) (g__law_take : Fnc cA P w K mg base 1 "_law_take" 2 f__law_take) (z_list : mg "list" = none) (z_range : mg "range" = none) (z_len : mg "len" = none) : FnG P w K mg base CX0 2 f fd [(Str.ofString "_law_bag_here"), (Str.ofString "_law_many")] (spD cA K 2 f__law_drawn_links) :=
  fn_ok F sc__law_drawn_links fun cdv A outer s H E hr hG => (by
    have hN := sc__law_drawn_links.nd
    exact (pds_seq (pds_par2 (by rfl) hN (by rfl) (by rfl) (by decide) (by rfl) (by rfl) (pds_cons (pd_op od_mul (po_ex (pd_lst (pds_cons pd_non pds_nil))) (po_nm 1)) (pds_cons (pd_listRg1 (by rfl) z_list (by rfl) z_range (pd_var 1) (by rfl)) pds_nil)) (by rfl))
  (pds_seq (pds_while 1000000 PassesOwn.never (pb_w (pw_and' (pb_cmp od_gt (po_ex (pd_fn fd_len (by rfl) z_len (by boot_by_name) (po_nm 3))) (po_ex pd_int) (by rfl)) (pw_and1' (pb_cmp od_gt (po_ex (pd_call g__law_take hr hG (by decide) (by rfl) (pds_cons (pd_var 0) (pds_cons pd_int pds_nil)))) (po_ex pd_int) (by rfl))))) (pds_seq (pds_set hN (by rfl) (by first | exact .inl rfl | exact .inr rfl) (pd_mt PySem.F.slot_list_pop PySem.F.type_list_pop md_pop (pe_var (by rfl) (by first | exact .inl rfl | exact .inr (.inl rfl) | exact .inr (.inr rfl))) (pds_cons (pd_call g__law_take hr hG (by decide) (by rfl) (pds_cons (pd_var 0) (pds_cons (pd_fn fd_len (by rfl) z_len (by boot_by_name) (po_nm 3)) pds_nil))) pds_nil)))
  (pds_seq (pds_set hN (by rfl) (by first | exact .inl rfl | exact .inr rfl) (pd_mt PySem.F.slot_list_pop PySem.F.type_list_pop md_pop (pe_var (by rfl) (by first | exact .inl rfl | exact .inr (.inl rfl) | exact .inr (.inr rfl))) (pds_cons (pd_call g__law_take hr hG (by decide) (by rfl) (pds_cons (pd_var 0) (pds_cons (pd_fn fd_len (by rfl) z_len (by boot_by_name) (po_nm 3)) pds_nil))) pds_nil)))
  (pds_one (pds_store2 (by rfl) (pe_var (by rfl) (by first | exact .inl rfl | exact .inr (.inl rfl) | exact .inr (.inr rfl))) (pe_var (by rfl) (by first | exact .inl rfl | exact .inr (.inl rfl) | exact .inr (.inr rfl))) (po_nm 4) (po_nm 5) (pd_tup (pds_cons (pd_var 5) (pds_cons (pd_var 4) pds_nil))))))))
  (pds_one (pds_ret (pd_mv 2))))))
/-! are_links -/
abbrev s_are_links : Stmt := topS 4
theorem sc_are_links : FnScope [(Str.ofString "row"), (Str.ofString "thing"), (Str.ofString "item"), (Str.ofString "index")] [(Str.ofString "row"), (Str.ofString "thing")] (defScope s_are_links) := ⟨rfl, rfl, rfl, by decide +kernel, rfl, by decide +kernel, by decide +kernel⟩
theorem ok_are_links {f : Addr} {fd : FuncData} (F : Fun K "are_links" "are_links" s_are_links f fd) (g_is_index : Fnc cA P w K mg base 2 "is_index" 2 f_is_index) (g__is_link : Fnc cA P w K mg base 1 "_is_link" 3 f__is_link) (z_isinstance : mg "isinstance" = none) (z_list : mg "list" = none) (z_len : mg "len" = none) (z_all : mg "all" = none) (z_enumerate : mg "enumerate" = none) : FnG P w K mg base CX0 3 f fd [(Str.ofString "row"), (Str.ofString "thing")] (spD cA K 2 f_are_links) :=
  fn_ok F sc_are_links fun cdv A outer s H E hr hG => (by
    have hN := sc_are_links.nd
    exact (pds_seq (pds_if (pb_w (pw_or' (pb_not (pb_val (po_ex (pd_isi (by rfl) z_isinstance (by rfl) z_list (by boot_by_name) (po_nm 1))))) (pw_or1' (pb_cmp (od_neB hr.u64) (po_ex (pd_fn fd_len (by rfl) z_len (by boot_by_name) (po_nm 1))) (po_ex (pd_fn fd_len (by rfl) z_len (by boot_by_name) (po_nm 0))) (by rfl))))) (pds_one (pds_ret pd_bl)) pds_skip)
  (pds_seq (pds_if (pb_not (pb_val (po_ex (pd_fn (fd_all (by rfl)) (by rfl) z_all (by boot_by_name) (po_ex (pd_lc (by rfl) hN (pid_val (pd_var 1)) (blkOk_by (own := [((Str.ofString "item"), 2)]) (by rfl)) (fun _ _ _ _ _ => (pgd_name (by simp) hN (by rfl) (by first | exact .inl rfl | exact .inr rfl))) (fun _ _ _ _ _ => ptbs_nil) (fun _ _ _ _ _ => (pd_or (pd_cmp od_isN (po_nm 2) (po_ex pd_non) (by rfl)) (pd_one (pd_callP g_is_index hr hG (by decide) (by rfl) (.cons (pa_nm 2) (.cons (pa_ex (pd_fn fd_len (by rfl) z_len (by boot_by_name) (po_nm 0))) .nil)))))))))))) (pds_one (pds_ret pd_bl)) pds_skip)
  (pds_one (pds_ret (pd_fn (fd_all (by rfl)) (by rfl) z_all (by boot_by_name) (po_ex (pd_lc (by rfl) hN (pid_enum (by rfl) z_enumerate (pd_var 1)) (blkOk_by (own := [((Str.ofString "item"), 2), ((Str.ofString "index"), 3)]) (by rfl)) (fun _ _ _ _ _ => (pgd_tup (by rfl) (pgds_cons (pgd_name (by simp) hN (by rfl) (by first | exact .inl rfl | exact .inr rfl)) (pgds_cons (pgd_name (by simp) hN (by rfl) (by first | exact .inl rfl | exact .inr rfl)) pgds_nil)))) (fun _ _ _ _ _ => ptbs_nil) (fun _ _ _ _ _ => (pd_or (pd_cmp od_isN (po_nm 2) (po_ex pd_non) (by rfl)) (pd_one (pd_callP g__is_link hr hG (by decide) (by rfl) (.cons (pa_nm 1) (.cons (pa_nm 3) (.cons (pa_nm 2) .nil)))))))))))))))
/-! _law_plan -/
abbrev s__law_plan : Stmt := topS 10
theorem sc__law_plan : FnScope [(Str.ofString "_law_bag_here"), (Str.ofString "_law_most"), (Str.ofString "_law_many"), (Str.ofString "_law_kinds"), (Str.ofString "_law_pairs"), (Str.ofString "_law_style"), (Str.ofString "_law_loops"), (Str.ofString "_law_k"), (Str.ofString "_law_j"), (Str.ofString "_law_near"), (Str.ofString "_law_odds"), (Str.ofString "_law_pair")] [(Str.ofString "_law_bag_here"), (Str.ofString "_law_most")] (defScope s__law_plan) := ⟨rfl, rfl, rfl, by decide +kernel, rfl, by decide +kernel, by decide +kernel⟩
theorem ok__law_plan {f : Addr} {fd : FuncData} (F : Fun K "_law_plan" "_law_plan" s__law_plan f fd) (g__law_take : Fnc cA P w K mg base 1 "_law_take" 2 f__law_take) (g__law_names : Fnc cA P w K mg base 2 "_law_names" 2 f__law_names) (z_min : mg "min" = none) (z_range : mg "range" = none) (z_int : mg "int" = none) (z_len : mg "len" = none) : FnG P w K mg base CX0 3 f fd [(Str.ofString "_law_bag_here"), (Str.ofString "_law_most")] (spD cA K 2 f__law_plan) :=
  fn_ok F sc__law_plan fun cdv A outer s H E hr hG => (by
    have hN := sc__law_plan.nd
    exact (pds_seq (pds_set hN (by rfl) (by first | exact .inl rfl | exact .inr rfl) (pd_op od_add (po_ex pd_int) (po_ex (pd_call g__law_take hr hG (by decide) (by rfl) (pds_cons (pd_var 0) (pds_cons (pd_ix (po_ex (pd_lst (pds_cons (pd_fns (fds_min (by rfl)) (by rfl) z_min (by boot_by_name) (pds_cons pd_int (pds_cons (pd_var 1) pds_nil))) (pds_cons (pd_var 1) pds_nil)))) (po_ex (pd_call g__law_take hr hG (by decide) (by rfl) (pds_cons (pd_var 0) (pds_cons pd_int pds_nil))))) pds_nil))))))
  (pds_seq (pds_par2 (by rfl) hN (by rfl) (by rfl) (by decide) (by rfl) (by rfl) (pds_cons (pd_call g__law_names hr hG (by decide) (by rfl) (pds_cons (pd_var 0) (pds_cons (pd_var 2) pds_nil))) (pds_cons (pd_lst pds_nil) pds_nil)) (by rfl))
  (pds_seq (pds_par2 (by rfl) hN (by rfl) (by rfl) (by decide) (by rfl) (by rfl) (pds_cons (pd_call g__law_take hr hG (by decide) (by rfl) (pds_cons (pd_var 0) (pds_cons pd_int pds_nil))) (pds_cons (pd_call g__law_take hr hG (by decide) (by rfl) (pds_cons (pd_var 0) (pds_cons pd_int pds_nil))) pds_nil)) (by rfl))
  (pds_seq (pds_for (sl := [7]) PassesOwn.never (by rfl) (pid_range1 (by rfl) z_range (pds_cons (pd_var 2) pds_nil)) (pgd_name (by simp) hN (by rfl) (by first | exact .inl rfl | exact .inr rfl)) (pds_one (pds_for (sl := [8]) PassesOwn.never (by rfl) (pid_range1 (by rfl) z_range (pds_cons (pd_op od_add (po_nm 7) (po_ex pd_int)) pds_nil)) (pgd_name (by simp) hN (by rfl) (by first | exact .inl rfl | exact .inr rfl)) (pds_seq (pds_set hN (by rfl) (by first | exact .inl rfl | exact .inr rfl) (pd_or (pd_cmp (od_eqB hr.u64) (po_ex (pd_op od_sub (po_nm 7) (po_nm 8))) (po_ex pd_int) (by rfl)) (pd_one (pd_and (pd_cmp (od_eqB hr.u64) (po_nm 5) (po_ex pd_int) (by rfl)) (pd_and (pd_cmp (od_eqB hr.u64) (po_nm 8) (po_ex pd_int) (by rfl)) (pd_one (pd_cmp (od_eqB hr.u64) (po_nm 7) (po_ex (pd_op od_sub (po_nm 2) (po_ex pd_int))) (by rfl))))))))
  (pds_seq (pds_set hN (by rfl) (by first | exact .inl rfl | exact .inr rfl) (pd_ix (po_ex (pd_lst (pds_cons (pd_op od_mul (po_ex pd_int) (po_ex (pd_ty fd_int (by rfl) z_int (by boot_by_name) (po_nm 9)))) (pds_cons (pd_op od_mul (po_ex pd_int) (po_ex (pd_ty fd_int (by rfl) z_int (by boot_by_name) (po_nm 9)))) (pds_cons pd_int (pds_cons pd_int (pds_cons pd_int (pds_cons pd_int pds_nil)))))))) (po_nm 5)))
  (pds_seq (pds_if (pb_cmp (od_eqB hr.u64) (po_nm 8) (po_nm 7) (by rfl)) (pds_one (pds_set hN (by rfl) (by first | exact .inl rfl | exact .inr rfl) (pd_ix (po_ex (pd_lst (pds_cons pd_int (pds_cons pd_int (pds_cons pd_int pds_nil))))) (po_nm 6)))) pds_skip)
  (pds_one (pds_if (pb_cmp od_lt (po_ex (pd_call g__law_take hr hG (by decide) (by rfl) (pds_cons (pd_var 0) (pds_cons pd_int pds_nil)))) (po_nm 10) (by rfl)) (pds_seq (pds_set hN (by rfl) (by first | exact .inl rfl | exact .inr rfl) (pd_ix (po_ex (pd_lst (pds_cons (pd_tup (pds_cons (pd_alt (pd_ix (po_nm 3) (po_nm 8)) (pd_ix (po_ex (pd_var 3)) (po_nm 8))) (pds_cons (pd_alt (pd_ix (po_nm 3) (po_nm 7)) (pd_ix (po_ex (pd_var 3)) (po_nm 7))) pds_nil))) (pds_cons (pd_tup (pds_cons (pd_alt (pd_ix (po_nm 3) (po_nm 7)) (pd_ix (po_ex (pd_var 3)) (po_nm 7))) (pds_cons (pd_alt (pd_ix (po_nm 3) (po_nm 8)) (pd_ix (po_ex (pd_var 3)) (po_nm 8))) pds_nil))) pds_nil)))) (po_ex (pd_call g__law_take hr hG (by decide) (by rfl) (pds_cons (pd_var 0) (pds_cons pd_int pds_nil))))))
  (pds_one (pds_expr (pd_mt PySem.F.slot_list_insert PySem.F.type_list_insert md_insert (pe_var (by rfl) (by first | exact .inl rfl | exact .inr (.inl rfl) | exact .inr (.inr rfl))) (pds_cons (pd_call g__law_take hr hG (by decide) (by rfl) (pds_cons (pd_var 0) (pds_cons (pd_op od_add (po_ex (pd_fn fd_len (by rfl) z_len (by boot_by_name) (po_nm 4))) (po_ex pd_int)) pds_nil))) (pds_cons (pd_var 11) pds_nil)))))) pds_skip))))))))
  (pds_one (pds_ret (pd_disp (.cons pe_str (pd_var 3) (.cons pe_str (pd_var 4) .nil)) (by decide)))))))))
/-! _law_bent -/
abbrev s__law_bent : Stmt := topS 15
theorem sc__law_bent : FnScope [(Str.ofString "_law_bag_here"), (Str.ofString "_law_thing"), (Str.ofString "_law_several"), (Str.ofString "_law_at"), (Str.ofString "_law_way")] [(Str.ofString "_law_bag_here"), (Str.ofString "_law_thing")] (defScope s__law_bent) := ⟨rfl, rfl, rfl, by decide +kernel, rfl, by decide +kernel, by decide +kernel⟩
theorem okr__law_bent {f : Addr} {fd : FuncData} (F : Fun K "_law_bent" "_law_bent" s__law_bent f fd) (mk : ∀ k m, FnG P w K mg base CX0 k f fd [(Str.ofString "_law_bag_here"), (Str.ofString "_law_thing")] (spD cA K 2 m) → Fnc cA P w K mg base k "_law_bent" 2 m) (g__law_take : Fnc cA P w K mg base 1 "_law_take" 2 f__law_take) (g__law_odd : Fnc cA P w K mg base 2 "_law_odd" 1 f__law_odd) (z_isinstance : mg "isinstance" = none) (z_list : mg "list" = none) (z_tuple : mg "tuple" = none) (z_len : mg "len" = none) (z_int : mg "int" = none) : ∀ j, FnG P w K mg base CX0 (2 + j) f fd [(Str.ofString "_law_bag_here"), (Str.ofString "_law_thing")] (spD cA K 2 (fr__law_bent j))
  | 0 => ⟨fun vs H Q E ⟨S, ca, st, A, ds, d, st', hl, _, _, _, r, _⟩ => by rw [r.length, hl]; rfl, fun A out s H ar us vs Q E _ _ _ _ _ h => by obtain ⟨S, ca, st, A, ds, d, st', hl, _, _, _, _, hm, _⟩ := h; exact absurd hm (by rw [fr__law_bent]; exact fun z => nomatch z)⟩
  | j + 1 => by
    have g_rec := mk _ _ (okr__law_bent F mk g__law_take g__law_odd z_isinstance z_list z_tuple z_len z_int j)
    exact fn_ok F sc__law_bent fun cdv A outer s H E hr hG => (by
      have hN := sc__law_bent.nd
      exact (pds_seq (pds_if (pb_w (pw_or' (pb_not (pb_val (po_ex (pd_isi2 (by rfl) z_isinstance (Nms.cons (Nm.blt (by rfl) z_list (by boot_by_name) (by decide) (by decide)) (Nms.cons (Nm.blt (by rfl) z_tuple (by boot_by_name) (by decide) (by decide)) Nms.nil (by rfl)) (by rfl)) (po_nm 1))))) (pw_or' (pb_cmp (od_inE hr.u65) (po_nm 1) (po_ex (pd_tup (pds_cons (pd_lst pds_nil) (pds_cons (pd_tup pds_nil) pds_nil)))) (by rfl)) (pw_or1' (pb_cmp (od_eqB hr.u64) (po_ex (pd_call g__law_take hr hG (by first | exact Nat.le_refl _ | exact Nat.le_trans (by decide) (Nat.le_add_right _ _)) (by rfl) (pds_cons (pd_var 0) (pds_cons pd_int pds_nil)))) (po_ex pd_int) (by rfl)))))) (pds_one (pds_ret (pd_call g__law_odd hr hG (by first | exact Nat.le_refl _ | exact Nat.le_trans (by decide) (Nat.le_add_right _ _)) (by rfl) (pds_cons (pd_var 0) pds_nil)))) pds_skip)
  (pds_seq (pds_par3 (by rfl) hN (by rfl) (by rfl) (by rfl) (by decide) (by decide) (by decide) (by rfl) (by rfl) (by rfl) (pds_cons (pd_ty fd_list (by rfl) z_list (by boot_by_name) (po_nm 1)) (pds_cons (pd_call g__law_take hr hG (by first | exact Nat.le_refl _ | exact Nat.le_trans (by decide) (Nat.le_add_right _ _)) (by rfl) (pds_cons (pd_var 0) (pds_cons (pd_fn fd_len (by rfl) z_len (by boot_by_name) (po_nm 1)) pds_nil))) (pds_cons (pd_call g__law_take hr hG (by first | exact Nat.le_refl _ | exact Nat.le_trans (by decide) (Nat.le_add_right _ _)) (by rfl) (pds_cons (pd_var 0) (pds_cons pd_int pds_nil))) pds_nil))) (by rfl))
  (pds_seq (pds_if (pb_cmp (od_eqB hr.u64) (po_nm 4) (po_ex pd_int) (by rfl)) (pds_one (pds_set hN (by rfl) (by first | exact .inl rfl | exact .inr rfl) (pd_op od_add (po_ex (pd_sl (po_nm 2) .no (.so (pd_var 3)))) (po_ex (pd_sl (po_nm 2) (.so (pd_op od_add (po_nm 3) (po_ex pd_int))) .no))))) (pds_one (pds_if (pb_cmp (od_eqB hr.u64) (po_nm 4) (po_ex pd_int) (by rfl)) (pds_one (pds_expr (pd_mt PySem.F.slot_list_insert PySem.F.type_list_insert md_insert (pe_var (by rfl) (by first | exact .inl rfl | exact .inr (.inl rfl) | exact .inr (.inr rfl))) (pds_cons (pd_var 3) (pds_cons (pd_alt (pd_ix (po_nm 2) (po_nm 3)) (pd_ix (po_ex (pd_var 2)) (po_nm 3))) pds_nil))))) (pds_one (pds_if (pb_cmp (od_eqB hr.u64) (po_nm 4) (po_ex pd_int) (by rfl)) (pds_one (pds_store2 (by rfl) (pe_var (by rfl) (by first | exact .inl rfl | exact .inr (.inl rfl) | exact .inr (.inr rfl))) (pe_var (by rfl) (by first | exact .inl rfl | exact .inr (.inl rfl) | exact .inr (.inr rfl))) (po_nm 3) (po_ex (pd_op od_sub (po_nm 3) (po_ex pd_int))) (pd_tup (pds_cons (pd_alt (pd_ix (po_nm 2) (po_ex (pd_op od_sub (po_nm 3) (po_ex pd_int)))) (pd_ix (po_ex (pd_var 2)) (po_ex (pd_op od_sub (po_nm 3) (po_ex pd_int))))) (pds_cons (pd_alt (pd_ix (po_nm 2) (po_nm 3)) (pd_ix (po_ex (pd_var 2)) (po_nm 3))) pds_nil))))) (pds_one (pds_if (pb_cmp (od_eqB hr.u64) (po_nm 4) (po_ex pd_int) (by rfl)) (pds_one (pds_expr (pd_mt PySem.F.slot_list_insert PySem.F.type_list_insert md_insert (pe_var (by rfl) (by first | exact .inl rfl | exact .inr (.inl rfl) | exact .inr (.inr rfl))) (pds_cons (pd_var 3) (pds_cons (pd_call g__law_odd hr hG (by first | exact Nat.le_refl _ | exact Nat.le_trans (by decide) (Nat.le_add_right _ _)) (by rfl) (pds_cons (pd_var 0) pds_nil)) pds_nil))))) (pds_one (pds_if (pb_cmp (od_eqB hr.u64) (po_nm 4) (po_ex pd_int) (by rfl)) (pds_one (pds_ret (pd_ix (po_ex (pd_lst (pds_cons (pd_ty fd_tuple (by rfl) z_tuple (by boot_by_name) (po_nm 2)) (pds_cons (pd_var 2) pds_nil)))) (po_ex (pd_ty fd_int (by rfl) z_int (by boot_by_name) (po_ex (pd_isi (by rfl) z_isinstance (by rfl) z_tuple (by boot_by_name) (po_nm 1)))))))) (pds_one (pds_if (pb_cmp (od_eqB hr.u64) (po_nm 4) (po_ex pd_int) (by rfl)) (pds_one (pds_storeI (pe_var (by rfl) (by first | exact .inl rfl | exact .inr (.inl rfl) | exact .inr (.inr rfl))) (po_nm 3) (pd_call g__law_odd hr hG (by first | exact Nat.le_refl _ | exact Nat.le_trans (by decide) (Nat.le_add_right _ _)) (by rfl) (pds_cons (pd_var 0) pds_nil)))) (pds_one (pds_storeI (pe_var (by rfl) (by first | exact .inl rfl | exact .inr (.inl rfl) | exact .inr (.inr rfl))) (po_nm 3) (pd_call g_rec hr hG (by first | exact Nat.le_refl _ | exact Nat.le_trans (by decide) (Nat.le_add_right _ _)) (by rfl) (pds_cons (pd_var 0) (pds_cons (pd_alt (pd_ix (po_nm 2) (po_nm 3)) (pd_ix (po_ex (pd_var 2)) (po_nm 3))) pds_nil))))))))))))))))
  (pds_one (pds_ret (pd_if (pb_val (po_ex (pd_isi (by rfl) z_isinstance (by rfl) z_tuple (by boot_by_name) (po_nm 1)))) (pd_ty fd_tuple (by rfl) z_tuple (by boot_by_name) (po_nm 2)) (pd_var 2))))))))
theorem ok__law_bent {f : Addr} {fd : FuncData} (F : Fun K "_law_bent" "_law_bent" s__law_bent f fd) (mk : ∀ k m, FnG P w K mg base CX0 k f fd [(Str.ofString "_law_bag_here"), (Str.ofString "_law_thing")] (spD cA K 2 m) → Fnc cA P w K mg base k "_law_bent" 2 m) (g__law_take : Fnc cA P w K mg base 1 "_law_take" 2 f__law_take) (g__law_odd : Fnc cA P w K mg base 2 "_law_odd" 1 f__law_odd) (z_isinstance : mg "isinstance" = none) (z_list : mg "list" = none) (z_tuple : mg "tuple" = none) (z_len : mg "len" = none) (z_int : mg "int" = none) : FnG P w K mg base CX0 8 f fd [(Str.ofString "_law_bag_here"), (Str.ofString "_law_thing")] (spD cA K 2 f__law_bent) := okr__law_bent F mk g__law_take g__law_odd z_isinstance z_list z_tuple z_len z_int 6
/-! law -/
abbrev s_law : Stmt := topS 18
theorem sc_law : FnScope [(Str.ofString "_law_script"), (Str.ofString "_law_bag_here"), (Str.ofString "_law_plan_here"), (Str.ofString "_law_turn"), (Str.ofString "_law_row_here"), (Str.ofString "_law_some"), (Str.ofString "_law_thing"), (Str.ofString "_law_spoil"), (Str.ofString "_law_shown"), (Str.ofString "_law_held")] [(Str.ofString "_law_script")] (defScope s_law) := ⟨rfl, rfl, rfl, by decide +kernel, rfl, by decide +kernel, by decide +kernel⟩
theorem ok_law {f : Addr} {fd : FuncData} (F : Fun K "law" "law" s_law f fd) (g__law_bag : Fnc cA P w K mg base 1 "_law_bag" 1 f__law_bag) (g__law_plan : Fnc cA P w K mg base 3 "_law_plan" 2 f__law_plan) (g__law_row : Fnc cA P w K mg base 2 "_law_row" 3 f__law_row) (g__law_take : Fnc cA P w K mg base 1 "_law_take" 2 f__law_take) (g__law_run : Fnc cA P w K mg base 2 "_law_run" 3 f__law_run) (g__law_drawn_links : Fnc cA P w K mg base 2 "_law_drawn_links" 2 f__law_drawn_links) (g_are_links : Fnc cA P w K mg base 3 "are_links" 2 f_are_links) (g__law_due : Fnc cA P w K mg base 1 "_law_due" 2 f__law_due) (g__law_bent : Fnc cA P w K mg base 8 "_law_bent" 2 f__law_bent) (z_range : mg "range" = none) (z_len : mg "len" = none) (z_repr : mg "repr" = none) (z_list : mg "list" = none) (sy : ∃ m, base.Ns sysModules m) : FnG P w K mg base CX0 9 f fd [(Str.ofString "_law_script")] (spD cA K 1 f_law) :=
  fn_ok F sc_law fun cdv A outer s H E hr hG => (by
    have hN := sc_law.nd
    exact (pds_seq (pds_setC hN (by rfl) (by first | exact .inl rfl | exact .inr rfl) (pd_callP g__law_bag hr hG (by decide) (by rfl) (.cons (pa_nm 0) .nil)))
  (pds_seq (pds_set hN (by rfl) (by first | exact .inl rfl | exact .inr rfl) (pd_call g__law_plan hr hG (by decide) (by rfl) (pds_cons (pd_var 1) (pds_cons pd_int pds_nil))))
  (pds_seq (pds_for (sl := [3]) PassesOwn.never (by rfl) (pid_range1 (by rfl) z_range (pds_cons pd_int pds_nil)) (pgd_name (by simp) hN (by rfl) (by first | exact .inl rfl | exact .inr rfl)) (pds_seq (pds_set hN (by rfl) (by first | exact .inl rfl | exact .inr rfl) (pd_call g__law_row hr hG (by decide) (by rfl) (pds_cons (pd_var 1) (pds_cons (pd_var 2) (pds_cons (pd_ix (po_ex (pd_lst (pds_cons pd_int (pds_cons pd_int pds_nil)))) (po_ex (pd_call g__law_take hr hG (by decide) (by rfl) (pds_cons (pd_var 1) (pds_cons pd_int pds_nil))))) pds_nil)))))
  (pds_seq (pds_if (pb_w (pw_and' (pb_cmp (od_eqB hr.u64) (po_nm 3) (po_ex pd_int) (by rfl)) (pw_and1' (pb_cmp (od_eqB hr.u64) (po_ex (pd_call g__law_take hr hG (by decide) (by rfl) (pds_cons (pd_var 1) (pds_cons pd_int pds_nil)))) (po_ex pd_int) (by rfl))))) (pds_one (pds_set hN (by rfl) (by first | exact .inl rfl | exact .inr rfl) (pd_sl (po_ex (pd_op od_mul (po_nm 4) (po_ex pd_int))) .no (.so pd_int)))) pds_skip)
  (pds_seq (pds_set hN (by rfl) (by first | exact .inl rfl | exact .inr rfl) (pd_lst (pds_cons (pd_ix (po_ex (pd_callP g__law_run hr hG (by decide) (by rfl) (.cons (pa_nm 2) (.cons (pa_ex (pd_lst pds_nil)) (.cons (pa_nm 4) .nil))))) (po_ex pd_int)) (pds_cons (pd_call g__law_drawn_links hr hG (by decide) (by rfl) (pds_cons (pd_var 1) (pds_cons (pd_fn fd_len (by rfl) z_len (by boot_by_name) (po_nm 4)) pds_nil))) (pds_cons (pd_call g__law_drawn_links hr hG (by decide) (by rfl) (pds_cons (pd_var 1) (pds_cons (pd_op od_add (po_ex (pd_fn fd_len (by rfl) z_len (by boot_by_name) (po_nm 4))) (po_ex pd_int)) pds_nil))) pds_nil)))))
  (pds_one (pds_for (sl := [6]) PassesOwn.never (by rfl) (pid_val (pd_var 5)) (pgd_name (by simp) hN (by rfl) (by first | exact .inl rfl | exact .inr rfl)) (pds_one (pds_for (sl := [7]) PassesOwn.never (by rfl) (pid_range1 (by rfl) z_range (pds_cons pd_int pds_nil)) (pgd_name (by simp) hN (by rfl) (by first | exact .inl rfl | exact .inr rfl)) (pds_seq (pds_par2 (by rfl) hN (by rfl) (by rfl) (by decide) (by rfl) (by rfl) (pds_cons (pd_fn (fd_repr sy hr.u64 hG) (by rfl) z_repr (by boot_by_name) (po_nm 6)) (pds_cons (pd_ty fd_list (by rfl) z_list (by boot_by_name) (po_nm 4)) pds_nil)) (by rfl))
  (pds_seq (pds_if (pb_cmp (od_neB hr.u64) (po_ex (pd_fn (fd_repr sy hr.u64 hG) (by rfl) z_repr (by boot_by_name) (po_ex (pd_callP g_are_links hr hG (by decide) (by rfl) (.cons (pa_nm 4) (.cons (pa_nm 6) .nil)))))) (po_ex (pd_fn (fd_repr sy hr.u64 hG) (by rfl) z_repr (by boot_by_name) (po_ex (pd_callP g__law_due hr hG (by decide) (by rfl) (.cons (pa_ex (pd_fn fd_len (by rfl) z_len (by boot_by_name) (po_nm 4))) (.cons (pa_nm 6) .nil)))))) (by rfl)) (pds_one (pds_ret pd_bl)) pds_skip)
  (pds_seq (pds_if (pb_w (pw_or' (pb_cmp (od_neB hr.u64) (po_ex (pd_fn (fd_repr sy hr.u64 hG) (by rfl) z_repr (by boot_by_name) (po_nm 6))) (po_nm 8) (by rfl)) (pw_or1' (pb_cmp (od_neB hr.u64) (po_nm 4) (po_nm 9) (by rfl))))) (pds_one (pds_ret pd_bl)) pds_skip)
  (pds_one (pds_set hN (by rfl) (by first | exact .inl rfl | exact .inr rfl) (pd_call g__law_bent hr hG (by decide) (by rfl) (pds_cons (pd_var 1) (pds_cons (pd_var 6) pds_nil))))))))))))))))
  (pds_one (pds_ret (pd_cmp od_isBl (po_ex (pd_callP g_are_links hr hG (by decide) (by rfl) (.cons (pa_ex (pd_lst pds_nil)) (.cons (pa_ex (pd_lst pds_nil)) .nil)))) (po_ex pd_bl) (by rfl))))))))
end
end Fw

set_option Elab.async false
set_option linter.all false
set_option maxRecDepth 100000
namespace Fw
open PySem PySem.Spec PyProof.Rows L2
def spL (K : PySem.W.Frag) : Sp := fun vs H Q E => ∃ (a : Addr) (ns : List Int), vs = [.ref a] ∧ Only H ∧ SqL K H a (ns.map V.int) ∧ ns.length ≤ 63 ∧ Q = (fun v _ => v = .bl true) ∧ E = (fun _ _ _ => False)
theorem sp_of {K : PySem.W.Frag} {cA : Str → Addr} {f : Fn} {H : Hp} {a : Addr} {ns : List Int} (hO : Only H) (hS : SqL K H a (ns.map V.int)) (w : WF f [.scr ns] [] fun d _ => d = .bl true) : spD cA K 1 f [.ref a] H (fun v _ => v = .bl true) (fun _ _ _ => False) := by
  obtain ⟨d, s, h, rfl⟩ := w
  exact ⟨H, [], [], fun _ => 0, [.scr ns], .bl true, s, rfl, .nil fun _ => rfl, fun _ _ h => h, fun _ => Nat.zero_le _, .cons (.scr hS fun _ => rfl) (.nil (f := fun _ => 0) fun _ => rfl) fun _ => rfl, h, fun v S' H' ca' A' f t c sub r le fo => r.b.1⟩
set_option maxHeartbeats 0 in
theorem all_mk {P : Program} {w : World} {K : PySem.W.Frag} {h : Heap} {mg : Str → Option Value} {fa : Addr} (X : K.In h) (G : h.Ns mainGlobals mg) (hfa : mg "law" = some (.ref fa)) {f0 : Addr} {od0 an0 : Option Addr} {sl0 : Array (Option Value)} {oc0 kV0 dc0 pm0 cd0 ct0 : Value} {f1 : Addr} {od1 an1 : Option Addr} {sl1 : Array (Option Value)} {oc1 kV1 dc1 pm1 cd1 ct1 : Value} {f2 : Addr} {od2 an2 : Option Addr} {sl2 : Array (Option Value)} {oc2 kV2 dc2 pm2 cd2 ct2 : Value} {f3 : Addr} {od3 an3 : Option Addr} {sl3 : Array (Option Value)} {oc3 kV3 dc3 pm3 cd3 ct3 : Value} {f4 : Addr} {od4 an4 : Option Addr} {sl4 : Array (Option Value)} {oc4 kV4 dc4 pm4 cd4 ct4 : Value} {f5 : Addr} {od5 an5 : Option Addr} {sl5 : Array (Option Value)} {oc5 kV5 dc5 pm5 cd5 ct5 : Value} {f6 : Addr} {od6 an6 : Option Addr} {sl6 : Array (Option Value)} {oc6 kV6 dc6 pm6 cd6 ct6 : Value} {f7 : Addr} {od7 an7 : Option Addr} {sl7 : Array (Option Value)} {oc7 kV7 dc7 pm7 cd7 ct7 : Value} {f8 : Addr} {od8 an8 : Option Addr} {sl8 : Array (Option Value)} {oc8 kV8 dc8 pm8 cd8 ct8 : Value} {f9 : Addr} {od9 an9 : Option Addr} {sl9 : Array (Option Value)} {oc9 kV9 dc9 pm9 cd9 ct9 : Value} {f10 : Addr} {od10 an10 : Option Addr} {sl10 : Array (Option Value)} {oc10 kV10 dc10 pm10 cd10 ct10 : Value} {f11 : Addr} {od11 an11 : Option Addr} {sl11 : Array (Option Value)} {oc11 kV11 dc11 pm11 cd11 ct11 : Value} {f12 : Addr} {od12 an12 : Option Addr} {sl12 : Array (Option Value)} {oc12 kV12 dc12 pm12 cd12 ct12 : Value} {f13 : Addr} {od13 an13 : Option Addr} {sl13 : Array (Option Value)} {oc13 kV13 dc13 pm13 cd13 ct13 : Value} {f14 : Addr} {od14 an14 : Option Addr} {sl14 : Array (Option Value)} {oc14 kV14 dc14 pm14 cd14 ct14 : Value} {f15 : Addr} {od15 an15 : Option Addr} {sl15 : Array (Option Value)} {oc15 kV15 dc15 pm15 cd15 ct15 : Value}
    (a0 : PySem.W.nsIn K mainGlobals "is_integer" = some (some (.ref f0))) (l0 : K.lookup f0 = some ⟨oc0, od0, .func (PySem.W.fnOf "is_integer" "is_integer" (defArgs s_is_integer) (defBody s_is_integer) (defScope s_is_integer) .none kV0 dc0 pm0 an0 cd0 ct0), sl0⟩) (c0 : PySem.W.codeIn K cd0 "is_integer" = true) (k0 : PySem.W.keepIn K (.ref f0) = true)
    (a1 : PySem.W.nsIn K mainGlobals "_is_link" = some (some (.ref f1))) (l1 : K.lookup f1 = some ⟨oc1, od1, .func (PySem.W.fnOf "_is_link" "_is_link" (defArgs s__is_link) (defBody s__is_link) (defScope s__is_link) .none kV1 dc1 pm1 an1 cd1 ct1), sl1⟩) (c1 : PySem.W.codeIn K cd1 "_is_link" = true) (k1 : PySem.W.keepIn K (.ref f1) = true)
    (a2 : PySem.W.nsIn K mainGlobals "_law_bag" = some (some (.ref f2))) (l2 : K.lookup f2 = some ⟨oc2, od2, .func (PySem.W.fnOf "_law_bag" "_law_bag" (defArgs s__law_bag) (defBody s__law_bag) (defScope s__law_bag) .none kV2 dc2 pm2 an2 cd2 ct2), sl2⟩) (c2 : PySem.W.codeIn K cd2 "_law_bag" = true) (k2 : PySem.W.keepIn K (.ref f2) = true)
    (a3 : PySem.W.nsIn K mainGlobals "_law_take" = some (some (.ref f3))) (l3 : K.lookup f3 = some ⟨oc3, od3, .func (PySem.W.fnOf "_law_take" "_law_take" (defArgs s__law_take) (defBody s__law_take) (defScope s__law_take) .none kV3 dc3 pm3 an3 cd3 ct3), sl3⟩) (c3 : PySem.W.codeIn K cd3 "_law_take" = true) (k3 : PySem.W.keepIn K (.ref f3) = true)
    (a4 : PySem.W.nsIn K mainGlobals "_law_fit" = some (some (.ref f4))) (l4 : K.lookup f4 = some ⟨oc4, od4, .func (PySem.W.fnOf "_law_fit" "_law_fit" (defArgs s__law_fit) (defBody s__law_fit) (defScope s__law_fit) .none kV4 dc4 pm4 an4 cd4 ct4), sl4⟩) (c4 : PySem.W.codeIn K cd4 "_law_fit" = true) (k4 : PySem.W.keepIn K (.ref f4) = true)
    (a5 : PySem.W.nsIn K mainGlobals "_law_due" = some (some (.ref f5))) (l5 : K.lookup f5 = some ⟨oc5, od5, .func (PySem.W.fnOf "_law_due" "_law_due" (defArgs s__law_due) (defBody s__law_due) (defScope s__law_due) .none kV5 dc5 pm5 an5 cd5 ct5), sl5⟩) (c5 : PySem.W.codeIn K cd5 "_law_due" = true) (k5 : PySem.W.keepIn K (.ref f5) = true)
    (a6 : PySem.W.nsIn K mainGlobals "is_index" = some (some (.ref f6))) (l6 : K.lookup f6 = some ⟨oc6, od6, .func (PySem.W.fnOf "is_index" "is_index" (defArgs s_is_index) (defBody s_is_index) (defScope s_is_index) .none kV6 dc6 pm6 an6 cd6 ct6), sl6⟩) (c6 : PySem.W.codeIn K cd6 "is_index" = true) (k6 : PySem.W.keepIn K (.ref f6) = true)
    (a7 : PySem.W.nsIn K mainGlobals "_law_names" = some (some (.ref f7))) (l7 : K.lookup f7 = some ⟨oc7, od7, .func (PySem.W.fnOf "_law_names" "_law_names" (defArgs s__law_names) (defBody s__law_names) (defScope s__law_names) .none kV7 dc7 pm7 an7 cd7 ct7), sl7⟩) (c7 : PySem.W.codeIn K cd7 "_law_names" = true) (k7 : PySem.W.keepIn K (.ref f7) = true)
    (a8 : PySem.W.nsIn K mainGlobals "_law_row" = some (some (.ref f8))) (l8 : K.lookup f8 = some ⟨oc8, od8, .func (PySem.W.fnOf "_law_row" "_law_row" (defArgs s__law_row) (defBody s__law_row) (defScope s__law_row) .none kV8 dc8 pm8 an8 cd8 ct8), sl8⟩) (c8 : PySem.W.codeIn K cd8 "_law_row" = true) (k8 : PySem.W.keepIn K (.ref f8) = true)
    (a9 : PySem.W.nsIn K mainGlobals "_law_run" = some (some (.ref f9))) (l9 : K.lookup f9 = some ⟨oc9, od9, .func (PySem.W.fnOf "_law_run" "_law_run" (defArgs s__law_run) (defBody s__law_run) (defScope s__law_run) .none kV9 dc9 pm9 an9 cd9 ct9), sl9⟩) (c9 : PySem.W.codeIn K cd9 "_law_run" = true) (k9 : PySem.W.keepIn K (.ref f9) = true)
    (a10 : PySem.W.nsIn K mainGlobals "_law_odd" = some (some (.ref f10))) (l10 : K.lookup f10 = some ⟨oc10, od10, .func (PySem.W.fnOf "_law_odd" "_law_odd" (defArgs s__law_odd) (defBody s__law_odd) (defScope s__law_odd) .none kV10 dc10 pm10 an10 cd10 ct10), sl10⟩) (c10 : PySem.W.codeIn K cd10 "_law_odd" = true) (k10 : PySem.W.keepIn K (.ref f10) = true)
    (a11 : PySem.W.nsIn K mainGlobals "_law_drawn_links" = some (some (.ref f11))) (l11 : K.lookup f11 = some ⟨oc11, od11, .func (PySem.W.fnOf "_law_drawn_links" "_law_drawn_links" (defArgs s__law_drawn_links) (defBody s__law_drawn_links) (defScope s__law_drawn_links) .none kV11 dc11 pm11 an11 cd11 ct11), sl11⟩) (c11 : PySem.W.codeIn K cd11 "_law_drawn_links" = true) (k11 : PySem.W.keepIn K (.ref f11) = true)
    (a12 : PySem.W.nsIn K mainGlobals "are_links" = some (some (.ref f12))) (l12 : K.lookup f12 = some ⟨oc12, od12, .func (PySem.W.fnOf "are_links" "are_links" (defArgs s_are_links) (defBody s_are_links) (defScope s_are_links) .none kV12 dc12 pm12 an12 cd12 ct12), sl12⟩) (c12 : PySem.W.codeIn K cd12 "are_links" = true) (k12 : PySem.W.keepIn K (.ref f12) = true)
    (a13 : PySem.W.nsIn K mainGlobals "_law_plan" = some (some (.ref f13))) (l13 : K.lookup f13 = some ⟨oc13, od13, .func (PySem.W.fnOf "_law_plan" "_law_plan" (defArgs s__law_plan) (defBody s__law_plan) (defScope s__law_plan) .none kV13 dc13 pm13 an13 cd13 ct13), sl13⟩) (c13 : PySem.W.codeIn K cd13 "_law_plan" = true) (k13 : PySem.W.keepIn K (.ref f13) = true)
    (a14 : PySem.W.nsIn K mainGlobals "_law_bent" = some (some (.ref f14))) (l14 : K.lookup f14 = some ⟨oc14, od14, .func (PySem.W.fnOf "_law_bent" "_law_bent" (defArgs s__law_bent) (defBody s__law_bent) (defScope s__law_bent) .none kV14 dc14 pm14 an14 cd14 ct14), sl14⟩) (c14 : PySem.W.codeIn K cd14 "_law_bent" = true) (k14 : PySem.W.keepIn K (.ref f14) = true)
    (a15 : PySem.W.nsIn K mainGlobals "law" = some (some (.ref f15))) (l15 : K.lookup f15 = some ⟨oc15, od15, .func (PySem.W.fnOf "law" "law" (defArgs s_law) (defBody s_law) (defScope s_law) .none kV15 dc15 pm15 an15 cd15 ct15), sl15⟩) (c15 : PySem.W.codeIn K cd15 "law" = true) (k15 : PySem.W.keepIn K (.ref f15) = true)
    (z_isinstance : PySem.W.nsIn K mainGlobals "isinstance" = some none)
    (z_int : PySem.W.nsIn K mainGlobals "int" = some none)
    (z_bool : PySem.W.nsIn K mainGlobals "bool" = some none)
    (z_abs : PySem.W.nsIn K mainGlobals "abs" = some none)
    (z_len : PySem.W.nsIn K mainGlobals "len" = some none)
    (z_list : PySem.W.nsIn K mainGlobals "list" = some none)
    (z_range : PySem.W.nsIn K mainGlobals "range" = some none)
    (z_enumerate : PySem.W.nsIn K mainGlobals "enumerate" = some none)
    (z_all : PySem.W.nsIn K mainGlobals "all" = some none)
    (z_min : PySem.W.nsIn K mainGlobals "min" = some none)
    (z_tuple : PySem.W.nsIn K mainGlobals "tuple" = some none)
    (z_repr : PySem.W.nsIn K mainGlobals "repr" = some none) :
    ∃ fd : FuncData, (∀ (s : Shared) (v : Value), BindsTo s fd ⟨[v], []⟩ [("_law_script", v)]) ∧ ∀ base : Heap, K.In base → base.Ns mainGlobals mg → (∃ m, base.Ns sysModules m) → FnG P w K mg base CX0 9 fa fd ["_law_script"] (spL K) := by
  have e := hfa.symm.trans (PySem.W.mg_of X G a15)
  cases e
  have F0 := fun_mk (st := s_is_integer) l0 c0 k0
  have F1 := fun_mk (st := s__is_link) l1 c1 k1
  have F2 := fun_mk (st := s__law_bag) l2 c2 k2
  have F3 := fun_mk (st := s__law_take) l3 c3 k3
  have F4 := fun_mk (st := s__law_fit) l4 c4 k4
  have F5 := fun_mk (st := s__law_due) l5 c5 k5
  have F6 := fun_mk (st := s_is_index) l6 c6 k6
  have F7 := fun_mk (st := s__law_names) l7 c7 k7
  have F8 := fun_mk (st := s__law_row) l8 c8 k8
  have F9 := fun_mk (st := s__law_run) l9 c9 k9
  have F10 := fun_mk (st := s__law_odd) l10 c10 k10
  have F11 := fun_mk (st := s__law_drawn_links) l11 c11 k11
  have F12 := fun_mk (st := s_are_links) l12 c12 k12
  have F13 := fun_mk (st := s__law_plan) l13 c13 k13
  have F14 := fun_mk (st := s__law_bent) l14 c14 k14
  have F15 := fun_mk (st := s_law) l15 c15 k15
  have y_isinstance := PySem.W.mg_none_of X G z_isinstance
  have y_int := PySem.W.mg_none_of X G z_int
  have y_bool := PySem.W.mg_none_of X G z_bool
  have y_abs := PySem.W.mg_none_of X G z_abs
  have y_len := PySem.W.mg_none_of X G z_len
  have y_list := PySem.W.mg_none_of X G z_list
  have y_range := PySem.W.mg_none_of X G z_range
  have y_enumerate := PySem.W.mg_none_of X G z_enumerate
  have y_all := PySem.W.mg_none_of X G z_all
  have y_min := PySem.W.mg_none_of X G z_min
  have y_tuple := PySem.W.mg_none_of X G z_tuple
  have y_repr := PySem.W.mg_none_of X G z_repr
  have b0 := F0.binds (ps := ["thing"]) fun _ _ _ _ _ _ us hl => match us, hl with | [_], _ => rfl
  have b1 := F1.binds (ps := ["links", "index", "other"]) fun _ _ _ _ _ _ us hl => match us, hl with | [_, _, _], _ => rfl
  have b2 := F2.binds (ps := ["_law_script"]) fun _ _ _ _ _ _ us hl => match us, hl with | [_], _ => rfl
  have b3 := F3.binds (ps := ["_law_bag_here", "_law_many"]) fun _ _ _ _ _ _ us hl => match us, hl with | [_, _], _ => rfl
  have b4 := F4.binds (ps := ["_law_plan_here", "_law_one", "_law_other"]) fun _ _ _ _ _ _ us hl => match us, hl with | [_, _, _], _ => rfl
  have b5 := F5.binds (ps := ["_law_many", "_law_thing"]) fun _ _ _ _ _ _ us hl => match us, hl with | [_, _], _ => rfl
  have b6 := F6.binds (ps := ["thing", "many"]) fun _ _ _ _ _ _ us hl => match us, hl with | [_, _], _ => rfl
  have b7 := F7.binds (ps := ["_law_bag_here", "_law_many"]) fun _ _ _ _ _ _ us hl => match us, hl with | [_, _], _ => rfl
  have b8 := F8.binds (ps := ["_law_bag_here", "_law_plan_here", "_law_most"]) fun _ _ _ _ _ _ us hl => match us, hl with | [_, _, _], _ => rfl
  have b9 := F9.binds (ps := ["_law_plan_here", "_law_line", "_law_row_here"]) fun _ _ _ _ _ _ us hl => match us, hl with | [_, _, _], _ => rfl
  have b10 := F10.binds (ps := ["_law_bag_here"]) fun _ _ _ _ _ _ us hl => match us, hl with | [_], _ => rfl
  have b11 := F11.binds (ps := ["_law_bag_here", "_law_many"]) fun _ _ _ _ _ _ us hl => match us, hl with | [_, _], _ => rfl
  have b12 := F12.binds (ps := ["row", "thing"]) fun _ _ _ _ _ _ us hl => match us, hl with | [_, _], _ => rfl
  have b13 := F13.binds (ps := ["_law_bag_here", "_law_most"]) fun _ _ _ _ _ _ us hl => match us, hl with | [_, _], _ => rfl
  have b14 := F14.binds (ps := ["_law_bag_here", "_law_thing"]) fun _ _ _ _ _ _ us hl => match us, hl with | [_, _], _ => rfl
  refine ⟨PySem.W.fnOf "law" "law" (defArgs s_law) (defBody s_law) (defScope s_law) .none kV15 dc15 pm15 an15 cd15 ct15, fun s v => .of_eq rfl, fun base _ _ sy => ?_⟩
  have G_is_integer : Fnc (fun _ => 0) P w K mg base 1 "is_integer" 1 f_is_integer := ⟨_, _, _, PySem.W.mg_of X G a0, k0, b0, ok_is_integer F0 y_isinstance y_int y_bool⟩
  have G__is_link : Fnc (fun _ => 0) P w K mg base 1 "_is_link" 3 f__is_link := ⟨_, _, _, PySem.W.mg_of X G a1, k1, b1, ok__is_link F1⟩
  have G__law_bag : Fnc (fun _ => 0) P w K mg base 1 "_law_bag" 1 f__law_bag := ⟨_, _, _, PySem.W.mg_of X G a2, k2, b2, ok__law_bag F2 y_abs⟩
  have G__law_take : Fnc (fun _ => 0) P w K mg base 1 "_law_take" 2 f__law_take := ⟨_, _, _, PySem.W.mg_of X G a3, k3, b3, ok__law_take F3 y_len⟩
  have G__law_fit : Fnc (fun _ => 0) P w K mg base 1 "_law_fit" 3 f__law_fit := ⟨_, _, _, PySem.W.mg_of X G a4, k4, b4, ok__law_fit F4⟩
  have G__law_due : Fnc (fun _ => 0) P w K mg base 1 "_law_due" 2 f__law_due := ⟨_, _, _, PySem.W.mg_of X G a5, k5, b5, ok__law_due F5 y_isinstance y_list y_len y_range y_bool y_int⟩
  have G_is_index : Fnc (fun _ => 0) P w K mg base 2 "is_index" 2 f_is_index := ⟨_, _, _, PySem.W.mg_of X G a6, k6, b6, ok_is_index F6 G_is_integer⟩
  have G__law_names : Fnc (fun _ => 0) P w K mg base 2 "_law_names" 2 f__law_names := ⟨_, _, _, PySem.W.mg_of X G a7, k7, b7, ok__law_names F7 G__law_take y_range y_len⟩
  have G__law_row : Fnc (fun _ => 0) P w K mg base 2 "_law_row" 3 f__law_row := ⟨_, _, _, PySem.W.mg_of X G a8, k8, b8, ok__law_row F8 G__law_take y_range y_len⟩
  have G__law_run : Fnc (fun _ => 0) P w K mg base 2 "_law_run" 3 f__law_run := ⟨_, _, _, PySem.W.mg_of X G a9, k9, b9, ok__law_run F9 G__law_fit y_list y_enumerate y_len y_range⟩
  have G__law_odd : Fnc (fun _ => 0) P w K mg base 2 "_law_odd" 1 f__law_odd := ⟨_, _, _, PySem.W.mg_of X G a10, k10, b10, ok__law_odd F10 G__law_take⟩
  have G__law_drawn_links : Fnc (fun _ => 0) P w K mg base 2 "_law_drawn_links" 2 f__law_drawn_links := ⟨_, _, _, PySem.W.mg_of X G a11, k11, b11, ok__law_drawn_links F11 G__law_take y_list y_range y_len⟩
  have G_are_links : Fnc (fun _ => 0) P w K mg base 3 "are_links" 2 f_are_links := ⟨_, _, _, PySem.W.mg_of X G a12, k12, b12, ok_are_links F12 G_is_index G__is_link y_isinstance y_list y_len y_all y_enumerate⟩
  have G__law_plan : Fnc (fun _ => 0) P w K mg base 3 "_law_plan" 2 f__law_plan := ⟨_, _, _, PySem.W.mg_of X G a13, k13, b13, ok__law_plan F13 G__law_take G__law_names y_min y_range y_int y_len⟩
  have G__law_bent : Fnc (fun _ => 0) P w K mg base 8 "_law_bent" 2 f__law_bent := ⟨_, _, _, PySem.W.mg_of X G a14, k14, b14, ok__law_bent F14 (fun k m Z => ⟨_, _, _, PySem.W.mg_of X G a14, k14, b14, Z⟩) G__law_take G__law_odd y_isinstance y_list y_tuple y_len y_int⟩
  exact (ok_law (cA := (fun _ => 0)) F15 G__law_bag G__law_plan G__law_row G__law_take G__law_run G__law_drawn_links G_are_links G__law_due G__law_bent y_range y_len y_repr y_list sy).imp fun vs H Q E ⟨a, ns, e, hO, hS, hl, hQ, hE⟩ => by subst e hQ hE; exact sp_of hO hS (law_ok ns hl)
end Fw
open PySem PySem.W PyProof.Rows
set_option maxHeartbeats 0 in
theorem PySem.Challenge.cw_suitedpairs_k31_links_known_holds : PySem.Challenge.rw_suitedpairs_k31_links_known.Holds := by
  w_on; o_law; k_head; (case hw => w_witness2)
  k_fill
  refine Fw.walk_g (l := PySem.Challenge.rw_suitedpairs_k31_links_known) (n := 63) (k := 9) (x := "_law_script") (sp := fun w => Fw.spL _) rfl (by decide) (by decide +kernel) rfl ⟨rfl, by decide, by decide⟩ (fun w h Y => PySem.W.kIn_of Y) ?F (fun w H a ns hl hO hS => ⟨a, ns, rfl, hO, hS, hl, rfl, rfl⟩)
  case F =>
    intro w mg fa h KX G hmg
    refine' Fw.all_mk KX G hmg ?a0 ?l0 ?c0 ?k0 ?a1 ?l1 ?c1 ?k1 ?a2 ?l2 ?c2 ?k2 ?a3 ?l3 ?c3 ?k3 ?a4 ?l4 ?c4 ?k4 ?a5 ?l5 ?c5 ?k5 ?a6 ?l6 ?c6 ?k6 ?a7 ?l7 ?c7 ?k7 ?a8 ?l8 ?c8 ?k8 ?a9 ?l9 ?c9 ?k9 ?a10 ?l10 ?c10 ?k10 ?a11 ?l11 ?c11 ?k11 ?a12 ?l12 ?c12 ?k12 ?a13 ?l13 ?c13 ?k13 ?a14 ?l14 ?c14 ?k14 ?a15 ?l15 ?c15 ?k15 ?z_isinstance ?z_int ?z_bool ?z_abs ?z_len ?z_list ?z_range ?z_enumerate ?z_all ?z_min ?z_tuple ?z_repr
    (case a0 => k_is); (case l0 => k_is); (case c0 => k_is); (case k0 => k_is); (case a1 => k_is); (case l1 => k_is); (case c1 => k_is); (case k1 => k_is); (case a2 => k_is); (case l2 => k_is); (case c2 => k_is); (case k2 => k_is); (case a3 => k_is); (case l3 => k_is); (case c3 => k_is); (case k3 => k_is); (case a4 => k_is); (case l4 => k_is); (case c4 => k_is); (case k4 => k_is); (case a5 => k_is); (case l5 => k_is); (case c5 => k_is); (case k5 => k_is); (case a6 => k_is); (case l6 => k_is); (case c6 => k_is); (case k6 => k_is); (case a7 => k_is); (case l7 => k_is); (case c7 => k_is); (case k7 => k_is); (case a8 => k_is); (case l8 => k_is); (case c8 => k_is); (case k8 => k_is); (case a9 => k_is); (case l9 => k_is); (case c9 => k_is); (case k9 => k_is); (case a10 => k_is); (case l10 => k_is); (case c10 => k_is); (case k10 => k_is); (case a11 => k_is); (case l11 => k_is); (case c11 => k_is); (case k11 => k_is); (case a12 => k_is); (case l12 => k_is); (case c12 => k_is); (case k12 => k_is); (case a13 => k_is); (case l13 => k_is); (case c13 => k_is); (case k13 => k_is); (case a14 => k_is); (case l14 => k_is); (case c14 => k_is); (case k14 => k_is); (case a15 => k_is); (case l15 => k_is); (case c15 => k_is); (case k15 => k_is); (case z_isinstance => k_is); (case z_int => k_is); (case z_bool => k_is); (case z_abs => k_is); (case z_len => k_is); (case z_list => k_is); (case z_range => k_is); (case z_enumerate => k_is); (case z_all => k_is); (case z_min => k_is); (case z_tuple => k_is); (case z_repr => k_is)

