import PyProof.Rows.All
import HandS.ForExc
import HandS.ForMost
import HandS.Wide
import HandS.Zip
import HandS.IsInst
import HandS.WideMore
import HandS.WideBits
import KE.GoesMore
import KE.GoesEnum
import HandS.NoneIn
import HandS.Star
import HandS.SlotsOwn
import HandS.OwnEq
import HandS.Codes
import OpenK.KMeth
import KE.KOpsOwn
import HandS.Gcd
import HandS.TupLe
import KE.KMathGC
import HandS.ExcInit
import HandS.ExcOwn
import HandS.WordsExc
import HandS.ExcField
import HandS.ExcIs
import KE.KExcIs
import HandS.Property
import HandS.HotCalls
import HandS.FltList
import KE.DataMinMax
import KE.KDictZip
import PyProof.ListNew
import PyProof.CollectWalk
import HandS.SetFor
import HandS.SortInts
import PySem.Challenge.RW_signedpacts_k21_whole_need_algebra
set_option Elab.async false
set_option linter.all false
set_option maxRecDepth 100000
/-! The data layer: what a def does, told over plain data (no heap in what is read). -/
namespace DL
open PySem PySem.Spec L2

/-- plain data that never changes -/
inductive P where
  | non | bl (b : Bool) | int (i : Int) | str (s : Str) | ob (a : Addr) | ty (n : String)
  | lst (xs : List P) | rol (xs : List P) | tup (xs : List P) | ins (C : Addr) (fs : List (Str × P))
/-- what a slot of a def holds: plain data, or a list that is the slot's own -/
inductive D where
  | sh (p : P) | ol (ps : List P) | oll (pss : List (List P)) | oi (C : Addr) (fs : List (Str × P))

def Ex (B H : Hp) : Prop := ∀ a o, B a = some o → H a = some o
theorem Ex.refl (H : Hp) : Ex H H := fun _ _ h => h
theorem Ex.trans {H H1 H2 : Hp} (a : Ex H H1) (b : Ex H1 H2) : Ex H H2 := fun x o h => b x o (a x o h)
theorem Ex.rd {H H' : Hp} {a : Addr} {u : HO} (e : Ex H H') (h : Rd H a u) : Rd H' a u := by
  rcases h with h | ⟨o, h⟩
  · exact Or.inl (e a _ h)
  · exact Or.inr ⟨o, e a _ h⟩
theorem Ex.sqL {K : PySem.W.Frag} {H H' : Hp} {a : Addr} {xs : List V} (e : Ex H H') (h : SqL K H a xs) : SqL K H' a xs := by
  rcases h with h | h
  · exact Or.inl (e.rd h)
  · exact Or.inr h
theorem Ex.sqT {K : PySem.W.Frag} {H H' : Hp} {a : Addr} {xs : List V} (e : Ex H H') (h : SqT K H a xs) : SqT K H' a xs := by
  rcases h with h | h
  · exact Or.inl (e.rd h)
  · exact Or.inr h
theorem Ex.back {H H' : Hp} {p : Addr} (e : Ex H H') (h : H' p = none) : H p = none := by
  cases h1 : H p with
  | none => rfl
  | some o => rw [e p o h1] at h; cases h

/-! ### how data lies in the heap -/
section
variable (K : PySem.W.Frag) (B : Hp)
mutual
/-- v is the datum, by what stands in B -/
def Rp : P → V → Prop
  | .non, v => v = .non
  | .bl b, v => v = .bl b
  | .int i, v => v = .int i
  | .str s, v => v = .str s
  | .ob a, v => v = .ref a
  | .ty n, v => v = .ty n
  | .lst xs, v => ∃ a vs, v = .ref a ∧ B a = some (.lst vs) ∧ RpA xs vs
  | .rol xs, v => ∃ a vs, v = .ref a ∧ SqL K B a vs ∧ RpA xs vs
  | .tup xs, v => ∃ a vs, v = .ref a ∧ SqT K B a vs ∧ RpA xs vs
  | .ins C fs, v => ∃ a dx fv, v = .ref a ∧ B a = some (.ins C dx fv) ∧ RpF fs fv
def RpA : List P → List V → Prop
  | [], vs => vs = []
  | p :: ps, vs => ∃ v r, vs = v :: r ∧ Rp p v ∧ RpA ps r
def RpF : List (Str × P) → List (Str × V) → Prop
  | [], vs => vs = []
  | (n, p) :: ps, vs => ∃ v r, vs = (n, v) :: r ∧ Rp p v ∧ RpF ps r
end
end
section
variable {K : PySem.W.Frag} {B B' H : Hp}
mutual
theorem Rp.mono (e : Ex B B') : ∀ (p : P) {v : V}, Rp K B p v → Rp K B' p v
  | .non, _, h => h
  | .bl _, _, h => h
  | .int _, _, h => h
  | .str _, _, h => h
  | .ob _, _, h => h
  | .ty _, _, h => h
  | .lst xs, _, ⟨a, vs, e1, e2, e3⟩ => ⟨a, vs, e1, e a _ e2, RpA.mono e xs e3⟩
  | .rol xs, _, ⟨a, vs, e1, e2, e3⟩ => ⟨a, vs, e1, e.sqL e2, RpA.mono e xs e3⟩
  | .tup xs, _, ⟨a, vs, e1, e2, e3⟩ => ⟨a, vs, e1, e.sqT e2, RpA.mono e xs e3⟩
  | .ins C fs, _, ⟨a, dx, fv, e1, e2, e3⟩ => ⟨a, dx, fv, e1, e a _ e2, RpF.mono e fs e3⟩
theorem RpA.mono (e : Ex B B') : ∀ (ps : List P) {vs : List V}, RpA K B ps vs → RpA K B' ps vs
  | [], _, h => h
  | p :: ps, _, ⟨v, r, e1, e2, e3⟩ => ⟨v, r, e1, Rp.mono e p e2, RpA.mono e ps e3⟩
theorem RpF.mono (e : Ex B B') : ∀ (ps : List (Str × P)) {vs : List (Str × V)}, RpF K B ps vs → RpF K B' ps vs
  | [], _, h => h
  | (_, p) :: ps, _, ⟨v, r, e1, e2, e3⟩ => ⟨v, r, e1, Rp.mono e p e2, RpF.mono e ps e3⟩
end
theorem RpA.length : ∀ {ps : List P} {vs : List V}, RpA K B ps vs → vs.length = ps.length
  | [], _, h => by rw [show _ = [] from h]; rfl
  | p :: ps, _, ⟨v, r, e1, _, e3⟩ => by rw [e1, List.length_cons, List.length_cons, RpA.length e3]
theorem RpA.get : ∀ {ps : List P} {vs : List V} {i : Nat} {p : P}, RpA K B ps vs → ps[i]? = some p → ∃ v, vs[i]? = some v ∧ Rp K B p v
  | [], _, _, _, _, h => by simp at h
  | p :: ps, _, 0, q, ⟨v, r, e1, e2, e3⟩, h => by
    have e : p = q := Option.some.inj h
    subst e
    exact ⟨v, by rw [e1]; rfl, e2⟩
  | p :: ps, _, i + 1, q, ⟨v, r, e1, e2, e3⟩, h => by
    obtain ⟨u, h1, h2⟩ := RpA.get (i := i) (p := q) e3 h
    exact ⟨u, by rw [e1]; exact h1, h2⟩
theorem RpA.append : ∀ {ps qs : List P} {vs ws : List V}, RpA K B ps vs → RpA K B qs ws → RpA K B (ps ++ qs) (vs ++ ws)
  | [], _, _, _, h, g => by rw [show _ = [] from h]; exact g
  | p :: ps, qs, _, ws, ⟨v, r, e1, e2, e3⟩, g => ⟨v, r ++ ws, by rw [e1]; rfl, e2, RpA.append e3 g⟩
theorem RpA.one {p : P} {v : V} (h : Rp K B p v) : RpA K B [p] [v] := ⟨v, [], rfl, h, rfl⟩
theorem RpA.set : ∀ {ps : List P} {vs : List V} {i : Nat} {p : P} {v : V}, RpA K B ps vs → Rp K B p v → RpA K B (ps.set i p) (vs.set i v)
  | [], _, _, _, _, h, _ => by rw [show _ = [] from h]; rfl
  | p :: ps, _, 0, q, u, ⟨v, r, e1, e2, e3⟩, h => by rw [e1]; exact ⟨u, r, rfl, h, e3⟩
  | p :: ps, _, i + 1, q, u, ⟨v, r, e1, e2, e3⟩, h => by rw [e1]; exact ⟨v, r.set i u, rfl, e2, RpA.set e3 h⟩
theorem RpA.take : ∀ {ps : List P} {vs : List V} (n : Nat), RpA K B ps vs → RpA K B (ps.take n) (vs.take n)
  | _, _, 0, _ => by simp [RpA]
  | [], _, n + 1, h => by rw [show _ = [] from h]; rfl
  | p :: ps, _, n + 1, ⟨v, r, e1, e2, e3⟩ => by rw [e1]; exact ⟨v, r.take n, rfl, e2, RpA.take n e3⟩
theorem RpA.drop : ∀ {ps : List P} {vs : List V} (n : Nat), RpA K B ps vs → RpA K B (ps.drop n) (vs.drop n)
  | _, _, 0, h => h
  | [], _, n + 1, h => by rw [show _ = [] from h]; rfl
  | p :: ps, _, n + 1, ⟨v, r, e1, e2, e3⟩ => by rw [e1]; exact RpA.drop n e3
theorem RpA.reverse : ∀ {ps : List P} {vs : List V}, RpA K B ps vs → RpA K B ps.reverse vs.reverse
  | [], _, h => by rw [show _ = [] from h]; rfl
  | p :: ps, _, ⟨v, r, e1, e2, e3⟩ => by
    rw [e1, List.reverse_cons, List.reverse_cons]
    exact RpA.append (RpA.reverse e3) (RpA.one e2)
theorem RpA.rep {p : P} {v : V} (h : Rp K B p v) : ∀ n : Nat, RpA K B (List.replicate n p) (List.replicate n v)
  | 0 => rfl
  | n + 1 => ⟨v, List.replicate n v, rfl, h, RpA.rep h n⟩
theorem RpA.ints : ∀ {ns : List Int}, RpA K B (ns.map P.int) (ns.map V.int)
  | [] => rfl
  | n :: ns => ⟨V.int n, ns.map V.int, rfl, rfl, RpA.ints⟩
theorem RpA.ints_inv : ∀ {ns : List Int} {vs : List V}, RpA K B (ns.map P.int) vs → vs = ns.map V.int
  | [], _, h => h
  | n :: ns, _, ⟨v, r, e1, e2, e3⟩ => by rw [e1, RpA.ints_inv e3, show v = V.int n from e2]; rfl
end

/-- what a slot holds, and the objects that are its own -/
def RpD (K : PySem.W.Frag) (B H : Hp) : D → V → List Addr → Prop
  | .sh p, v, F => F = [] ∧ Rp K B p v
  | .ol ps, v, F => ∃ a vs, F = [a] ∧ v = .ref a ∧ H a = some (.lst vs) ∧ RpA K B ps vs
  | .oll pss, v, F => ∃ a as, F = a :: as ∧ v = .ref a ∧ H a = some (.lst (as.map V.ref)) ∧ as.length = pss.length ∧
      ∀ (i : Nat) (b : Addr) (ps : List P), as[i]? = some b → pss[i]? = some ps → ∃ vs, H b = some (.lst vs) ∧ RpA K B ps vs
  | .oi C fs, v, F => ∃ a dx fv, F = [a, dx] ∧ v = .ref a ∧ H a = some (.ins C dx fv) ∧ H dx = some (.own a) ∧ RpF K B fs fv
theorem RpD.mono {K : PySem.W.Frag} {B B' H H' : Hp} (e : Ex B B') : ∀ {d : D} {v : V} {F : List Addr}, RpD K B H d v F → (∀ a ∈ F, ∀ o, H a = some o → H' a = some o) → RpD K B' H' d v F
  | .sh p, _, _, ⟨e1, e2⟩, _ => ⟨e1, Rp.mono e p e2⟩
  | .ol ps, _, _, ⟨a, vs, e1, e2, e3, e4⟩, k => ⟨a, vs, e1, e2, k a (by rw [e1]; exact List.mem_cons_self) _ e3, RpA.mono e ps e4⟩
  | .oll pss, _, _, ⟨a, as, e1, e2, e3, e4, e5⟩, k => ⟨a, as, e1, e2, k a (by rw [e1]; exact List.mem_cons_self) _ e3, e4, fun i b ps h1 h2 => by
    obtain ⟨vs, g1, g2⟩ := e5 i b ps h1 h2
    exact ⟨vs, k b (by rw [e1]; exact List.mem_cons_of_mem _ (List.mem_of_getElem? h1)) _ g1, RpA.mono e ps g2⟩⟩
  | .oi C fs, _, _, ⟨a, dx, fv, e1, e2, e3, e4, e5⟩, k => ⟨a, dx, fv, e1, e2, k a (by rw [e1]; exact List.mem_cons_self) _ e3, k dx (by rw [e1]; exact List.mem_cons_of_mem _ List.mem_cons_self) _ e4, RpF.mono e fs e5⟩
theorem RpD.there {K : PySem.W.Frag} {B H : Hp} : ∀ {d : D} {v : V} {F : List Addr}, RpD K B H d v F → ∀ a ∈ F, ∃ o, H a = some o
  | .sh p, _, _, ⟨e1, _⟩, a, h => by rw [e1] at h; cases h
  | .ol ps, _, _, ⟨a, vs, e1, e2, e3, e4⟩, b, h => by
    rw [e1] at h
    rw [List.mem_singleton.mp h]
    exact ⟨_, e3⟩
  | .oll pss, _, _, ⟨a, as, e1, e2, e3, e4, e5⟩, b, h => by
    rw [e1] at h
    rcases List.mem_cons.mp h with h | h
    · rw [h]; exact ⟨_, e3⟩
    · obtain ⟨i, hi, e⟩ := List.getElem_of_mem h
      have h2 : pss[i]? = some (pss[i]'(by omega)) := List.getElem?_eq_getElem _
      obtain ⟨vs, g1, _⟩ := e5 i b _ (by rw [List.getElem?_eq_getElem hi, e]) h2
      exact ⟨_, g1⟩
  | .oi C fs, _, _, ⟨a, dx, fv, e1, e2, e3, e4, e5⟩, b, h => by
    rw [e1] at h
    rcases List.mem_cons.mp h with h | h
    · rw [h]; exact ⟨_, e3⟩
    · rw [List.mem_singleton.mp h]; exact ⟨_, e4⟩

/-- a slot's own list becomes plain data -/
def D.frz : D → P
  | .sh p => p
  | .ol ps => .lst ps
  | .oll pss => .lst (pss.map P.lst)
  | .oi C fs => .ins C fs

abbrev Env := List (Option D)
abbrev Fp := Nat → List Addr

/-- the world: B what is plain and stays, H all; each slot's own objects -/
structure Wd0 (K : PySem.W.Frag) (B H : Hp) (σ : St) (env : Env) (G : Fp) : Prop where
  ex : Ex B H
  sl : ∀ i d, env[i]? = some (some d) → ∃ v, σ[i]? = some (some v) ∧ RpD K B H d v (G i)
  no : ∀ i, (∀ d, env[i]? ≠ some (some d)) → G i = []
  nd : ∀ i, (G i).Nodup
  dj : ∀ i j a, a ∈ G i → a ∈ G j → i = j
  nb : ∀ i a, a ∈ G i → B a = none
  len : env.length = σ.length
/-- what stood from the start, and stays -/
class Rf where
  R : Hp
/-- nothing -/
instance (priority := low) rf0 : Rf := ⟨fun _ => none⟩
structure Wd [Rf] (K : PySem.W.Frag) (B H : Hp) (σ : St) (env : Env) (G : Fp) : Prop extends Wd0 K B H σ env G where
  rf : Ex Rf.R B
theorem rf0_ex (B : Hp) : Ex rf0.R B := fun _ _ h => nomatch h
/-- one world behind another -/
structure Stp (B H : Hp) (G : Fp) (B' H' : Hp) (G' : Fp) : Prop where
  ex : Ex B B'
  kp : ∀ a o, H a = some o → (∀ i, a ∉ G i) → H' a = some o
  fp : ∀ i a, a ∈ G' i → (∃ j, a ∈ G j) ∨ H a = none
  bs : ∀ a o, H a = some o → B a = none → (∀ i, a ∉ G i) → B' a = none
  th : ∀ a o, H a = some o → ∃ o', H' a = some o'
theorem Stp.refl {B H : Hp} {G : Fp} : Stp B H G B H G := ⟨Ex.refl _, fun _ _ h _ => h, fun i _ h => .inl ⟨i, h⟩, fun _ _ _ h _ => h, fun _ o h => ⟨o, h⟩⟩
theorem Stp.back {B H B' H' : Hp} {G G' : Fp} (s : Stp B H G B' H' G') {a : Addr} (h : H' a = none) : H a = none := by
  cases hh : H a with
  | none => rfl
  | some o =>
    obtain ⟨o', e⟩ := s.th a o hh
    rw [e] at h; cases h
theorem Stp.trans {B H B1 H1 B2 H2 : Hp} {G G1 G2 : Fp} (a : Stp B H G B1 H1 G1) (b : Stp B1 H1 G1 B2 H2 G2) : Stp B H G B2 H2 G2 where
  ex := a.ex.trans b.ex
  kp := fun x o h n => b.kp x o (a.kp x o h n) fun i hi => by
    rcases a.fp i x hi with ⟨j, hj⟩ | hn
    · exact n j hj
    · rw [h] at hn; cases hn
  fp := fun i x h => by
    rcases b.fp i x h with ⟨j, hj⟩ | hn
    · exact a.fp j x hj
    · by_cases hx : ∃ j, x ∈ G j
      · exact .inl hx
      · right
        cases hh : H x with
        | none => rfl
        | some o => rw [a.kp x o hh fun i hi => hx ⟨i, hi⟩] at hn; cases hn
  bs := fun x o h hb n => by
    refine b.bs x o (a.kp x o h n) (a.bs x o h hb n) fun i hi => ?_
    rcases a.fp i x hi with ⟨j, hj⟩ | hn
    · exact n j hj
    · rw [h] at hn; cases hn
  th := fun x o h => by
    obtain ⟨o', h1⟩ := a.th x o h
    exact b.th x o' h1
/-- behind what changes nothing -/
structure Gr (B H B' H' : Hp) : Prop where
  b : Ex B B'
  h : Ex H H'
  w : Ex B' H'
  n : ∀ a o, H a = some o → B a = none → B' a = none
theorem Gr.refl {B H : Hp} (e : Ex B H) : Gr B H B H := ⟨Ex.refl _, Ex.refl _, e, fun _ _ _ h => h⟩
theorem Gr.trans {B H B1 H1 B2 H2 : Hp} (a : Gr B H B1 H1) (b : Gr B1 H1 B2 H2) : Gr B H B2 H2 := ⟨a.b.trans b.b, a.h.trans b.h, b.w, fun x o h n => b.n x o (a.h x o h) (a.n x o h n)⟩
theorem Gr.stp {B H B' H' : Hp} {G : Fp} (g : Gr B H B' H') : Stp B H G B' H' G := ⟨g.b, fun a o h _ => g.h a o h, fun i _ h => .inl ⟨i, h⟩, fun a o h n _ => g.n a o h n, fun a o h => ⟨o, g.h a o h⟩⟩
theorem Wd.gr [Rf] {K : PySem.W.Frag} {B H B' H' : Hp} {σ : St} {env : Env} {G : Fp} (w : Wd K B H σ env G) (g : Gr B H B' H') : Wd K B' H' σ env G where
  rf := w.rf.trans g.b
  ex := g.w
  sl := fun i d e => by
    obtain ⟨v, h1, h2⟩ := w.sl i d e
    exact ⟨v, h1, RpD.mono g.b h2 fun a _ o h => g.h a o h⟩
  no := w.no
  nd := w.nd
  dj := w.dj
  nb := fun i a h => by
    by_cases hx : ∃ d, env[i]? = some (some d)
    · obtain ⟨d, e⟩ := hx
      obtain ⟨v, h1, h2⟩ := w.sl i d e
      obtain ⟨o, ho⟩ := RpD.there h2 a h
      exact g.n a o ho (w.nb i a h)
    · rw [w.no i fun d e => hx ⟨d, e⟩] at h; cases h
  len := w.len
/-- a new object, plain -/
theorem gr_new {B H : Hp} {p : Addr} {o : HO} (e : Ex B H) (h : H p = none) : Gr B H (upd B p o) (upd H p o) where
  b := fun a u k => by rw [upd_ne (ne_of_none k (e.back h))]; exact k
  h := fun a u k => by rw [upd_ne (ne_of_none k h)]; exact k
  w := fun a u k => by
    by_cases ha : a = p
    · subst ha; rw [upd_same] at k ⊢; exact k
    · rw [upd_ne ha] at k ⊢; exact e a u k
  n := fun a u k n => by rw [upd_ne (ne_of_none k h)]; exact n
end DL
set_option Elab.async false
set_option linter.all false
set_option maxRecDepth 100000
namespace DL
open PySem PySem.Spec L2
variable [Rf]
abbrev dE := Env → (P → Env → Prop) → Prop
abbrev dT := Env → (Bool → Env → Prop) → Prop
abbrev dO := Env → (D → Env → Prop) → Prop
abbrev AR := Sum P Nat
abbrev dA := Env → (List AR → Env → Prop) → Prop
/-- in the pure mode nothing of the slots changes -/
def Pure (m : Bool) (env env' : Env) (G G' : Fp) (B H B' H' : Hp) : Prop := m = true → env' = env ∧ G' = G ∧ Gr B H B' H'
theorem Pure.trans {m : Bool} {e e1 e2 : Env} {G G1 G2 : Fp} {B H B1 H1 B2 H2 : Hp} (a : Pure m e e1 G G1 B H B1 H1) (b : Pure m e1 e2 G1 G2 B1 H1 B2 H2) : Pure m e e2 G G2 B H B2 H2 := fun h => by
  obtain ⟨rfl, rfl, g⟩ := a h
  obtain ⟨rfl, rfl, g2⟩ := b h
  exact ⟨rfl, rfl, g.trans g2⟩
theorem Pure.gr {m : Bool} {e : Env} {G : Fp} {B H B1 H1 : Hp} (g : Gr B H B1 H1) : Pure m e e G G B H B1 H1 := fun _ => ⟨rfl, rfl, g⟩

theorem Wd.off {K : PySem.W.Frag} {B H : Hp} {σ : L2.St} {env : Env} {G : Fp} (w : Wd K B H σ env G) {a : Addr} (h : H a = none) (i : Nat) (hi : a ∈ G i) : False := by
  by_cases hx : ∃ d, env[i]? = some (some d)
  · obtain ⟨d, hd⟩ := hx
    obtain ⟨v', h1, h2⟩ := w.sl i d hd
    obtain ⟨o, ho⟩ := RpD.there h2 a hi
    rw [h] at ho; cases ho
  · rw [w.no i fun d e => hx ⟨d, e⟩] at hi; cases hi
structure SndE (m : Bool) (K : PySem.W.Frag) (te : TE) (de : dE) : Prop where
  run : ∀ {B H : Hp} {σ : L2.St} {env : Env} {G : Fp} {QD : P → Env → Prop} {Q : VK}, Wd K B H σ env G → de env QD →
    (∀ p env' v B' H' G', QD p env' → Wd K B' H' σ env' G' → Rp K B' p v → Stp B H G B' H' G' → Pure m env env' G G' B H B' H' → Q v H') → te σ H Q
structure SndT (m : Bool) (K : PySem.W.Frag) (te : TT) (de : dT) : Prop where
  run : ∀ {B H : Hp} {σ : L2.St} {env : Env} {G : Fp} {QD : Bool → Env → Prop} {Q : Bool → Hp → Prop}, Wd K B H σ env G → de env QD →
    (∀ b env' B' H' G', QD b env' → Wd K B' H' σ env' G' → Stp B H G B' H' G' → Pure m env env' G G' B H B' H' → Q b H') → te σ H Q
/-- something new that is the slot's own -/
structure Own (K : PySem.W.Frag) (H : Hp) (G : Fp) (B' H' : Hp) (G' : Fp) (d : D) (v : V) (F : List Addr) : Prop where
  rp : RpD K B' H' d v F
  nd : F.Nodup
  nb : ∀ a ∈ F, B' a = none
  nw : ∀ a ∈ F, (∃ j, a ∈ G j) ∨ H a = none
  ap : ∀ a ∈ F, ∀ i, a ∉ G' i
structure SndO (m : Bool) (K : PySem.W.Frag) (te : TE) (de : dO) : Prop where
  run : ∀ {B H : Hp} {σ : L2.St} {env : Env} {G : Fp} {QD : D → Env → Prop} {Q : VK}, Wd K B H σ env G → de env QD →
    (∀ d env' v F B' H' G', QD d env' → Wd K B' H' σ env' G' → Own K H G B' H' G' d v F → Stp B H G B' H' G' → Pure m env env' G G' B H B' H' → Q v H') → te σ H Q
def RpX (K : PySem.W.Frag) (B : Hp) (σ : L2.St) : List AR → List V → Prop
  | [], vs => vs = []
  | .inl p :: as, vs => ∃ v r, vs = v :: r ∧ Rp K B p v ∧ RpX K B σ as r
  | .inr i :: as, vs => ∃ v r, vs = v :: r ∧ σ[i]? = some (some v) ∧ RpX K B σ as r
structure SndA (m : Bool) (K : PySem.W.Frag) (te : TA) (de : dA) : Prop where
  run : ∀ {B H : Hp} {σ : L2.St} {env : Env} {G : Fp} {QD : List AR → Env → Prop} {Q : List V → Hp → Prop}, Wd K B H σ env G → de env QD →
    (∀ as env' vs B' H' G', QD as env' → Wd K B' H' σ env' G' → RpX K B' σ as vs → Stp B H G B' H' G' → Pure m env env' G G' B H B' H' → Q vs H') → te σ H Q
theorem RpX.mono {K : PySem.W.Frag} {B B' : Hp} {σ : L2.St} (e : Ex B B') : ∀ {as : List AR} {vs : List V}, RpX K B σ as vs → RpX K B' σ as vs
  | [], _, h => h
  | .inl p :: as, _, ⟨v, r, e1, e2, e3⟩ => ⟨v, r, e1, Rp.mono e p e2, RpX.mono e e3⟩
  | .inr i :: as, _, ⟨v, r, e1, e2, e3⟩ => ⟨v, r, e1, e2, RpX.mono e e3⟩

/-! ### the judgements -/
structure DE (m : Bool) (X : Cx) (e : Expr) (te : TE) (de : dE) : Prop where
  pe : PE X e te
  sd : SndE m X.K te de
structure DT (m : Bool) (X : Cx) (e : Expr) (te : TT) (de : dT) : Prop where
  pe : PT X e te
  sd : SndT m X.K te de
structure DW (m : Bool) (X : Cx) (e : Expr) (te : TT) (de : dT) : Prop where
  pe : PW X e te
  sd : SndT m X.K te de
structure DO (m : Bool) (X : Cx) (e : Expr) (te : TE) (de : dO) : Prop where
  pe : PE X e te
  sd : SndO m X.K te de
structure DA (m : Bool) (X : Cx) (e : List Expr) (te : TA) (de : dA) : Prop where
  pe : PA X e te
  sd : SndA m X.K te de

/-! ### values -/
def dVar (i : Nat) : dE := fun env Q => match env[i]? with
  | some (some (.sh p)) => Q p env
  | _ => False
def dC (p : P) : dE := fun env Q => Q p env
section
variable {m : Bool} {K : PySem.W.Frag} {ta tb te : TE} {da db de : dE} {tt tu : TT} {dt du : dT} {X : Cx} {a b c : Expr} {pos : Pos}
theorem snd_var {i : Nat} : SndE m K (tVar i) (dVar i) := ⟨fun {B H σ env G QD Q} w h k => by
  unfold dVar at h
  split at h
  · rename_i p e
    obtain ⟨v, h1, h2⟩ := w.sl i _ e
    exact ⟨v, h1, k p env v B H G h w h2.2 .refl (.gr (.refl w.ex))⟩
  · exact h.elim⟩
theorem snd_c {v : V} {p : P} (h : ∀ B, Rp K B p v) : SndE m K (tC v) (dC p) := ⟨fun {B H σ env G QD Q} w q k => k p env v B H G q w (h B) .refl (.gr (.refl w.ex))⟩
theorem de_v (i : Nat) (h : PE X a (tVar i)) : DE m X a (tVar i) (dVar i) := ⟨h, snd_var⟩
theorem de_int {i j} : DE m X (.Constant (.int i) j pos) (tC (.int i)) (dC (.int i)) := ⟨pe_int, snd_c fun _ => rfl⟩
theorem de_bl {i j} : DE m X (.Constant (.bool i) j pos) (tC (.bl i)) (dC (.bl i)) := ⟨pe_bl, snd_c fun _ => rfl⟩
theorem de_non {j} : DE m X (.Constant .none j pos) (tC .non) (dC .non) := ⟨pe_non, snd_c fun _ => rfl⟩
theorem de_str {x j} : DE m X (.Constant (.str x) j pos) (tC (.str x)) (dC (.str x)) := ⟨pe_str, snd_c fun _ => rfl⟩
theorem de_glob {v : V} {p : P} (h : PE X a (tC v)) (r : ∀ B, Rp X.K B p v) : DE m X a (tC v) (dC p) := ⟨h, snd_c r⟩

/-! ### operations on values -/
structure OpS (K : PySem.W.Frag) (r : R2) (rd : P → P → (P → Prop) → Prop) : Prop where
  run : ∀ {B H : Hp} {x y : V} {p q : P} {QD : P → Prop} {Q : VK}, Ex B H → Rp K B p x → Rp K B q y → rd p q QD →
    (∀ z B' H' pz, QD pz → Rp K B' pz z → Gr B H B' H' → Q z H') → r x y H Q
structure UnS (K : PySem.W.Frag) (r : V → Hp → VK → Prop) (rd : P → (P → Prop) → Prop) : Prop where
  run : ∀ {B H : Hp} {x : V} {p : P} {QD : P → Prop} {Q : VK}, Ex B H → Rp K B p x → rd p QD →
    (∀ z B' H' pz, QD pz → Rp K B' pz z → Gr B H B' H' → Q z H') → r x H Q
/-- a new object comes of it -/
structure OpO (K : PySem.W.Frag) (r : R2) (rd : P → P → (D → Prop) → Prop) : Prop where
  run : ∀ {B H : Hp} {x y : V} {p q : P} {QD : D → Prop} {Q : VK}, Ex B H → Rp K B p x → Rp K B q y → rd p q QD →
    (∀ z B' H' d F, QD d → RpD K B' H' d z F → F.Nodup → (∀ a ∈ F, B' a = none) → (∀ a ∈ F, H a = none) → Gr B H B' H' → Q z H') → r x y H Q
def dOp (rd : P → P → (P → Prop) → Prop) (da db : dE) : dE := fun env Q => da env fun p e1 => db e1 fun q e2 => rd p q fun z => Q z e2
def dUn (rd : P → (P → Prop) → Prop) (da : dE) : dE := fun env Q => da env fun p e1 => rd p fun z => Q z e1
def dOpO (rd : P → P → (D → Prop) → Prop) (da db : dE) : dO := fun env Q => da env fun p e1 => db e1 fun q e2 => rd p q fun z => Q z e2
theorem snd_op {r : R2} {rd : P → P → (P → Prop) → Prop} (hs : OpS K r rd) (ha : SndE m K ta da) (hb : SndE m K tb db) : SndE m K (tOp r ta tb) (dOp rd da db) :=
  ⟨fun {B H σ env G QD Q} w h k => ha.run w h fun p e1 v B1 H1 G1 q1 w1 r1 s1 u1 => hb.run w1 q1 fun q e2 u B2 H2 G2 q2 w2 r2 s2 u2 =>
    hs.run w2.ex (Rp.mono s2.ex p r1) r2 q2 fun z B3 H3 pz q3 r3 g3 => k pz e2 z B3 H3 G2 q3 (w2.gr g3) r3 ((s1.trans s2).trans g3.stp) ((u1.trans u2).trans (.gr g3))⟩
theorem snd_un {r : V → Hp → VK → Prop} {rd : P → (P → Prop) → Prop} (hs : UnS K r rd) (ha : SndE m K ta da) : SndE m K (tUn r ta) (dUn rd da) :=
  ⟨fun {B H σ env G QD Q} w h k => ha.run w h fun p e1 v B1 H1 G1 q1 w1 r1 s1 u1 =>
    hs.run w1.ex r1 q1 fun z B3 H3 pz q3 r3 g3 => k pz e1 z B3 H3 G1 q3 (w1.gr g3) r3 (s1.trans g3.stp) (u1.trans (.gr g3))⟩
theorem snd_opO {r : R2} {rd : P → P → (D → Prop) → Prop} (hs : OpO K r rd) (ha : SndE m K ta da) (hb : SndE m K tb db) : SndO m K (tOp r ta tb) (dOpO rd da db) :=
  ⟨fun {B H σ env G QD Q} w h k => ha.run w h fun p e1 v B1 H1 G1 q1 w1 r1 s1 u1 => hb.run w1 q1 fun q e2 u B2 H2 G2 q2 w2 r2 s2 u2 =>
    hs.run w2.ex (Rp.mono s2.ex p r1) r2 q2 fun z B3 H3 d F q3 r3 f1 f2 f3 g3 => by
      have st := (s1.trans s2)
      exact k d e2 z F B3 H3 G2 q3 (w2.gr g3) ⟨r3, f1, f2, fun a ha => .inr (st.back (f3 a ha)), fun a ha i hi => w2.off (f3 a ha) i hi⟩ (st.trans g3.stp) ((u1.trans u2).trans (.gr g3))⟩
end
end DL
set_option Elab.async false
set_option linter.all false
set_option maxRecDepth 100000
namespace DL
open PySem PySem.Spec L2
variable [Rf]
/-- one of two ways, by a truth value -/
def cnd (c : Bool) (A B : Prop) : Prop := (c = true → A) ∧ (c = false → B)
section
variable {m : Bool} {K : PySem.W.Frag} {ta tb te : TE} {da db de : dE} {tt tu : TT} {dt du : dT} {X : Cx} {a b c : Expr} {pos : Pos}
/-! ### from one mode to the other -/
theorem Pure.off {e e1 : Env} {G G1 : Fp} {B H B1 H1 : Hp} : Pure false e e1 G G1 B H B1 H1 := fun h => Bool.noConfusion h
theorem SndE.imp (h : SndE true K te de) : SndE false K te de := ⟨fun w q k => h.run w q fun p e v B H G q1 w1 r1 s1 _ => k p e v B H G q1 w1 r1 s1 .off⟩
theorem SndT.imp (h : SndT true K tt dt) : SndT false K tt dt := ⟨fun w q k => h.run w q fun p e B H G q1 w1 s1 _ => k p e B H G q1 w1 s1 .off⟩
theorem DE.imp {te de} (h : DE true X a te de) : DE false X a te de := ⟨h.pe, h.sd.imp⟩
theorem DT.imp {te de} (h : DT true X a te de) : DT false X a te de := ⟨h.pe, h.sd.imp⟩

/-! ### tests -/
def dB (de : dE) : dT := fun env Q => de env fun p e => match p with
  | .bl b => Q b e
  | _ => False
theorem snd_B (h : SndE m K te de) : SndT m K (tB te) (dB de) := ⟨fun w q k => h.run w q fun p e v B H G q1 w1 r1 s1 u1 => by
  cases p with
  | bl b => exact ⟨b, r1, k b e B H G q1 w1 s1 u1⟩
  | _ => exact q1.elim⟩
theorem snd_test (h : SndE m K te de) : SndT m K (tTest te) (dB de) := ⟨fun w q k => h.run w q fun p e v B H G q1 w1 r1 s1 u1 => by
  cases p with
  | bl b => exact ⟨b, r1, k b e B H G q1 w1 s1 u1⟩
  | _ => exact q1.elim⟩
/-- a value's truth -/
def truP : P → (Bool → Prop) → Prop
  | .non, Q => Q false
  | .bl b, Q => Q b
  | .int i, Q => Q (i != 0)
  | .str s, Q => s.length ≤ sizeLine ∧ Q ((s.length : Int) != 0)
  | .lst xs, Q => Q (!xs.isEmpty)
  | .rol xs, Q => Q (!xs.isEmpty)
  | .tup xs, Q => Q (!xs.isEmpty)
  | _, _ => False
def dTru (de : dE) : dT := fun env Q => de env fun p e => truP p fun b => Q b e
theorem RpA.isEmpty {B : Hp} {ps : List P} {vs : List V} (h : RpA K B ps vs) : vs.isEmpty = ps.isEmpty := by
  have h1 := h.length
  cases vs <;> cases ps <;> first | rfl | simp at h1
theorem tru_ok {B H : Hp} {p : P} {v : V} {QD : Bool → Prop} {Q : Bool → Hp → Prop} (e : Ex B H) (r : Rp K B p v) (q : truP p QD) (k : ∀ b, QD b → Q b H) : ∃ k, TruV K v H k ∧ Q k H := by
  cases p with
  | non => rw [show v = _ from r]; exact ⟨_, rfl, k _ q⟩
  | bl b => rw [show v = _ from r]; exact ⟨_, rfl, k _ q⟩
  | int b => rw [show v = _ from r]; exact ⟨_, rfl, k _ q⟩
  | str b => rw [show v = _ from r]; exact ⟨_, ⟨q.1, rfl⟩, k _ q.2⟩
  | lst xs => obtain ⟨a, vs, rfl, h1, h2⟩ := r; exact ⟨_, .inl ⟨vs, SqL.of (e a _ h1), rfl⟩, by rw [h2.isEmpty]; exact k _ q⟩
  | rol xs => obtain ⟨a, vs, rfl, h1, h2⟩ := r; exact ⟨_, .inl ⟨vs, e.sqL h1, rfl⟩, by rw [h2.isEmpty]; exact k _ q⟩
  | tup xs => obtain ⟨a, vs, rfl, h1, h2⟩ := r; exact ⟨_, .inr (.inl ⟨vs, e.sqT h1, rfl⟩), by rw [h2.isEmpty]; exact k _ q⟩
  | ob _ => exact q.elim
  | ty _ => exact q.elim
  | ins _ _ => exact q.elim
theorem snd_tru (h : SndE m K te de) : SndT m K (fun σ H Q => te σ H fun x H' => ∃ k, TruV K x H' k ∧ Q k H') (dTru de) := ⟨fun w q k => h.run w q fun p e v B H G q1 w1 r1 s1 u1 =>
  tru_ok w1.ex r1 q1 fun b qb => k b e B H G qb w1 s1 u1⟩
def dAnd (dt du : dT) : dT := fun env Q => dt env fun c e => cnd c (du e Q) (Q false e)
def dOr (dt du : dT) : dT := fun env Q => dt env fun c e => cnd c (Q true e) (du e Q)
def dNot (dt : dT) : dT := fun env Q => dt env fun c e => Q (!c) e
theorem snd_and (h : SndT m K tt dt) (g : SndT m K tu du) : SndT m K (tAnd tt tu) (dAnd dt du) := ⟨fun w q k => h.run w q fun b e B H G q1 w1 s1 u1 => by
  cases b with
  | true =>
    replace q1 := q1.1 rfl
    rw [if_pos rfl]
    exact g.run w1 q1 fun b e B H G q2 w2 s2 u2 => k b e B H G q2 w2 (s1.trans s2) (u1.trans u2)
  | false =>
    replace q1 := q1.2 rfl
    rw [if_neg Bool.false_ne_true]
    exact k false e B H G q1 w1 s1 u1⟩
theorem snd_or (h : SndT m K tt dt) (g : SndT m K tu du) : SndT m K (tOr tt tu) (dOr dt du) := ⟨fun w q k => h.run w q fun b e B H G q1 w1 s1 u1 => by
  cases b with
  | false =>
    replace q1 := q1.2 rfl
    rw [if_neg Bool.false_ne_true]
    exact g.run w1 q1 fun b e B H G q2 w2 s2 u2 => k b e B H G q2 w2 (s1.trans s2) (u1.trans u2)
  | true =>
    replace q1 := q1.1 rfl
    rw [if_pos rfl]
    exact k true e B H G q1 w1 s1 u1⟩
theorem snd_not (h : SndT m K tt dt) : SndT m K (tNot tt) (dNot dt) := ⟨fun w q k => h.run w q fun b e B H G q1 w1 s1 u1 => k (!b) e B H G q1 w1 s1 u1⟩
theorem dt_val (h : DE m X a te de) (he : ∀ whole, isTrue a X.env whole = (do let v ← whole; standAt a.pos; holding [v] (truthy v)) := by intro _; rfl) : DT m X a (tB te) (dB de) := ⟨pt_val h.pe he, snd_B h.sd⟩
theorem dt_tru (h : DE m X a te de) (he : ∀ whole, isTrue a X.env whole = (do let v ← whole; standAt a.pos; holding [v] (truthy v)) := by intro _; rfl) : DT m X a (fun σ H Q => te σ H fun x H' => ∃ k, TruV X.K x H' k ∧ Q k H') (dTru de) := ⟨pt_truth h.pe he, snd_tru h.sd⟩
theorem dt_cmp {op : CmpOp} {r : R2} {rd : P → P → (P → Prop) → Prop} (ho : OpR X (compareOp op) r) (hs : OpS X.K r rd) (ha : DE m X a ta da) (hb : DE m X b tb db) (hm : behindInMarks op b = false) :
    DT m X (.Compare a [op] [b] pos) (tTest (tOp r ta tb)) (dB (dOp rd da db)) := ⟨pt_cmpR ho ha.pe hb.pe hm, snd_test (snd_op hs ha.sd hb.sd)⟩
theorem de_cmp {op : CmpOp} {r : R2} {rd : P → P → (P → Prop) → Prop} (ho : OpR X (compareOp op) r) (hs : OpS X.K r rd) (ha : DE m X a ta da) (hb : DE m X b tb db) (hm : behindInMarks op b = false) :
    DE m X (.Compare a [op] [b] pos) (tOp r ta tb) (dOp rd da db) := ⟨pe_cmpR ho ha.pe hb.pe hm, snd_op hs ha.sd hb.sd⟩
theorem de_op {op : Operator} {r : R2} {rd : P → P → (P → Prop) → Prop} (ho : OpR X (binaryOp op) r) (hs : OpS X.K r rd) (ha : DE m X a ta da) (hb : DE m X b tb db) :
    DE m X (.BinOp a op b pos) (tOp r ta tb) (dOp rd da db) := ⟨pe_op ho ha.pe hb.pe, snd_op hs ha.sd hb.sd⟩
theorem do_op {op : Operator} {r : R2} {rd : P → P → (D → Prop) → Prop} (ho : OpR X (binaryOp op) r) (hs : OpO X.K r rd) (ha : DE m X a ta da) (hb : DE m X b tb db) :
    DO m X (.BinOp a op b pos) (tOp r ta tb) (dOpO rd da db) := ⟨pe_op ho ha.pe hb.pe, snd_opO hs ha.sd hb.sd⟩
theorem de_un {op : UnaryOp} {r : V → Hp → VK → Prop} {rd : P → (P → Prop) → Prop} (ho : UnR X (unaryOp op) r) (hs : UnS X.K r rd) (ha : DE m X a ta da) : DE m X (.UnaryOp op a pos) (tUn r ta) (dUn rd da) := ⟨pe_un ho ha.pe, snd_un hs ha.sd⟩
theorem de_ix {r : R2} {rd : P → P → (P → Prop) → Prop} (ho : IxR X r) (hs : OpS X.K r rd) (ha : DE m X a ta da) (hb : DE m X b tb db) (hp : PlainIx b := by intro _ _; rfl) :
    DE m X (.Subscript a b pos) (tOp r ta tb) (dOp rd da db) := ⟨pe_ix ho ha.pe hb.pe hp, snd_op hs ha.sd hb.sd⟩
variable {rest : List Expr} {tA tB' : TT} {dA' dB' : dT}
theorem dw_and1 (h : DT m X a tA dA') : DW m X (.BoolOp .And [a] pos) tA dA' := ⟨pw_and1 h.pe, h.sd⟩
theorem dw_or1 (h : DT m X a tA dA') : DW m X (.BoolOp .Or [a] pos) tA dA' := ⟨pw_or1 h.pe, h.sd⟩
theorem dw_and (h : DT m X a tA dA') (g : DW m X (.BoolOp .And (b :: rest) pos) tB' dB') : DW m X (.BoolOp .And (a :: b :: rest) pos) (tAnd tA tB') (dAnd dA' dB') := ⟨pw_and h.pe g.pe, snd_and h.sd g.sd⟩
theorem dw_or (h : DT m X a tA dA') (g : DW m X (.BoolOp .Or (b :: rest) pos) tB' dB') : DW m X (.BoolOp .Or (a :: b :: rest) pos) (tOr tA tB') (dOr dA' dB') := ⟨pw_or h.pe g.pe, snd_or h.sd g.sd⟩
theorem DW.pt (h : DW m X a tA dA') : DT m X a tA dA' := ⟨h.pe.pt, h.sd⟩
theorem dt_not (h : DT m X a tA dA') : DT m X (.UnaryOp .Not a pos) (tNot tA) (dNot dA') := ⟨pt_not h.pe, snd_not h.sd⟩
/-! ### and, or, not as values (bools) -/
def dAndV (da db : dE) : dE := fun env Q => da env fun p e => match p with
  | .bl c => cnd c (db e Q) (Q (.bl false) e)
  | _ => False
def dOrV (da db : dE) : dE := fun env Q => da env fun p e => match p with
  | .bl c => cnd c (Q (.bl true) e) (db e Q)
  | _ => False
def dNotV (da : dE) : dE := fun env Q => da env fun p e => match p with
  | .bl c => Q (.bl (!c)) e
  | _ => False
theorem snd_andV (h : SndE m K ta da) (g : SndE m K tb db) : SndE m K (tAndV ta tb) (dAndV da db) := ⟨fun w q k => h.run w q fun p e v B H G q1 w1 r1 s1 u1 => by
  cases p with
  | bl c =>
    refine ⟨c, r1, ?_⟩
    cases c with
    | true =>
      replace q1 := q1.1 rfl
      rw [if_pos rfl]
      exact g.run w1 q1 fun b e v B H G q2 w2 r2 s2 u2 => k b e v B H G q2 w2 r2 (s1.trans s2) (u1.trans u2)
    | false =>
      replace q1 := q1.2 rfl
      rw [if_neg Bool.false_ne_true]
      exact k _ e _ B H G q1 w1 rfl s1 u1
  | _ => exact q1.elim⟩
theorem snd_orV (h : SndE m K ta da) (g : SndE m K tb db) : SndE m K (tOrV ta tb) (dOrV da db) := ⟨fun w q k => h.run w q fun p e v B H G q1 w1 r1 s1 u1 => by
  cases p with
  | bl c =>
    refine ⟨c, r1, ?_⟩
    cases c with
    | false =>
      replace q1 := q1.2 rfl
      rw [if_neg Bool.false_ne_true]
      exact g.run w1 q1 fun b e v B H G q2 w2 r2 s2 u2 => k b e v B H G q2 w2 r2 (s1.trans s2) (u1.trans u2)
    | true =>
      replace q1 := q1.1 rfl
      rw [if_pos rfl]
      exact k _ e _ B H G q1 w1 rfl s1 u1
  | _ => exact q1.elim⟩
theorem snd_notV (h : SndE m K ta da) : SndE m K (tNotV ta) (dNotV da) := ⟨fun w q k => h.run w q fun p e v B H G q1 w1 r1 s1 u1 => by
  cases p with
  | bl c => exact ⟨c, r1, k _ e _ B H G q1 w1 rfl s1 u1⟩
  | _ => exact q1.elim⟩
theorem de_one {op} (h : DE m X a ta da) : DE m X (.BoolOp op [a] pos) ta da := ⟨pe_one h.pe, h.sd⟩
theorem de_and (h : DE m X a ta da) (g : DE m X (.BoolOp .And (b :: rest) pos) tb db) : DE m X (.BoolOp .And (a :: b :: rest) pos) (tAndV ta tb) (dAndV da db) := ⟨pe_and h.pe g.pe, snd_andV h.sd g.sd⟩
theorem de_or (h : DE m X a ta da) (g : DE m X (.BoolOp .Or (b :: rest) pos) tb db) : DE m X (.BoolOp .Or (a :: b :: rest) pos) (tOrV ta tb) (dOrV da db) := ⟨pe_or h.pe g.pe, snd_orV h.sd g.sd⟩
theorem de_not (h : DE m X a ta da) : DE m X (.UnaryOp .Not a pos) (tNotV ta) (dNotV da) := ⟨pe_not h.pe, snd_notV h.sd⟩
def dIf (dt : dT) (da db : dE) : dE := fun env Q => dt env fun c e => cnd c (da e Q) (db e Q)
theorem snd_if (h : SndT m K tt dt) (ga : SndE m K ta da) (gb : SndE m K tb db) : SndE m K (tIf tt ta tb) (dIf dt da db) := ⟨fun w q k => h.run w q fun b e B H G q1 w1 s1 u1 => by
  cases b with
  | true =>
    replace q1 := q1.1 rfl
    rw [if_pos rfl]
    exact ga.run w1 q1 fun b e v B H G q2 w2 r2 s2 u2 => k b e v B H G q2 w2 r2 (s1.trans s2) (u1.trans u2)
  | false =>
    replace q1 := q1.2 rfl
    rw [if_neg Bool.false_ne_true]
    exact gb.run w1 q1 fun b e v B H G q2 w2 r2 s2 u2 => k b e v B H G q2 w2 r2 (s1.trans s2) (u1.trans u2)⟩
theorem de_ifExp (h : DT m X c tt dt) (ga : DE m X a ta da) (gb : DE m X b tb db) : DE m X (.IfExp c a b pos) (tIf tt ta tb) (dIf dt da db) := ⟨pe_ifExp h.pe ga.pe gb.pe, snd_if h.sd ga.sd gb.sd⟩
end

/-! ### argument lists -/
def dNil : dA := fun env Q => Q [] env
def dCons (de : dE) (dr : dA) : dA := fun env Q => de env fun p e => dr e fun as e2 => Q (.inl p :: as) e2
def dSlot (i : Nat) (dr : dA) : dA := fun env Q => match env[i]? with
  | some (some _) => dr env fun as e2 => Q (.inr i :: as) e2
  | _ => False
section
variable {m : Bool} {K : PySem.W.Frag} {te : TE} {de : dE} {ta : TA} {da : dA} {X : Cx} {a b c : Expr} {es : List Expr} {pos : Pos}
theorem snd_nil : SndA m K tNil dNil := ⟨fun {B H σ env G QD Q} w q k => k [] env [] B H G q w rfl .refl (.gr (.refl w.ex))⟩
theorem snd_cons (h : SndE m K te de) (g : SndA m K ta da) : SndA m K (tCons te ta) (dCons de da) := ⟨fun w q k => h.run w q fun p e v B H G q1 w1 r1 s1 u1 =>
  g.run w1 q1 fun as e2 vs B2 H2 G2 q2 w2 r2 s2 u2 => k _ e2 _ B2 H2 G2 q2 w2 ⟨v, vs, rfl, Rp.mono s2.ex p r1, r2⟩ (s1.trans s2) (u1.trans u2)⟩
theorem da_nil : DA m X [] tNil dNil := ⟨pa_nil, snd_nil⟩
theorem da_cons (h : DE m X a te de) (g : DA m X es ta da) (hs : starEach (a :: es) X.env = (false, eval a X.env) :: starEach es X.env := by rfl) : DA m X (a :: es) (tCons te ta) (dCons de da) := ⟨pa_cons h.pe g.pe hs, snd_cons h.sd g.sd⟩
theorem snd_slot {i : Nat} (g : SndA m K ta da) : SndA m K (tCons (tVar i) ta) (dSlot i da) := ⟨fun {B H σ env G QD Q} w q k => by
  unfold dSlot at q
  split at q
  · rename_i d hd
    obtain ⟨v, hv, _⟩ := w.sl i d hd
    exact ⟨v, hv, g.run w q fun as e2 vs B2 H2 G2 q2 w2 r2 s2 u2 => k _ e2 _ B2 H2 G2 q2 w2 ⟨v, vs, rfl, hv, r2⟩ s2 u2⟩
  · exact q.elim⟩
theorem da_slot {i : Nat} (h : PE X a (tVar i)) (g : DA m X es ta da) (hs : starEach (a :: es) X.env = (false, eval a X.env) :: starEach es X.env := by rfl) : DA m X (a :: es) (tCons (tVar i) ta) (dSlot i da) := ⟨pa_cons h g.pe hs, snd_slot g.sd⟩
end
end DL
set_option Elab.async false
set_option linter.all false
set_option maxRecDepth 100000
namespace DL
open PySem PySem.Spec L2
variable [Rf]
/-! ### a slot's own list becomes plain -/
def frzB (B H : Hp) (F : List Addr) : Hp := fun a => if a ∈ F then H a else B a
theorem frz_rp {K : PySem.W.Frag} {B H : Hp} {F : List Addr} (nb : ∀ a ∈ F, B a = none) : ∀ {d : D} {v : V}, RpD K B H d v F → Rp K (frzB B H F) d.frz v := by
  have e : Ex B (frzB B H F) := fun a o h => by
    unfold frzB
    rw [if_neg]
    · exact h
    · intro hm; rw [nb a hm] at h; cases h
  intro d v h
  cases d with
  | sh p => exact Rp.mono e p h.2
  | ol ps =>
    obtain ⟨a, vs, e1, e2, e3, e4⟩ := h
    refine ⟨a, vs, e2, ?_, RpA.mono e ps e4⟩
    unfold frzB
    rw [if_pos (by rw [e1]; exact List.mem_cons_self)]
    exact e3
  | oll pss =>
    obtain ⟨a, as, e1, e2, e3, e4, e5⟩ := h
    refine ⟨a, as.map V.ref, e2, ?_, ?_⟩
    · unfold frzB
      rw [if_pos (by rw [e1]; exact List.mem_cons_self)]
      exact e3
    · have hF : ∀ b ∈ as, b ∈ F := fun b hb => by rw [e1]; exact List.mem_cons_of_mem _ hb
      clear e1 e2 e3
      induction as generalizing pss with
      | nil =>
        cases pss with
        | nil => rfl
        | cons _ _ => simp at e4
      | cons b as ih =>
        cases pss with
        | nil => simp at e4
        | cons ps pss =>
          obtain ⟨vs, g1, g2⟩ := e5 0 b ps rfl rfl
          refine ⟨.ref b, as.map V.ref, rfl, ⟨b, vs, rfl, ?_, RpA.mono e ps g2⟩, ih pss (by simpa using e4) (fun i c qs h1 h2 => e5 (i + 1) c qs h1 h2) fun c hc => hF c (List.mem_cons_of_mem _ hc)⟩
          unfold frzB
          rw [if_pos (hF b List.mem_cons_self)]
          exact g1
  | oi C fs =>
    obtain ⟨a, dx, fv, e1, e2, e3, e4, e5⟩ := h
    refine ⟨a, dx, fv, e2, ?_, RpF.mono e fs e5⟩
    unfold frzB
    rw [if_pos (by rw [e1]; exact List.mem_cons_self)]
    exact e3
theorem frz_gr {B H : Hp} {F : List Addr} (ex : Ex B H) (nb : ∀ a ∈ F, B a = none) : Ex B (frzB B H F) ∧ Ex (frzB B H F) H := by
  refine ⟨fun a o h => ?_, fun a o h => ?_⟩
  · unfold frzB
    rw [if_neg]
    · exact h
    · intro hm; rw [nb a hm] at h; cases h
  · unfold frzB at h
    split at h
    · exact h
    · exact ex a o h
/-- objects that belong to no slot become plain -/
theorem Wd.frzO {K : PySem.W.Frag} {B H : Hp} {σ : L2.St} {env : Env} {G : Fp} {F : List Addr} (w : Wd K B H σ env G) (nb : ∀ a ∈ F, B a = none) (ap : ∀ a ∈ F, ∀ i, a ∉ G i) : Wd K (frzB B H F) H σ env G where
  rf := w.rf.trans (frz_gr w.ex nb).1
  ex := (frz_gr w.ex nb).2
  sl := fun i d e => by
    obtain ⟨v, h1, h2⟩ := w.sl i d e
    exact ⟨v, h1, RpD.mono (frz_gr w.ex nb).1 h2 fun _ _ _ h => h⟩
  no := w.no
  nd := w.nd
  dj := w.dj
  nb := fun i a h => by
    unfold frzB
    rw [if_neg fun hm => ap a hm i h]
    exact w.nb i a h
  len := w.len
section
variable {m : Bool} {K : PySem.W.Frag} {te : TE} {de : dE} {dq : dO} {ta : TA} {da : dA} {X : Cx} {a b c e : Expr} {es : List Expr} {pos : Pos}
def dFrz (dq : dO) : dE := fun env Q => dq env fun d e => Q d.frz e
theorem snd_frz (h : SndO m K te dq) : SndE m K te (dFrz dq) := ⟨fun {B H σ env G QD Q} w q k => h.run w q fun d e v F B1 H1 G1 q1 w1 o1 s1 u1 => by
  have st : Stp B H G (frzB B1 H1 F) H1 G1 := ⟨s1.ex.trans (frz_gr w1.ex o1.nb).1, s1.kp, s1.fp, fun a o h n hg => by
    unfold frzB
    rw [if_neg fun hm => by
      rcases o1.nw a hm with ⟨j, hj⟩ | hn
      · exact hg j hj
      · rw [hn] at h; cases h]
    exact s1.bs a o h n hg, s1.th⟩
  refine k d.frz e v (frzB B1 H1 F) H1 G1 q1 (w1.frzO o1.nb o1.ap) (frz_rp o1.nb o1.rp) st fun hm => ?_
  obtain ⟨e1, e2, g⟩ := u1 hm
  refine ⟨e1, e2, ⟨g.b.trans (frz_gr w1.ex o1.nb).1, g.h, (frz_gr w1.ex o1.nb).2, fun a o h n => ?_⟩⟩
  unfold frzB
  rw [if_neg fun hm => by
    rcases o1.nw a hm with ⟨j, hj⟩ | hn
    · exact o1.ap a hm j (by rw [e2]; exact hj)
    · rw [hn] at h; cases h]
  exact g.n a o h n⟩
theorem de_o (h : DO m X a te dq) : DE m X a te (dFrz dq) := ⟨h.pe, snd_frz h.sd⟩
def dSh (de : dE) : dO := fun env Q => de env fun p e => Q (.sh p) e
theorem snd_sh (h : SndE m K te de) : SndO m K te (dSh de) := ⟨fun w q k => h.run w q fun p e v B H G q1 w1 r1 s1 u1 =>
  k _ e v [] B H G q1 w1 ⟨⟨rfl, r1⟩, List.nodup_nil, fun _ h => absurd h List.not_mem_nil, fun _ h => absurd h List.not_mem_nil, fun _ h => absurd h List.not_mem_nil⟩ s1 u1⟩
theorem do_e (h : DE m X a te de) : DO m X a te (dSh de) := ⟨h.pe, snd_sh h.sd⟩
/-- a name that holds an own list, read as plain: from then on it is plain -/
def dVarF (i : Nat) : dE := fun env Q => match env[i]? with
  | some (some d) => Q d.frz (env.set i (some (.sh d.frz)))
  | _ => False
theorem set_some {α : Type} {l : List α} {i j : Nat} {x y : α} (h : (l.set i x)[j]? = some y) : (i = j ∧ x = y ∧ i < l.length) ∨ (i ≠ j ∧ l[j]? = some y) := by
  by_cases e : i = j
  · subst e
    by_cases hi : i < l.length
    · rw [List.getElem?_set_self hi] at h
      exact .inl ⟨rfl, Option.some.inj h, hi⟩
    · rw [List.getElem?_eq_none (by simpa using hi)] at h; cases h
  · rw [List.getElem?_set_ne e] at h
    exact .inr ⟨e, h⟩
/-- the slot i is given a value -/
theorem Wd.put {B H : Hp} {σ : L2.St} {env : Env} {G : Fp} {i : Nat} {d : D} {v : V} {F : List Addr} (w : Wd K B H σ env G) (hi : i < env.length) (r : RpD K B H d v F) (nd : F.Nodup) (nb : ∀ a ∈ F, B a = none) (ap : ∀ a ∈ F, ∀ j, j ≠ i → a ∉ G j) :
    Wd K B H (σ.set i (some v)) (env.set i (some d)) (fun j => if j = i then F else G j) where
  rf := w.rf
  ex := w.ex
  sl := fun j d' e => by
    rcases set_some e with ⟨rfl, e2, _⟩ | ⟨n, e⟩
    · cases e2
      refine ⟨v, List.getElem?_set_self (by rw [← w.len]; exact hi), ?_⟩
      rw [if_pos rfl]; exact r
    · obtain ⟨v', h1, h2⟩ := w.sl j d' e
      refine ⟨v', by rw [List.getElem?_set_ne n]; exact h1, ?_⟩
      rw [if_neg fun q => n q.symm]; exact h2
  no := fun j h => by
    by_cases e : j = i
    · subst e
      exact absurd (List.getElem?_set_self hi) (h d)
    · show (if j = i then F else G j) = []
      rw [if_neg e]
      refine w.no j fun d' => ?_
      have := h d'
      rw [List.getElem?_set_ne fun q => e q.symm] at this
      exact this
  nd := fun j => by
    show (if j = i then F else G j).Nodup
    split
    · exact nd
    · exact w.nd j
  dj := fun j k a h1 h2 => by
    change a ∈ (if j = i then F else G j) at h1
    change a ∈ (if k = i then F else G k) at h2
    split at h1 <;> split at h2
    · rename_i e1 e2; rw [e1, e2]
    · rename_i e1 e2; exact absurd h2 (ap a h1 k e2)
    · rename_i e1 e2; exact absurd h1 (ap a h2 j e1)
    · exact w.dj j k a h1 h2
  nb := fun j a h => by
    change a ∈ (if j = i then F else G j) at h
    split at h
    · exact nb a h
    · exact w.nb j a h
  len := by rw [List.length_set, List.length_set]; exact w.len
theorem env_lt {env : Env} {i : Nat} {d : D} (e : env[i]? = some (some d)) : i < env.length := (List.getElem?_eq_some_iff.mp e).1
theorem set_id {α : Type} {l : List α} {i : Nat} {x : α} (h : l[i]? = some x) : l.set i x = l := by
  apply List.ext_getElem?
  intro j
  by_cases e : i = j
  · subst e
    rw [List.getElem?_set_self (List.getElem?_eq_some_iff.mp h).1, h]
  · rw [List.getElem?_set_ne e]
theorem snd_varF {i : Nat} : SndE false K (tVar i) (dVarF i) := ⟨fun {B H σ env G QD Q} w h k => by
  unfold dVarF at h
  split at h
  · rename_i d e
    obtain ⟨v, h1, h2⟩ := w.sl i _ e
    have nb : ∀ a ∈ G i, B a = none := fun a ha => w.nb i a ha
    have fg := frz_gr w.ex nb
    have wz : Wd K (frzB B H (G i)) H σ (env.set i none) (fun j => if j = i then [] else G j) := by
      refine ⟨⟨fg.2, fun j d' e' => ?_, fun j hn => ?_, fun j => ?_, fun j l a ha hb => ?_, fun j a ha => ?_, by rw [List.length_set]; exact w.len⟩, w.rf.trans fg.1⟩
      · rcases set_some e' with ⟨_, e2, _⟩ | ⟨n, e'⟩
        · cases e2
        · obtain ⟨v', g1, g2⟩ := w.sl j d' e'
          refine ⟨v', g1, ?_⟩
          rw [if_neg fun q => n q.symm]
          exact RpD.mono fg.1 g2 fun _ _ _ h => h
      · show (if j = i then [] else G j) = []
        split
        · rfl
        · rename_i n
          refine w.no j fun d' => ?_
          have := hn d'
          rw [List.getElem?_set_ne fun q => n q.symm] at this
          exact this
      · show (if j = i then [] else G j).Nodup
        split
        · exact List.nodup_nil
        · exact w.nd j
      · change a ∈ (if j = i then [] else G j) at ha
        change a ∈ (if l = i then [] else G l) at hb
        split at ha
        · cases ha
        · split at hb
          · cases hb
          · exact w.dj j l a ha hb
      · change a ∈ (if j = i then [] else G j) at ha
        split at ha
        · cases ha
        · rename_i n
          unfold frzB
          rw [if_neg fun hm => n (w.dj j i a ha hm)]
          exact w.nb j a ha
    have w2 := wz.put (i := i) (d := .sh d.frz) (v := v) (F := []) (by rw [List.length_set]; exact env_lt e) ⟨rfl, frz_rp nb h2⟩ List.nodup_nil (fun _ h => absurd h List.not_mem_nil) (fun _ h => absurd h List.not_mem_nil)
    rw [set_id h1, List.set_set] at w2
    refine ⟨v, h1, k _ _ v _ H _ h w2 (frz_rp nb h2) ⟨fg.1, fun a o h _ => h, fun j a ha => ?_, fun a o ho n hg => ?_, fun a o ho => ⟨o, ho⟩⟩ .off⟩
    · change a ∈ (if j = i then [] else if j = i then [] else G j) at ha
      split at ha
      · cases ha
      · exact .inl ⟨j, ha⟩
    · unfold frzB
      rw [if_neg (hg i)]
      exact n
  · exact h.elim⟩
theorem de_vF (i : Nat) (h : PE X a (tVar i)) : DE false X a (tVar i) (dVarF i) := ⟨h, snd_varF⟩

/-! ### displays -/
def prs : List AR → Option (List P)
  | [] => some []
  | .inl p :: as => (prs as).map (p :: ·)
  | .inr _ :: _ => none
theorem RpX.all {B : Hp} {σ : L2.St} : ∀ {as : List AR} {vs : List V} {ps : List P}, RpX K B σ as vs → prs as = some ps → RpA K B ps vs
  | [], _, _, h, e => by cases Option.some.inj e; exact h
  | .inl p :: as, _, ps, ⟨v, r, e1, e2, e3⟩, e => by
    unfold prs at e
    cases h : prs as with
    | none => rw [h] at e; cases e
    | some qs =>
      rw [h] at e
      cases Option.some.inj e
      exact ⟨v, r, e1, e2, RpX.all e3 h⟩
  | .inr i :: as, _, ps, _, e => by cases e
def dLst (da : dA) : dO := fun env Q => da env fun as e => match prs as with
  | some ps => ps.length ≤ sizeLine ∧ Q (.ol ps) e
  | none => False
def dTup (da : dA) : dE := fun env Q => da env fun as e => match prs as with
  | some ps => ps.length ≤ sizeLine ∧ Q (.tup ps) e
  | none => False
theorem own_new {B H : Hp} {σ : L2.St} {env : Env} {G : Fp} {p : Addr} {vs : List V} {ps : List P} {H0 : Hp} {G0 : Fp} (w : Wd K B H σ env G) (h : H p = none) (h0 : H0 p = none) (r : RpA K B ps vs) :
    Wd K B (upd H p (.lst vs)) σ env G ∧ Own K H0 G0 B (upd H p (.lst vs)) G (.ol ps) (.ref p) [p] ∧ Gr B H B (upd H p (.lst vs)) := by
  have g : Gr B H B (upd H p (.lst vs)) := ⟨Ex.refl _, fun a u k => by rw [upd_ne (ne_of_none k h)]; exact k, fun a u k => by rw [upd_ne (ne_of_none (w.ex a u k) h)]; exact w.ex a u k, fun a u k n => n⟩
  refine ⟨w.gr g, ⟨⟨p, vs, rfl, rfl, upd_same, r⟩, by simp, fun a ha => ?_, fun a ha => ?_, fun a ha i hi => ?_⟩, g⟩
  · rw [List.mem_singleton.mp ha]; exact w.ex.back h
  · rw [List.mem_singleton.mp ha]; exact .inr h0
  · rw [List.mem_singleton.mp ha] at hi; exact w.off h i hi
theorem snd_lst (h : SndA m K ta da) : SndO m K (tLst ta) (dLst da) := ⟨fun {B H σ env G QD Q} w q k => h.run w q fun as e vs B1 H1 G1 q1 w1 r1 s1 u1 => by
  change (match prs as with | some ps => ps.length ≤ sizeLine ∧ QD (.ol ps) e | none => False) at q1
  split at q1
  · rename_i ps hp
    have ra := r1.all hp
    refine ⟨by rw [ra.length]; exact q1.1, fun p hn => ?_⟩
    obtain ⟨w2, o2, g2⟩ := own_new w1 hn (s1.back hn) ra
    exact k _ e _ [p] B1 _ G1 q1.2 w2 o2 (s1.trans g2.stp) (u1.trans (.gr g2))
  · exact q1.elim⟩
theorem snd_tup (h : SndA m K ta da) : SndE m K (tTup ta) (dTup da) := ⟨fun {B H σ env G QD Q} w q k => h.run w q fun as e vs B1 H1 G1 q1 w1 r1 s1 u1 => by
  change (match prs as with | some ps => ps.length ≤ sizeLine ∧ QD (.tup ps) e | none => False) at q1
  split at q1
  · rename_i ps hp
    have ra := r1.all hp
    refine ⟨by rw [ra.length]; exact q1.1, fun p hn => ?_⟩
    have g2 := gr_new (o := .tup vs) w1.ex hn
    exact k _ e _ _ _ G1 q1.2 (w1.gr g2) ⟨p, vs, rfl, SqT.of upd_same, RpA.mono g2.b ps ra⟩ (s1.trans g2.stp) (u1.trans (.gr g2))
  · exact q1.elim⟩
theorem do_lst (h : DA m X es ta da) : DO m X (.List es pos) (tLst ta) (dLst da) := ⟨pe_lst h.pe, snd_lst h.sd⟩
theorem de_tup {x1} (h : DA m X es ta da) : DE m X (.Tuple es x1 pos) (tTup ta) (dTup da) := ⟨pe_tup h.pe, snd_tup h.sd⟩

/-! ### built-ins -/
structure CbS (K : PySem.W.Frag) (r : List V → Hp → VK → Prop) (rd : List P → (P → Prop) → Prop) : Prop where
  run : ∀ {B H : Hp} {xs : List V} {ps : List P} {QD : P → Prop} {Q : VK}, Ex B H → RpA K B ps xs → rd ps QD →
    (∀ z B' H' pz, QD pz → Rp K B' pz z → Gr B H B' H' → Q z H') → r xs H Q
structure CbO (K : PySem.W.Frag) (r : List V → Hp → VK → Prop) (rd : List P → (List P → Prop) → Prop) : Prop where
  run : ∀ {B H : Hp} {xs : List V} {ps : List P} {QD : List P → Prop} {Q : VK}, Ex B H → RpA K B ps xs → rd ps QD →
    (∀ l ys zs, QD zs → RpA K B zs ys → H l = none → Q (.ref l) (upd H l (.lst ys))) → r xs H Q
def dCb (rd : List P → (P → Prop) → Prop) (da : dA) : dE := fun env Q => da env fun as e => match prs as with
  | some ps => rd ps fun p => Q p e
  | none => False
def dCbO (rd : List P → (List P → Prop) → Prop) (da : dA) : dO := fun env Q => da env fun as e => match prs as with
  | some ps => rd ps fun p => Q (.ol p) e
  | none => False
theorem snd_cb {r : List V → Hp → VK → Prop} {rd : List P → (P → Prop) → Prop} (hs : CbS K r rd) (h : SndA m K ta da) : SndE m K (tCB r ta) (dCb rd da) := ⟨fun {B H σ env G QD Q} w q k => h.run w q fun as e vs B1 H1 G1 q1 w1 r1 s1 u1 => by
  change (match prs as with | some ps => rd ps fun p => QD p e | none => False) at q1
  split at q1
  · rename_i ps hp
    exact hs.run w1.ex (r1.all hp) q1 fun z B2 H2 pz q2 r2 g2 => k pz e z B2 H2 G1 q2 (w1.gr g2) r2 (s1.trans g2.stp) (u1.trans (.gr g2))
  · exact q1.elim⟩
theorem snd_cbO {r : List V → Hp → VK → Prop} {rd : List P → (List P → Prop) → Prop} (hs : CbO K r rd) (h : SndA m K ta da) : SndO m K (tCB r ta) (dCbO rd da) := ⟨fun {B H σ env G QD Q} w q k => h.run w q fun as e vs B1 H1 G1 q1 w1 r1 s1 u1 => by
  change (match prs as with | some ps => rd ps fun p => QD (.ol p) e | none => False) at q1
  split at q1
  · rename_i ps hp
    exact hs.run w1.ex (r1.all hp) q1 fun l ys zs q2 r2 hn => by
      obtain ⟨w2, o2, g2⟩ := own_new w1 hn (s1.back hn) r2
      exact k _ e _ [l] B1 _ G1 q2 w2 o2 (s1.trans g2.stp) (u1.trans (.gr g2))
  · exact q1.elim⟩
theorem de_cb {r : List V → Hp → VK → Prop} {rd : List P → (P → Prop) → Prop} {e0 : Expr} (h : PA X (e0 :: es) ta → PE X a (tCB r ta)) (hs : CbS X.K r rd) (ha : DA m X (e0 :: es) ta da) : DE m X a (tCB r ta) (dCb rd da) := ⟨h ha.pe, snd_cb hs ha.sd⟩
theorem do_cb {r : List V → Hp → VK → Prop} {rd : List P → (List P → Prop) → Prop} {e0 : Expr} (h : PA X (e0 :: es) ta → PE X a (tCB r ta)) (hs : CbO X.K r rd) (ha : DA m X (e0 :: es) ta da) : DO m X a (tCB r ta) (dCbO rd da) := ⟨h ha.pe, snd_cbO hs ha.sd⟩
end
end DL
set_option Elab.async false
set_option linter.all false
set_option maxRecDepth 100000
namespace DL
open PySem PySem.Spec L2
variable [Rf]
/-- the slot is there -/
def inE : Nat → Env → Bool
  | _, [] => false
  | 0, _ :: _ => true
  | i + 1, _ :: e => inE i e
theorem inE_lt : ∀ {i : Nat} {e : Env}, inE i e = true → i < e.length
  | 0, [], h => by simp [inE] at h
  | _ + 1, [], h => by simp [inE] at h
  | 0, _ :: e, _ => Nat.succ_pos _
  | i + 1, _ :: e, h => Nat.succ_lt_succ (inE_lt (i := i) (e := e) h)
structure dEnds where
  nx : Env → Prop
  rt : D → Env → Prop
  bk : Env → Prop := fun _ => False
  ct : Env → Prop := fun _ => False
abbrev dS := dEnds → Env → Prop
/-- the slots of pn keep their values -/
def Pin (pn : List Nat) (σ σ' : L2.St) : Prop := σ'.length = σ.length ∧ ∀ i ∈ pn, σ'[i]? = σ[i]?
theorem Pin.refl {pn : List Nat} {σ : L2.St} : Pin pn σ σ := ⟨rfl, fun _ _ => rfl⟩
theorem Pin.trans {pn : List Nat} {σ σ1 σ2 : L2.St} (a : Pin pn σ σ1) (b : Pin pn σ1 σ2) : Pin pn σ σ2 := ⟨b.1.trans a.1, fun i h => (b.2 i h).trans (a.2 i h)⟩
theorem Pin.set {pn : List Nat} {σ : L2.St} {i : Nat} {x : Option V} (h : i ∉ pn) : Pin pn σ (σ.set i x) := ⟨List.length_set, fun j hj => List.getElem?_set_ne fun e => h (by rw [e]; exact hj)⟩
/-- what is shown of the place behind: from the world at the start -/
def Nx (K : PySem.W.Frag) (pn : List Nat) (B H : Hp) (G : Fp) (σ : L2.St) (nd : Env → Prop) (n : L2.St → Hp → Prop) : Prop :=
  ∀ env' σ' B' H' G', nd env' → Wd K B' H' σ' env' G' → Stp B H G B' H' G' → Pin pn σ σ' → n σ' H'
def Rt (K : PySem.W.Frag) (pn : List Nat) (B H : Hp) (G : Fp) (σ : L2.St) (rd : D → Env → Prop) (r : VK) : Prop :=
  ∀ d env' σ' v F B' H' G', rd d env' → Wd K B' H' σ' env' G' → Own K H G B' H' G' d v F → Stp B H G B' H' G' → Pin pn σ σ' → r v H'
theorem Nx.at {K : PySem.W.Frag} {pn : List Nat} {B H B1 H1 : Hp} {G G1 : Fp} {σ σ1 : L2.St} {nd : Env → Prop} {n : L2.St → Hp → Prop} (h : Nx K pn B H G σ nd n) (s : Stp B H G B1 H1 G1) (p : Pin pn σ σ1) : Nx K pn B1 H1 G1 σ1 nd n :=
  fun env' σ' B' H' G' q w s2 p2 => h env' σ' B' H' G' q w (s.trans s2) (p.trans p2)
theorem Rt.at {K : PySem.W.Frag} {pn : List Nat} {B H B1 H1 : Hp} {G G1 : Fp} {σ σ1 : L2.St} {rd : D → Env → Prop} {r : VK} (h : Rt K pn B H G σ rd r) (s : Stp B H G B1 H1 G1) (p : Pin pn σ σ1) : Rt K pn B1 H1 G1 σ1 rd r :=
  fun d env' σ' v F B' H' G' q w o s2 p2 => h d env' σ' v F B' H' G' q w ⟨o.rp, o.nd, o.nb, fun a ha => (o.nw a ha).elim (fun ⟨j, hj⟩ => s.fp j a hj) (fun hn => .inr (s.back hn)), o.ap⟩ (s.trans s2) (p.trans p2)
structure SndS (pn : List Nat) (K : PySem.W.Frag) (ts : TS) (ds : dS) : Prop where
  run : ∀ {B H : Hp} {σ : L2.St} {env : Env} {G : Fp} {Dd : dEnds} {D : Ends}, Wd K B H σ env G → ds Dd env →
    Nx K pn B H G σ Dd.nx D.nx → Rt K pn B H G σ Dd.rt D.rt → Nx K pn B H G σ Dd.bk D.bk → Nx K pn B H G σ Dd.ct D.ct → ts D σ H
structure DS (pn : List Nat) (X : Cx) (st : Stmt) (ts : TS) (ds : dS) : Prop where
  pe : PS X st ts
  sd : SndS pn X.K ts ds
structure DSs (pn : List Nat) (X : Cx) (st : List Stmt) (ts : TS) (ds : dS) : Prop where
  pe : PSs X st ts
  sd : SndS pn X.K ts ds
def dNext : dS := fun Dd env => Dd.nx env
def dSeq (a b : dS) : dS := fun Dd env => a { Dd with nx := b Dd } env
def dBreak : dS := fun Dd env => Dd.bk env
def dCont : dS := fun Dd env => Dd.ct env
section
variable {pn : List Nat} {m : Bool} {K : PySem.W.Frag} {te ta tb : TE} {de da db : dE} {dq : dO} {tt : TT} {dt : dT} {t u : TS} {dt1 du : dS} {X : Cx} {a b c e : Expr} {st : Stmt} {rest sb : List Stmt} {pos : Pos}
theorem dss_nil : DSs pn X [] tNext dNext := ⟨pss_nil, ⟨fun {B H σ env G Dd D} w q n r k1 k2 => n env σ B H G q w .refl .refl⟩⟩
theorem snd_seq (h : SndS pn K t dt1) (g : SndS pn K u du) : SndS pn K (tSeq t u) (dSeq dt1 du) := ⟨fun {B H σ env G Dd D} w q n r k1 k2 =>
  h.run (D := { D with nx := u D }) w q (fun env' σ' B' H' G' q1 w1 s1 p1 => g.run w1 q1 (n.at s1 p1) (r.at s1 p1) (k1.at s1 p1) (k2.at s1 p1)) r k1 k2⟩
theorem dss_cons (h : DS pn X st t dt1) (g : DSs pn X rest u du) : DSs pn X (st :: rest) (tSeq t u) (dSeq dt1 du) := ⟨pss_cons h.pe g.pe, snd_seq h.sd g.sd⟩
theorem dss_one (h : DS pn X st t dt1) : DSs pn X [st] t dt1 := ⟨pss_one h.pe, h.sd⟩
theorem ds_pass : DS pn X (.Pass pos) tNext dNext := ⟨ps_pass, ⟨fun {B H σ env G Dd D} w q n r k1 k2 => n env σ B H G q w .refl .refl⟩⟩
theorem ds_break : DS pn X (.Break pos) tBreak dBreak := ⟨ps_break, ⟨fun {B H σ env G Dd D} w q n r k1 k2 => k1 env σ B H G q w .refl .refl⟩⟩
theorem ds_continue : DS pn X (.Continue pos) tCont dCont := ⟨ps_continue, ⟨fun {B H σ env G Dd D} w q n r k1 k2 => k2 env σ B H G q w .refl .refl⟩⟩
/-- an expression whose value is dropped -/
def dDrop (de : dE) : dS := fun Dd env => de env fun _ e => Dd.nx e
theorem snd_drop (h : SndE m K te de) : SndS pn K (tDrop te) (dDrop de) := ⟨fun {B H σ env G Dd D} w q n r k1 k2 => h.run w q fun p env' v B' H' G' q1 w1 r1 s1 _ => n env' σ B' H' G' q1 w1 s1 .refl⟩
theorem ds_drop (h : DE false X e te de) (hs : swapsWith e none pos.line X.env = pure false := by rfl) : DS pn X (.Expr e pos) (tDrop te) (dDrop de) := ⟨ps_expr h.pe hs, snd_drop h.sd⟩
def dRet (dq : dO) : dS := fun Dd env => dq env Dd.rt
theorem snd_ret (h : SndO m K te dq) : SndS pn K (tRet te) (dRet dq) := ⟨fun {B H σ env G Dd D} w q n r k1 k2 => h.run w q fun d env' v F B' H' G' q1 w1 o1 s1 _ => r d env' σ v F B' H' G' q1 w1 o1 s1 .refl⟩
theorem ds_retO (h : DO false X e te dq) : DS pn X (.Return (some e) pos) (tRet te) (dRet dq) := ⟨ps_ret h.pe, snd_ret h.sd⟩
theorem ds_ret (h : DE false X e te de) : DS pn X (.Return (some e) pos) (tRet te) (dRet (dSh de)) := ⟨ps_ret h.pe, snd_ret (snd_sh h.sd)⟩
def dRetN : dS := fun Dd env => Dd.rt (.sh .non) env
theorem ds_retN : DS pn X (.Return none pos) tRetN dRetN := ⟨ps_retN, ⟨fun {B H σ env G Dd D} w q n r k1 k2 => r _ env σ .non [] B H G q w ⟨⟨rfl, rfl⟩, List.nodup_nil, fun _ h => absurd h List.not_mem_nil, fun _ h => absurd h List.not_mem_nil, fun _ h => absurd h List.not_mem_nil⟩ .refl .refl⟩⟩
def dIfS (dt : dT) (a b : dS) : dS := fun Dd env => dt env fun c e => cnd c (a Dd e) (b Dd e)
theorem snd_ifS (h : SndT m K tt dt) (g : SndS pn K t dt1) (f : SndS pn K u du) : SndS pn K (tIfS tt t u) (dIfS dt dt1 du) := ⟨fun {B H σ env G Dd D} w q n r k1 k2 => h.run w q fun b env' B' H' G' q1 w1 s1 _ => by
  cases b with
  | true =>
    replace q1 := q1.1 rfl
    rw [if_pos rfl]
    exact g.run w1 q1 (n.at s1 .refl) (r.at s1 .refl) (k1.at s1 .refl) (k2.at s1 .refl)
  | false =>
    replace q1 := q1.2 rfl
    rw [if_neg Bool.false_ne_true]
    exact f.run w1 q1 (n.at s1 .refl) (r.at s1 .refl) (k1.at s1 .refl) (k2.at s1 .refl)⟩
theorem ds_if (h : DT false X c tt dt) (g : DSs pn X rest t dt1) (f : DSs pn X sb u du) : DS pn X (.If c rest sb pos) (tIfS tt t u) (dIfS dt dt1 du) := ⟨ps_if h.pe g.pe f.pe, snd_ifS h.sd g.sd f.sd⟩

/-! ### targets -/
abbrev dG := P → Env → (Env → Prop) → Prop
def NxG (K : PySem.W.Frag) (pn : List Nat) (B H : Hp) (G : Fp) (σ : L2.St) (nd : Env → Prop) (n : L2.St → Hp → Prop) : Prop :=
  ∀ env' σ' G', nd env' → Wd K B H σ' env' G' → (∀ i a, a ∈ G' i → ∃ j, a ∈ G j) → Pin pn σ σ' → n σ' H
theorem stp_g {B H : Hp} {G G' : Fp} (h : ∀ i a, a ∈ G' i → ∃ j, a ∈ G j) : Stp B H G B H G' := ⟨Ex.refl _, fun _ _ h _ => h, fun i a k => .inl (h i a k), fun _ _ _ h _ => h, fun a o h => ⟨o, h⟩⟩
theorem Nx.g {pn : List Nat} {K : PySem.W.Frag} {B H : Hp} {G : Fp} {σ : L2.St} {nd : Env → Prop} {n : L2.St → Hp → Prop} (h : Nx K pn B H G σ nd n) : NxG K pn B H G σ nd n :=
  fun env' σ' G' q w g p => h env' σ' B H G' q w (stp_g g) p
structure SndG (pn : List Nat) (K : PySem.W.Frag) (g : TG) (dg : dG) : Prop where
  run : ∀ {B H : Hp} {σ : L2.St} {env : Env} {G : Fp} {p : P} {v : V} {QD : Env → Prop} {Q : L2.St → Hp → Prop}, Wd K B H σ env G → Rp K B p v → dg p env QD → NxG K pn B H G σ QD Q → g v σ H Q
structure DG (pn : List Nat) (X : Cx) (tg : Expr) (g : TG) (dg : dG) : Prop where
  pe : PG X tg g
  sd : SndG pn X.K g dg
def dgName (i : Nat) : dG := fun p env Q => inE i env = true ∧ Q (env.set i (some (.sh p)))
theorem Wd.putS {B H : Hp} {σ : L2.St} {env : Env} {G : Fp} {i : Nat} {p : P} {v : V} (w : Wd K B H σ env G) (hi : i < env.length) (r : Rp K B p v) :
    Wd K B H (σ.set i (some v)) (env.set i (some (.sh p))) (fun j => if j = i then [] else G j) :=
  w.put hi ⟨rfl, r⟩ List.nodup_nil (fun _ h => absurd h List.not_mem_nil) fun _ h => absurd h List.not_mem_nil
theorem stp_put {B H : Hp} {G : Fp} {i : Nat} {F : List Addr} (nw : ∀ a ∈ F, H a = none ∨ ∃ j, a ∈ G j) : Stp B H G B H (fun j => if j = i then F else G j) :=
  ⟨Ex.refl _, fun _ _ h _ => h, fun j a h => by
    change a ∈ (if j = i then F else G j) at h
    split at h
    · exact (nw a h).symm
    · exact .inl ⟨j, h⟩, fun _ _ _ h _ => h, fun a o h => ⟨o, h⟩⟩
theorem snd_gname {i : Nat} (hp : i ∉ pn) : SndG pn K (gName i) (dgName i) := ⟨fun {B H σ env G p v QD Q} w r q n =>
  n _ _ _ q.2 (w.putS (inE_lt q.1) r) (fun j a h => by
    change a ∈ (if j = i then [] else G j) at h
    split at h
    · cases h
    · exact ⟨j, h⟩) (Pin.set hp)⟩
theorem dg_name {i : Nat} (h : PG X a (gName i)) (hp : i ∉ pn := by decide) : DG pn X a (gName i) (dgName i) := ⟨h, snd_gname hp⟩
abbrev dGs := List P → Env → (Env → Prop) → Prop
structure SndGs (pn : List Nat) (K : PySem.W.Frag) (g : TGs) (dg : dGs) : Prop where
  run : ∀ {B H : Hp} {σ : L2.St} {env : Env} {G : Fp} {ps : List P} {vs : List V} {QD : Env → Prop} {Q : L2.St → Hp → Prop}, Wd K B H σ env G → RpA K B ps vs → dg ps env QD → NxG K pn B H G σ QD Q → g vs σ H Q
structure DGs (pn : List Nat) (X : Cx) (tg : List Expr) (g : TGs) (dg : dGs) : Prop where
  pe : PGs X tg g
  sd : SndGs pn X.K g dg
def dgNil : dGs := fun ps env Q => match ps with
  | [] => Q env
  | _ => False
def dgCons (g : dG) (gs : dGs) : dGs := fun ps env Q => match ps with
  | p :: r => g p env fun e => gs r e Q
  | [] => False
theorem snd_gnil : SndGs pn K gNil dgNil := ⟨fun {B H σ env G ps vs QD Q} w r q n => by
  cases ps with
  | nil => exact ⟨r, n env σ G q w (fun i a h => ⟨i, h⟩) .refl⟩
  | cons _ _ => exact q.elim⟩
theorem snd_gcons {g : TG} {gs : TGs} {dg : dG} {dgs : dGs} (h : SndG pn K g dg) (hs : SndGs pn K gs dgs) : SndGs pn K (gCons g gs) (dgCons dg dgs) := ⟨fun {B H σ env G ps vs QD Q} w r q n => by
  cases ps with
  | nil => exact q.elim
  | cons p ps =>
    obtain ⟨v, l, e1, e2, e3⟩ := r
    exact ⟨v, l, e1, h.run w e2 q fun env' σ' G' q1 w1 g1 p1 => hs.run w1 e3 q1 fun env2 σ2 G2 q2 w2 g2 p2 => n env2 σ2 G2 q2 w2 (fun i a h => (g2 i a h).elim fun j hj => g1 j a hj) (p1.trans p2)⟩⟩
theorem dgs_nil : DGs pn X [] gNil dgNil := ⟨pgs_nil, snd_gnil⟩
theorem dgs_cons {e : Expr} {es : List Expr} {g : TG} {gs : TGs} {dg : dG} {dgs : dGs} (h : DG pn X e g dg) (hs : DGs pn X es gs dgs) (h3 : (assignEach (e :: es) X.env).map (·.2) = assign e X.env :: (assignEach es X.env).map (·.2) := by rfl) : DGs pn X (e :: es) (gCons g gs) (dgCons dg dgs) := ⟨pgs_cons h.pe hs.pe h3, snd_gcons h.sd hs.sd⟩
def dgTup (n : Nat) (gs : dGs) : dG := fun p env Q => match p with
  | .tup ps => ps.length = n ∧ gs ps env Q
  | _ => False
theorem snd_gtup {n : Nat} {gs : TGs} {dgs : dGs} (hs : SndGs pn K gs dgs) : SndG pn K (gTup K n gs) (dgTup n dgs) := ⟨fun {B H σ env G p v QD Q} w r q k => by
  cases p with
  | tup ps =>
    obtain ⟨a, vs, e1, e2, e3⟩ := r
    exact ⟨a, vs, e1, w.ex.sqT e2, e3.length.trans q.1, hs.run w e3 q.2 k⟩
  | _ => exact q.elim⟩
theorem dg_tup {n : Nat} {gs : TGs} {dgs : dGs} (h : PGs X rest' gs → PG X a (gTup X.K n gs)) (hs : DGs pn X rest' gs dgs) : DG pn X a (gTup X.K n gs) (dgTup n dgs) := ⟨h hs.pe, snd_gtup hs.sd⟩

/-! ### stores -/
def dAsg (de : dE) (dg : dG) : dS := fun Dd env => de env fun p e => dg p e Dd.nx
theorem snd_asg {g : TG} {dg : dG} (h : SndE m K te de) (hg : SndG pn K g dg) : SndS pn K (tAsg te g) (dAsg de dg) := ⟨fun {B H σ env G Dd D} w q n r k1 k2 => h.run w q fun p env' v B' H' G' q1 w1 r1 s1 _ =>
  hg.run w1 r1 q1 (n.at s1 .refl).g⟩
theorem ds_asg {tg : Expr} {g : TG} {dg : dG} (h : DE false X e te de) (hg : DG pn X tg g dg) (hs : swapsWithSole [tg] e pos.line X.env = pure false := by rfl) (hw : swappedStores [tg] e X.env = pure none := by rfl) (h1 : (assignEach [tg] X.env).map (·.2) = [assign tg X.env] := by rfl) :
    DS pn X (.Assign [tg] e pos) (tAsg te g) (dAsg de dg) := ⟨ps_asg h.pe hg.pe hs hw h1, snd_asg h.sd hg.sd⟩
/-- name = something that is then the name's own -/
def dPut (i : Nat) (dq : dO) : dS := fun Dd env => dq env fun d e => inE i e = true ∧ Dd.nx (e.set i (some d))
theorem snd_put {i : Nat} (hp : i ∉ pn) (h : SndO m K te dq) : SndS pn K (tAsg te (gName i)) (dPut i dq) := ⟨fun {B H σ env G Dd D} w q n r k1 k2 => h.run w q fun d env' v F B' H' G' q1 w1 o1 s1 _ =>
  n _ _ B' H' _ q1.2 (w1.put (inE_lt q1.1) o1.rp o1.nd o1.nb fun a ha j _ => o1.ap a ha j) ⟨s1.ex, s1.kp, fun j a hm => by
    change a ∈ (if j = i then F else G' j) at hm
    split at hm
    · exact o1.nw a hm
    · exact s1.fp j a hm, s1.bs, s1.th⟩ (Pin.set hp)⟩
theorem ds_put {i : Nat} {tg : Expr} (h : DO false X e te dq) (hg : PG X tg (gName i)) (hp : i ∉ pn := by decide) (hs : swapsWithSole [tg] e pos.line X.env = pure false := by rfl) (hw : swappedStores [tg] e X.env = pure none := by rfl) (h1 : (assignEach [tg] X.env).map (·.2) = [assign tg X.env] := by rfl) :
    DS pn X (.Assign [tg] e pos) (tAsg te (gName i)) (dPut i dq) := ⟨ps_asg h.pe hg hs hw h1, snd_put hp h.sd⟩
theorem ds_setc {i : Nat} {tg : Expr} {st : Stmt} (h : PS X st (tAsg te (gName i))) (hq : SndO m X.K te dq) (hp : i ∉ pn := by decide) : DS pn X st (tAsg te (gName i)) (dPut i dq) := ⟨h, snd_put hp hq⟩
/-- return of a name that holds its own list: given away -/
def dRetV (i : Nat) : dS := fun Dd env => match env[i]? with
  | some (some d) => Dd.rt d (env.set i none)
  | _ => False
theorem Wd.drop {B H : Hp} {σ : L2.St} {env : Env} {G : Fp} (w : Wd K B H σ env G) (i : Nat) : Wd K B H σ (env.set i none) (fun j => if j = i then [] else G j) := by
  refine ⟨⟨w.ex, fun j d' e' => ?_, fun j hn => ?_, fun j => ?_, fun j l a ha hb => ?_, fun j a ha => ?_, by rw [List.length_set]; exact w.len⟩, w.rf⟩
  · rcases set_some e' with ⟨_, e2, _⟩ | ⟨n, e'⟩
    · cases e2
    · obtain ⟨v', g1, g2⟩ := w.sl j d' e'
      refine ⟨v', g1, ?_⟩
      rw [if_neg fun q => n q.symm]
      exact g2
  · show (if j = i then [] else G j) = []
    split
    · rfl
    · rename_i n
      refine w.no j fun d' => ?_
      have := hn d'
      rw [List.getElem?_set_ne fun q => n q.symm] at this
      exact this
  · show (if j = i then [] else G j).Nodup
    split
    · exact List.nodup_nil
    · exact w.nd j
  · change a ∈ (if j = i then [] else G j) at ha
    change a ∈ (if l = i then [] else G l) at hb
    split at ha
    · cases ha
    · split at hb
      · cases hb
      · exact w.dj j l a ha hb
  · change a ∈ (if j = i then [] else G j) at ha
    split at ha
    · cases ha
    · exact w.nb j a ha
theorem snd_retV {i : Nat} : SndS pn K (tRet (tVar i)) (dRetV i) := ⟨fun {B H σ env G Dd D} w q n r k1 k2 => by
  unfold dRetV at q
  split at q
  · rename_i d hd
    obtain ⟨v, h1, h2⟩ := w.sl i d hd
    refine ⟨v, h1, r d _ σ v (G i) B H _ q (w.drop i) ⟨h2, w.nd i, w.nb i, fun a ha => .inl ⟨i, ha⟩, fun a ha j hj => ?_⟩ (stp_put fun _ h => absurd h List.not_mem_nil) .refl⟩
    change a ∈ (if j = i then [] else G j) at hj
    split at hj
    · cases hj
    · rename_i n
      exact n (w.dj j i a hj ha)
  · exact q.elim⟩
theorem ds_retV (i : Nat) (h : PE X e (tVar i)) : DS pn X (.Return (some e) pos) (tRet (tVar i)) (dRetV i) := ⟨ps_ret h, snd_retV⟩
end
end DL
set_option Elab.async false
set_option linter.all false
set_option maxRecDepth 100000
namespace DL
open PySem PySem.Spec L2
variable [Rf]
section
variable {pn : List Nat} {m : Bool} {K : PySem.W.Frag} {te ta tb ti to : TE} {de da db di : dE} {dq : dO} {tt : TT} {dt : dT} {t u : TS} {dt1 du : dS} {X : Cx} {a b c e : Expr} {st : Stmt} {rest sb : List Stmt} {pos : Pos}
/-! ### a slot's own list is changed -/
def ixQ (q : P) (o : Option (Option D)) (f : Int → List P → Prop) : Prop := match q, o with
  | .int k, some (some (.ol ps)) => f k ps
  | _, _ => False
theorem ixQ_is {q : P} {o : Option (Option D)} {f : Int → List P → Prop} (h : ixQ q o f) : ∃ k ps, q = .int k ∧ o = some (some (.ol ps)) ∧ f k ps := by
  unfold ixQ at h
  split at h
  · exact ⟨_, _, rfl, rfl, h⟩
  · exact h.elim
theorem Wd.chg {B H : Hp} {σ : L2.St} {env : Env} {G : Fp} {i : Nat} {d d' : D} {v : V} {l : Addr} {o : HO} (w : Wd K B H σ env G) (e : env[i]? = some (some d)) (hv : σ[i]? = some (some v)) (hl : l ∈ G i) (r : RpD K B (upd H l o) d' v (G i)) :
    Wd K B (upd H l o) σ (env.set i (some d')) G ∧ Stp B H G B (upd H l o) G := by
  have nB : B l = none := w.nb i l hl
  refine ⟨⟨⟨fun a u h => ?_, fun j d2 h => ?_, fun j hn => ?_, w.nd, w.dj, w.nb, by rw [List.length_set]; exact w.len⟩, w.rf⟩, ⟨Ex.refl _, fun a u h n => ?_, fun j a h => .inl ⟨j, h⟩, fun _ _ _ h _ => h, fun a u h => ?_⟩⟩
  · rw [upd_ne (ne_of_none h nB)]; exact w.ex a u h
  · rcases set_some h with ⟨rfl, e2, _⟩ | ⟨n, h⟩
    · cases e2; exact ⟨v, hv, r⟩
    · obtain ⟨v', h1, h2⟩ := w.sl j d2 h
      refine ⟨v', h1, RpD.mono (Ex.refl B) h2 fun a ha u hu => ?_⟩
      rw [upd_ne fun q => n (w.dj i j a (by rw [q]; exact hl) ha)]
      exact hu
  · refine w.no j fun d2 h => ?_
    by_cases q : i = j
    · subst q; exact hn d' (List.getElem?_set_self (env_lt e))
    · exact hn d2 (by rw [List.getElem?_set_ne q]; exact h)
  · rw [upd_ne fun q => n i (by rw [q]; exact hl)]; exact h
  · by_cases q : a = l
    · subst q; exact ⟨_, upd_same⟩
    · exact ⟨u, by rw [upd_ne q]; exact h⟩
theorem Wd.app {B H : Hp} {σ : L2.St} {env : Env} {G : Fp} {i : Nat} {ps : List P} {l : Addr} {vs : List V} {p : P} {y : V} (w : Wd K B H σ env G) (e : env[i]? = some (some (.ol ps))) (hv : σ[i]? = some (some (.ref l))) (hG : G i = [l]) (hl : H l = some (.lst vs)) (r : RpA K B ps vs) (rp : Rp K B p y) :
    Wd K B (upd H l (.lst (vs ++ [y]))) σ (env.set i (some (.ol (ps ++ [p])))) G ∧ Stp B H G B (upd H l (.lst (vs ++ [y]))) G :=
  w.chg e hv (by rw [hG]; exact List.mem_cons_self) ⟨l, _, hG, rfl, upd_same, r.append (RpA.one rp)⟩
/-- i.append(e) -/
def dApp (i : Nat) (de : dE) : dS := fun Dd env => match env[i]? with
  | some (some (.ol _)) => de env fun p e => match e[i]? with
    | some (some (.ol ps)) => ps.length < sizeLine ∧ Dd.nx (e.set i (some (.ol (ps ++ [p]))))
    | _ => False
  | _ => False
theorem snd_app {i : Nat} (h : SndE m K te de) : SndS pn K (tDrop (tBM K "list" rAppend (tVar i) (tCons te tNil))) (dApp i de) := ⟨fun {B H σ env G Dd D} w q n r k1 k2 => by
  unfold dApp at q
  split at q
  · rename_i ps0 hd
    obtain ⟨v, h1, a0, vs0, _, rfl, h4, _⟩ := w.sl i _ hd
    refine ⟨.ref a0, h1, .inl ⟨rfl, _, SqL.of h4⟩, ?_⟩
    refine h.run w q fun p e v2 B1 H1 G1 q1 w1 r1 s1 _ => ?_
    change (match e[i]? with | some (some (.ol ps)) => ps.length < sizeLine ∧ Dd.nx (e.set i (some (.ol (ps ++ [p])))) | _ => False) at q1
    split at q1
    · rename_i ps hd1
      obtain ⟨v3, g1, a1, vs, g2, g3, g4, g5⟩ := w1.sl i _ hd1
      rw [h1] at g1
      cases g1
      cases g3
      refine ⟨a0, vs, v2, rfl, rfl, g4, by rw [g5.length]; exact q1.1, ?_⟩
      obtain ⟨w2, s2⟩ := w1.app hd1 h1 g2 g4 g5 r1
      exact n _ σ B1 _ G1 q1.2 w2 (s1.trans s2) .refl
    · exact q1.elim
  · exact q.elim⟩
theorem ds_app {i : Nat} {o : Expr} {apos cpos : Pos} (h : PA X [e] (tCons te tNil) → PE X (.Call (.Attribute o "append" apos) [e] [] cpos) (tBM X.K "list" rAppend (tVar i) (tCons te tNil))) (he : DE false X e te de)
    (hs : swapsWith (.Call (.Attribute o "append" apos) [e] [] cpos) none pos.line X.env = pure false := by rfl) (hs2 : starEach [e] X.env = (false, eval e X.env) :: starEach [] X.env := by rfl) :
    DS pn X (.Expr (.Call (.Attribute o "append" apos) [e] [] cpos) pos) (tDrop (tBM X.K "list" rAppend (tVar i) (tCons te tNil))) (dApp i de) := ⟨ps_expr (h (pa_cons he.pe pa_nil hs2)) hs, snd_app he.sd⟩
/-- i[k] = e -/
def dSetI (i : Nat) (dk de : dE) : dS := fun Dd env => de env fun p e1 => match e1[i]? with
  | some (some (.ol _)) => dk e1 fun q e2 => ixQ q e2[i]? fun k ps => ∃ j, ixN ps.length k = some j ∧ Dd.nx (e2.set i (some (.ol (ps.set j p))))
  | _ => False
theorem snd_setI {i : Nat} (hk : SndE m K ti di) (h : SndE m K te de) : SndS pn K (tAsg te (gSub (tVar i) ti rSetL)) (dSetI i di de) := ⟨fun {B H σ env G Dd D} w q n r k1 k2 => by
  refine h.run w q fun p e1 v2 B1 H1 G1 q1 w1 r1 s1 _ => ?_
  change (match e1[i]? with | some (some (.ol _)) => di e1 _ | _ => False) at q1
  split at q1
  · rename_i ps0 hd
    obtain ⟨v, h1, a0, vs0, _, rfl, h4, _⟩ := w1.sl i _ hd
    refine ⟨.ref a0, h1, ?_⟩
    refine hk.run w1 q1 fun q e2 v3 B2 H2 G2 q2 w2 r2 s2 _ => ?_
    obtain ⟨k, ps, rfl, hd2, q2⟩ := ixQ_is q2
    · obtain ⟨v4, g1, a1, vs, g2, g3, g4, g5⟩ := w2.sl i _ hd2
      rw [h1] at g1
      cases g1
      cases g3
      obtain ⟨j, hj, q2⟩ := q2
      refine ⟨a0, vs, k, j, rfl, r2, g4, by rw [g5.length]; exact hj, ?_⟩
      obtain ⟨w3, s3⟩ := w2.chg (d' := .ol (ps.set j p)) (o := .lst (vs.set j v2)) (l := a0) hd2 h1 (by rw [g2]; exact List.mem_cons_self) ⟨a0, _, g2, rfl, upd_same, g5.set (Rp.mono s2.ex p r1)⟩
      exact n _ σ B2 _ G2 q2 w3 ((s1.trans s2).trans s3) .refl
  · exact q1.elim⟩
theorem ds_setI {i : Nat} {tg : Expr} (hg : PE X b ti → PG X tg (gSub (tVar i) ti rSetL)) (hk : DE false X b ti di) (he : DE false X e te de)
    (hs : swapsWithSole [tg] e pos.line X.env = pure false := by rfl) (hw : swappedStores [tg] e X.env = pure none := by rfl) (h1 : (assignEach [tg] X.env).map (·.2) = [assign tg X.env] := by rfl) :
    DS pn X (.Assign [tg] e pos) (tAsg te (gSub (tVar i) ti rSetL)) (dSetI i di de) := ⟨ps_asg he.pe (hg hk.pe) hs hw h1, snd_setI hk.sd he.sd⟩

/-! ### an own list, read and let go -/
def scl : P → Prop
  | .non => True
  | .bl _ => True
  | .int _ => True
  | .str _ => True
  | .ob _ => True
  | _ => False
theorem scl_rp {B B' : Hp} {p : P} {v : V} (h : scl p) (r : Rp K B p v) : Rp K B' p v := by
  cases p <;> first | exact r | exact h.elim
def dLend (i : Nat) (de : dE) : dE := fun env Q => match env[i]? with
  | some (some d) => de (env.set i (some (.sh d.frz))) fun p _ => scl p ∧ Q p env
  | _ => False
theorem Wd.lent {B H : Hp} {σ : L2.St} {env : Env} {G : Fp} {i : Nat} {d : D} (w : Wd K B H σ env G) (e : env[i]? = some (some d)) :
    Wd K (frzB B H (G i)) H σ (env.set i (some (.sh d.frz))) (fun j => if j = i then [] else G j) := by
  obtain ⟨v, h1, h2⟩ := w.sl i _ e
  have nb : ∀ a ∈ G i, B a = none := fun a ha => w.nb i a ha
  have w1 := (w.drop i).frzO (F := G i) nb (fun a ha j hj => by
    change a ∈ (if j = i then [] else G j) at hj
    split at hj
    · cases hj
    · rename_i n; exact n (w.dj j i a hj ha))
  have w2 := w1.put (i := i) (d := .sh d.frz) (v := v) (F := []) (by rw [List.length_set]; exact env_lt e) ⟨rfl, frz_rp nb h2⟩ List.nodup_nil (fun _ h => absurd h List.not_mem_nil) (fun _ h => absurd h List.not_mem_nil)
  rw [set_id h1, List.set_set] at w2
  have : (fun j => if j = i then ([] : List Addr) else if j = i then [] else G j) = fun j => if j = i then [] else G j := by
    funext j; split <;> rfl
  rw [this] at w2
  exact w2
theorem snd_lend {i : Nat} (h : SndE true K te de) : SndE m K te (dLend i de) := ⟨fun {B H σ env G QD Q} w q k => by
  unfold dLend at q
  split at q
  · rename_i d hd
    refine h.run (w.lent hd) q fun p e v B1 H1 G1 q1 w1 r1 s1 u1 => ?_
    obtain ⟨_, _, g⟩ := u1 rfl
    have g2 : Gr B H B H1 := ⟨Ex.refl _, g.h, w.ex.trans g.h, fun a o h n => n⟩
    exact k p env v B H1 G q1.2 (w.gr g2) (scl_rp q1.1 r1) g2.stp (.gr g2)
  · exact q.elim⟩
theorem de_lend (i : Nat) (h : DE true X a te de) : DE m X a te (dLend i de) := ⟨h.pe, snd_lend h.sd⟩
def dLendT (i : Nat) (de : dT) : dT := fun env Q => match env[i]? with
  | some (some d) => de (env.set i (some (.sh d.frz))) fun p _ => Q p env
  | _ => False
theorem snd_lendT {i : Nat} (h : SndT true K tt dt) : SndT m K tt (dLendT i dt) := ⟨fun {B H σ env G QD Q} w q k => by
  unfold dLendT at q
  split at q
  · rename_i d hd
    refine h.run (w.lent hd) q fun b e B1 H1 G1 q1 w1 s1 u1 => ?_
    obtain ⟨_, _, g⟩ := u1 rfl
    have g2 : Gr B H B H1 := ⟨Ex.refl _, g.h, w.ex.trans g.h, fun a o h n => n⟩
    exact k b env B H1 G q1 (w.gr g2) g2.stp (.gr g2)
  · exact q.elim⟩
theorem dt_lend (i : Nat) (h : DT true X a tt dt) : DT m X a tt (dLendT i dt) := ⟨h.pe, snd_lendT h.sd⟩
/-- i[k] of an own list: the item is plain -/
def dItm (i : Nat) (dk : dE) : dE := fun env Q => match env[i]? with
  | some (some (.ol _)) => dk env fun q e => ixQ q e[i]? fun k ps => ∃ p, atI ps k = some p ∧ Q p e
  | _ => False
theorem atI_rp {B : Hp} {ps : List P} {vs : List V} {k : Int} {p : P} (r : RpA K B ps vs) (h : atI ps k = some p) : ∃ v, atI vs k = some v ∧ Rp K B p v := by
  unfold atI at h ⊢
  rw [r.length]
  cases hx : ixN ps.length k with
  | none => rw [hx] at h; cases h
  | some j =>
    rw [hx] at h
    exact r.get h
theorem snd_itm {i : Nat} (hk : SndE m K ti di) : SndE m K (tOp (rIxL K) (tVar i) ti) (dItm i di) := ⟨fun {B H σ env G QD Q} w q k => by
  unfold dItm at q
  split at q
  · rename_i ps0 hd
    obtain ⟨v, h1, a0, vs0, _, rfl, h4, _⟩ := w.sl i _ hd
    refine ⟨.ref a0, h1, ?_⟩
    refine hk.run w q fun q e2 v3 B2 H2 G2 q2 w2 r2 s2 u2 => ?_
    obtain ⟨kk, ps, rfl, hd2, q2⟩ := ixQ_is q2
    · obtain ⟨v4, g1, a1, vs, g2, g3, g4, g5⟩ := w2.sl i _ hd2
      rw [h1] at g1
      cases g1
      cases g3
      obtain ⟨p, hp, q2⟩ := q2
      obtain ⟨z, hz, rz⟩ := atI_rp g5 hp
      exact ⟨a0, vs, kk, z, rfl, r2, SqL.of g4, hz, k p e2 z B2 H2 G2 q2 w2 rz s2 u2⟩
  · exact q.elim⟩
theorem de_itm (i : Nat) (h : PE X b ti → PE X e (tOp (rIxL X.K) (tVar i) ti)) (hk : DE m X b ti di) : DE m X e (tOp (rIxL X.K) (tVar i) ti) (dItm i di) := ⟨h hk.pe, snd_itm hk.sd⟩

/-! ### loops -/
/-- what a walk yields, wherever it goes on from B0 -/
def ItOk (K : PySem.W.Frag) (J : It) (B0 : Hp) (ps : List P) : Prop := ∀ (B H : Hp) (i : Nat), Ex B0 B → Ex B H → i ≤ ps.length →
  (∀ p, ps[i]? = some p → J.go i H ∧ ∀ x H', J.yld i H x H' → ∃ B', Gr B H B' H' ∧ Rp K B' p x) ∧ (ps.length ≤ i → J.stop i H)
abbrev dI := Env → (List P → Env → Prop) → Prop
structure SndI (m : Bool) (K : PySem.W.Frag) (wi : TI) (di : dI) : Prop where
  run : ∀ {B H : Hp} {σ : L2.St} {env : Env} {G : Fp} {QD : List P → Env → Prop} {R : It → Hp → Prop}, Wd K B H σ env G → di env QD →
    (∀ ps env' B' H' G' J, QD ps env' → Wd K B' H' σ env' G' → Stp B H G B' H' G' → Pure m env env' G G' B H B' H' → ItOk K J B' ps → R J H') → wi σ H R
structure DI (m : Bool) (X : Cx) (tg iter : Expr) (wi : TI) (di : dI) : Prop where
  pe : PI X tg iter wi
  sd : SndI m X.K wi di
def dFor (di : dI) (dg : dG) (body : dS) : dS := fun Dd env => di env fun ps env1 => ∃ Inv : Nat → Env → Prop, Inv 0 env1 ∧
  (∀ i p e, ps[i]? = some p → Inv i e → dg p e fun e2 => body { Dd with nx := Inv (i + 1), ct := Inv (i + 1), bk := Dd.nx } e2) ∧ ∀ e, Inv ps.length e → Dd.nx e
variable {wi : TI} {dw : dI} {g : TG} {dg : dG}
theorem snd_for (hi : SndI m K wi dw) (hg : SndG pn K g dg) (hb : SndS pn K t dt1) : SndS pn K (tFor wi g t) (dFor dw dg dt1) := ⟨fun {B H σ env G Dd D} w q n r k1 k2 => by
  refine hi.run w q fun ps env1 B1 H1 G1 J q1 w1 s1 _ hJ => ?_
  obtain ⟨Inv, i0, turn, done⟩ := q1
  let W : Nat → L2.St → Hp → Prop := fun i σ' H' => ∃ env' B' G', Inv i env' ∧ Wd K B' H' σ' env' G' ∧ Stp B1 H1 G1 B' H' G' ∧ Pin pn σ σ'
  refine ⟨fun i mm σ' H' => mm = ps.length - i ∧ i ≤ ps.length ∧ W i σ' H', ⟨_, rfl, Nat.zero_le _, env1, B1, G1, i0, w1, .refl, .refl⟩, ?_⟩
  rintro i mm σ' H' ⟨rfl, hle, env', B', G', hI, w', s', p'⟩
  obtain ⟨hgo, hst⟩ := hJ B' H' i s'.ex w'.ex hle
  by_cases hlt : i < ps.length
  · obtain ⟨go, yl⟩ := hgo ps[i] (List.getElem?_eq_getElem hlt)
    refine .inr ⟨go, W (i + 1), fun σ2 H2 h2 => ⟨ps.length - (i + 1), by omega, rfl, hlt, h2⟩, fun x H2 y => ?_⟩
    obtain ⟨B2, g2, r2⟩ := yl x H2 y
    have w2 := w'.gr g2
    have s2 := s'.trans (g2.stp (G := G'))
    refine hg.run w2 r2 (turn i ps[i] env' (List.getElem?_eq_getElem hlt) hI) fun env3 σ3 G3 q3 w3 g3 p3 => ?_
    have st3 := s2.trans (stp_g g3)
    have pi3 := p'.trans p3
    refine hb.run (D := { D with nx := W (i + 1), ct := W (i + 1), bk := D.nx }) w3 q3 ?_ ?_ ?_ ?_
    · exact fun env4 σ4 B4 H4 G4 q4 w4 s4 p4 => ⟨env4, B4, G4, q4, w4, st3.trans s4, pi3.trans p4⟩
    · exact r.at (s1.trans st3) pi3
    · exact n.at (s1.trans st3) pi3
    · exact fun env4 σ4 B4 H4 G4 q4 w4 s4 p4 => ⟨env4, B4, G4, q4, w4, st3.trans s4, pi3.trans p4⟩
  · have e : i = ps.length := by omega
    subst e
    exact .inl ⟨hst (Nat.le_refl _), n env' σ' B' H' G' (done env' hI) w' (s1.trans s') p'⟩⟩
theorem ds_for {tg iter : Expr} {body : List Stmt} (hp : PassesOwn (model X.prog X.w) X.A X.env X.xe) (hc : X.calm = true) (hi : DI false X tg iter wi dw) (hg : DG pn X tg g dg) (hb : DSs pn X body t dt1)
    (hs : ∀ x, foldedSetIterable iter X.env x = pure x := by intro _; rfl) : DS pn X (.For tg iter body [] pos) (tFor wi g t) (dFor dw dg dt1) := ⟨ps_for hp hc hi.pe hg.pe hb.pe hs, snd_for hi.sd hg.sd hb.sd⟩
def dWhile (dt : dT) (body : dS) : dS := fun Dd env => ∃ W : Nat → Env → Prop, (∃ m, W m env) ∧ ∀ m e, W m e → dt e fun b e1 => cnd b (body { Dd with nx := fun e2 => ∃ m', m' < m ∧ W m' e2, ct := fun e2 => ∃ m', m' < m ∧ W m' e2, bk := Dd.nx } e1) (Dd.nx e1)
theorem snd_while (hc : SndT m K tt dt) (hb : SndS pn K t dt1) : SndS pn K (tWhile tt t) (dWhile dt dt1) := ⟨fun {B H σ env G Dd D} w q n r k1 k2 => by
  obtain ⟨W, ⟨m0, w0⟩, turn⟩ := q
  let Wx : Nat → L2.St → Hp → Prop := fun mm σ' H' => ∃ env' B' G', W mm env' ∧ Wd K B' H' σ' env' G' ∧ Stp B H G B' H' G' ∧ Pin pn σ σ'
  refine ⟨Wx, ⟨m0, env, B, G, w0, w, .refl, .refl⟩, ?_⟩
  rintro mm σ' H' ⟨env', B', G', hI, w', s', p'⟩
  refine hc.run w' (turn mm env' hI) fun b e1 B1 H1 G1 q1 w1 s1 _ => ?_
  have st := s'.trans s1
  cases b with
  | true =>
    replace q1 := q1.1 rfl
    rw [if_pos rfl]
    refine ⟨fun σ2 H2 => ∃ m', m' < mm ∧ Wx m' σ2 H2, fun _ _ h => h, ?_⟩
    refine hb.run (D := { D with nx := fun σ2 H2 => ∃ m', m' < mm ∧ Wx m' σ2 H2, ct := fun σ2 H2 => ∃ m', m' < mm ∧ Wx m' σ2 H2, bk := D.nx }) w1 q1 ?_ (r.at st p') (n.at st p') ?_
    · exact fun env4 σ4 B4 H4 G4 ⟨m', hm, q4⟩ w4 s4 p4 => ⟨m', hm, env4, B4, G4, q4, w4, st.trans s4, p'.trans p4⟩
    · exact fun env4 σ4 B4 H4 G4 ⟨m', hm, q4⟩ w4 s4 p4 => ⟨m', hm, env4, B4, G4, q4, w4, st.trans s4, p'.trans p4⟩
  | false =>
    replace q1 := q1.2 rfl
    rw [if_neg Bool.false_ne_true]
    exact n e1 σ' B1 H1 G1 q1 w1 st p'⟩
theorem ds_while {body : List Stmt} (hp : PassesOwn (model X.prog X.w) X.A X.env X.xe) (hc : DT false X c tt dt) (hb : DSs pn X body t dt1) : DS pn X (.While c body [] pos) (tWhile tt t) (dWhile dt dt1) := ⟨ps_while hp hc.pe hb.pe, snd_while hc.sd hb.sd⟩

/-! ### what is walked -/
def plst : P → Option (List P)
  | .lst ps => some ps
  | .rol ps => some ps
  | _ => none
def diL (de : dE) : dI := fun env Q => de env fun p e => match plst p with
  | some ps => Q ps e
  | none => False
theorem plst_rp {B : Hp} {p : P} {v : V} {ps : List P} (r : Rp K B p v) (h : plst p = some ps) : ∃ a vs, v = .ref a ∧ SqL K B a vs ∧ RpA K B ps vs := by
  cases p with
  | lst qs => cases h; obtain ⟨a, vs, e1, e2, e3⟩ := r; exact ⟨a, vs, e1, SqL.of e2, e3⟩
  | rol qs => cases h; obtain ⟨a, vs, e1, e2, e3⟩ := r; exact ⟨a, vs, e1, e2, e3⟩
  | _ => cases h
/-- a list that is plain is one list, whatever is told of it -/
theorem snd_il (h : SndE m K te de) : SndI m K (iList K te) (diL de) := ⟨fun {B H σ env G QD R} w q k => h.run w q fun p e v B1 H1 G1 q1 w1 r1 s1 u1 => by
  change (match plst p with | some ps => QD ps e | none => False) at q1
  split at q1
  · rename_i ps hp
    obtain ⟨a, vs, rfl, h2, h3⟩ := plst_rp r1 hp
    refine ⟨a, rfl, ⟨vs, w1.ex.sqL h2⟩, k ps e B1 H1 G1 _ q1 w1 s1 u1 fun B' H' i e1 e2 _ => ⟨fun p hp => ?_, fun hle => ⟨vs, (e1.trans e2).sqL h2, by rw [h3.length]; exact hle⟩⟩⟩
    obtain ⟨x, hx, rx⟩ := h3.get hp
    refine ⟨⟨vs, x, (e1.trans e2).sqL h2, hx⟩, fun y H2 hy => ?_⟩
    obtain ⟨rfl, hy⟩ := hy
    have := hy vs ((e1.trans e2).sqL h2)
    rw [hx] at this
    cases this
    exact ⟨B', .refl e2, Rp.mono e1 _ rx⟩
  · exact q1.elim⟩
end
end DL
set_option Elab.async false
set_option linter.all false
set_option maxRecDepth 100000
namespace DL
open PySem PySem.Spec L2
variable [Rf]
section
variable {pn : List Nat} {m : Bool} {K : PySem.W.Frag} {te ta tb ti to : TE} {de da db di : dE} {dq : dO} {tt : TT} {dt : dT} {t u : TS} {dt1 du : dS} {X : Cx} {a b c e : Expr} {st : Stmt} {rest sb : List Stmt} {pos : Pos}
variable {wi : TI} {dw : dI} {g : TG} {dg : dG}
/-! ### comprehensions -/
def lenE : Nat → Env → Bool
  | _, [] => true
  | 0, _ :: _ => false
  | n + 1, _ :: e => lenE n e
theorem lenE_le : ∀ {n : Nat} {e : Env}, lenE n e = true → e.length ≤ n
  | _, [], _ => Nat.zero_le _
  | 0, _ :: _, h => by cases h
  | n + 1, _ :: e, h => Nat.succ_le_succ (lenE_le (n := n) (e := e) h)
def wipeE (e : Env) : List Nat → Env
  | [] => e
  | v :: vs => (wipeE e vs).set v none
def wipeG (G : Fp) : List Nat → Fp
  | [] => G
  | v :: vs => fun j => if j = v then [] else wipeG G vs j
theorem wipeG_sub {G : Fp} : ∀ {vs : List Nat} {i : Nat} {a : Addr}, a ∈ wipeG G vs i → a ∈ G i
  | [], _, _, h => h
  | v :: vs, i, a, h => by
    change a ∈ (if i = v then [] else wipeG G vs i) at h
    split at h
    · cases h
    · exact wipeG_sub h
theorem Wd.setN {B H : Hp} {σ : L2.St} {env : Env} {G : Fp} {i : Nat} {x : Option V} (w : Wd K B H σ env G) (n : ∀ d, env[i]? ≠ some (some d)) : Wd K B H (σ.set i x) env G where
  rf := w.rf
  ex := w.ex
  sl := fun j d e => by
    obtain ⟨v, h1, h2⟩ := w.sl j d e
    refine ⟨v, ?_, h2⟩
    rw [List.getElem?_set_ne fun q => n d (by rw [q]; exact e)]
    exact h1
  no := w.no
  nd := w.nd
  dj := w.dj
  nb := w.nb
  len := by rw [List.length_set]; exact w.len
theorem wipeE_none {e : Env} : ∀ {vs : List Nat} {i : Nat}, i ∈ vs → ∀ d, (wipeE e vs)[i]? ≠ some (some d)
  | v :: vs, i, h, d, q => by
    change ((wipeE e vs).set v none)[i]? = _ at q
    rcases set_some q with ⟨_, e2, _⟩ | ⟨n, q⟩
    · cases e2
    · rcases List.mem_cons.mp h with h | h
      · exact n h.symm
      · exact wipeE_none h d q
theorem Wd.wipe {B H : Hp} {σ : L2.St} {env : Env} {G : Fp} (w : Wd K B H σ env G) : ∀ vs : List Nat, Wd K B H (L2.wipe σ vs) (wipeE env vs) (wipeG G vs)
  | [] => w
  | v :: vs => by
    have w1 := (Wd.wipe w vs).drop v
    refine Wd.setN w1 fun d q => ?_
    rcases set_some q with ⟨_, e2, _⟩ | ⟨n, q⟩
    · cases e2
    · exact n rfl
/-- the names of the block are nothing to the slots around it -/
theorem Wd.unwipe {B H : Hp} {σ σ2 : L2.St} {env : Env} {G : Fp} {vs : List Nat} (w : Wd K B H σ2 env G) (h : L2.wipe σ2 vs = L2.wipe σ vs) (hl : σ2.length = σ.length) : Wd K B H σ (wipeE env vs) (wipeG G vs) := by
  have w1 := w.wipe vs
  rw [h] at w1
  refine ⟨⟨w1.ex, fun j d e => ?_, w1.no, w1.nd, w1.dj, w1.nb, by rw [← hl, ← w.len]; exact (show (wipeE env vs).length = env.length from by
    clear w1 h w
    induction vs with
    | nil => rfl
    | cons v vs ih => show ((wipeE env vs).set v none).length = _; rw [List.length_set, ih])⟩, w1.rf⟩
  obtain ⟨v, h1, h2⟩ := w1.sl j d e
  exact ⟨v, (L2.wipe_some h1).1, h2⟩
theorem wipe_get {σ : L2.St} : ∀ (vs : List Nat) (i : Nat), (L2.wipe σ vs)[i]? = if i ∈ vs ∧ i < σ.length then some none else σ[i]?
  | [], i => by simp [L2.wipe]
  | v :: vs, i => by
    show ((L2.wipe σ vs).set v none)[i]? = _
    by_cases h : v = i
    · subst h
      by_cases hl : v < σ.length
      · rw [List.getElem?_set_self (by rw [L2.wipe_length]; exact hl), if_pos ⟨List.mem_cons_self, hl⟩]
      · rw [List.getElem?_eq_none (by rw [List.length_set, L2.wipe_length]; omega), if_neg fun q => hl q.2, List.getElem?_eq_none (by omega)]
    · rw [List.getElem?_set_ne h, wipe_get vs i]
      have : i ∈ v :: vs ↔ i ∈ vs := ⟨fun q => (List.mem_cons.mp q).elim (fun z => absurd z.symm h) id, List.mem_cons_of_mem _⟩
      simp only [this]
/-- the slots besides vs, of n -/
def others (n : Nat) (vs : List Nat) : List Nat := (List.range n).filter fun i => !vs.contains i
theorem wipe_pin {σ σ2 : L2.St} {n : Nat} {vs : List Nat} (h : Pin (others n vs) (L2.wipe σ vs) σ2) (hn : σ.length ≤ n) : L2.wipe σ2 vs = L2.wipe σ vs := by
  apply List.ext_getElem?
  intro i
  have hl := h.1
  rw [L2.wipe_length] at hl
  rw [wipe_get, wipe_get, hl]
  by_cases hi : i ∈ vs ∧ i < σ.length
  · rw [if_pos hi, if_pos hi]
  · rw [if_neg hi, if_neg hi]
    by_cases hlt : i < σ.length
    · have hv : i ∉ vs := fun q => hi ⟨q, hlt⟩
      have := h.2 i (List.mem_filter.mpr ⟨List.mem_range.mpr (by omega), by simpa using hv⟩)
      rw [this, wipe_get, if_neg hi]
    · rw [List.getElem?_eq_none (by omega), List.getElem?_eq_none (by omega)]
/-- the list that grows: no slot's, not plain yet -/
structure Acc (K : PySem.W.Frag) (B H : Hp) (G : Fp) (l : Addr) (ps : List P) : Prop where
  at_ : ∃ vs, H l = some (.lst vs) ∧ RpA K B ps vs
  nb : B l = none
  ap : ∀ i, l ∉ G i
theorem Acc.stp {B H B' H' : Hp} {G G' : Fp} {l : Addr} {ps : List P} (a : Acc K B H G l ps) (s : Stp B H G B' H' G') : Acc K B' H' G' l ps := by
  obtain ⟨vs, h1, h2⟩ := a.at_
  refine ⟨⟨vs, s.kp l _ h1 a.ap, RpA.mono s.ex ps h2⟩, s.bs l _ h1 a.nb a.ap, fun i hi => ?_⟩
  rcases s.fp i l hi with ⟨j, hj⟩ | hn
  · exact a.ap j hj
  · rw [h1] at hn; cases hn
theorem Acc.wd {B H : Hp} {σ : L2.St} {env : Env} {G : Fp} {l : Addr} {ps : List P} {u : HO} (a : Acc K B H G l ps) (w : Wd K B H σ env G) : Wd K B (upd H l u) σ env G where
  rf := w.rf
  ex := fun x o h => by rw [upd_ne (ne_of_none h a.nb)]; exact w.ex x o h
  sl := fun i d e => by
    obtain ⟨v, h1, h2⟩ := w.sl i d e
    refine ⟨v, h1, RpD.mono (Ex.refl B) h2 fun x hx o ho => ?_⟩
    rw [upd_ne fun q => a.ap i (by rw [← q]; exact hx)]
    exact ho
  no := w.no
  nd := w.nd
  dj := w.dj
  nb := w.nb
  len := w.len
def dLc (di : dI) (dg : dG) (dt : dT) (de : dE) (n : Nat) (vs : List Nat) : dO := fun env Q => di env fun ps env1 => lenE n env1 = true ∧ ∃ Inv : Nat → List P → Env → Prop, Inv 0 [] env1 ∧
  (∀ i p acc e, ps[i]? = some p → Inv i acc e → dg p (wipeE e vs) fun e2 => dt e2 fun b e3 => cnd b (de e3 fun y e4 => acc.length < sizeLine ∧ Inv (i + 1) (acc ++ [y]) (wipeE e4 vs)) (Inv (i + 1) acc (wipeE e3 vs))) ∧
  ∀ acc e, Inv ps.length acc e → Q (.ol acc) e
/-- from one world to another, the growing list aside -/
structure St2 (B H : Hp) (G : Fp) (l : Addr) (B' H' : Hp) (G' : Fp) : Prop where
  ex : Ex B B'
  kp : ∀ a o, H a = some o → (∀ i, a ∉ G i) → H' a = some o
  fp : ∀ i a, a ∈ G' i → (∃ j, a ∈ G j) ∨ H a = none
  bs : ∀ a o, H a = some o → B a = none → (∀ i, a ∉ G i) → B' a = none
  th : ∀ a o, H a = some o → ∃ o', H' a = some o'
theorem stp_new {B H : Hp} {G : Fp} {l : Addr} {u : HO} (h : H l = none) : Stp B H G B (upd H l u) G :=
  ⟨Ex.refl _, fun a o k _ => by rw [upd_ne (ne_of_none k h)]; exact k, fun i a k => .inl ⟨i, k⟩, fun _ _ _ k _ => k, fun a o k => ⟨o, by rw [upd_ne (ne_of_none k h)]; exact k⟩⟩
/-- what was there at the start is kept while the new list at l grows -/
theorem Stp.grow {B H B' H' : Hp} {G G' : Fp} {l : Addr} {u : HO} (s : Stp B H G B' H' G') (h : H l = none) : Stp B H G B' (upd H' l u) G' :=
  ⟨s.ex, fun a o k n => by rw [upd_ne (ne_of_none k h)]; exact s.kp a o k n, s.fp, s.bs, fun a o k => by
    obtain ⟨o', e⟩ := s.th a o k
    exact ⟨o', by rw [upd_ne (ne_of_none k h)]; exact e⟩⟩
theorem Stp.wipeG {B H B' H' : Hp} {G G' : Fp} {vs : List Nat} (s : Stp B H G B' H' G') : Stp B H G B' H' (DL.wipeG G' vs) := ⟨s.ex, s.kp, fun i a k => s.fp i a (wipeG_sub k), s.bs, s.th⟩
theorem snd_lc {n : Nat} {vs : List Nat} (hi : SndI m K wi dw) (hg : SndG (others n vs) K g dg) (ht : SndT m K tt dt) (he : SndE m K te de) : SndO false K (tLc wi g tt te vs) (dLc dw dg dt de n vs) := ⟨fun {B H σ env G QD Q} w q k => by
  refine hi.run w q fun ps env1 B1 H1 G1 J q1 w1 s1 _ hJ => ?_
  obtain ⟨hn, Inv, i0, turn, done⟩ := q1
  have hσ : σ.length ≤ n := by rw [← w1.len]; exact lenE_le hn
  intro l hl
  -- the invariant of the loop
  let Wx : Nat → Hp → Prop := fun i H' => ∃ acc env' B' G', Inv i acc env' ∧ Wd K B' H' σ env' G' ∧ Stp B1 H1 G1 B' H' G' ∧ Acc K B' H' G' l acc
  refine ⟨fun i mm H' => mm = ps.length - i ∧ i ≤ ps.length ∧ Wx i H', ⟨_, rfl, Nat.zero_le _, [], env1, B1, G1, i0, ?_, stp_new hl, ⟨⟨[], upd_same, rfl⟩, w1.ex.back hl, fun i hi => w1.off hl i hi⟩⟩, ?_⟩
  · exact w1.gr ⟨Ex.refl _, fun a u k => by rw [upd_ne (ne_of_none k hl)]; exact k, fun a u k => by rw [upd_ne (ne_of_none (w1.ex a u k) hl)]; exact w1.ex a u k, fun a u k n => n⟩
  rintro i mm H' ⟨rfl, hle, acc, env', B', G', hI, w', s', a'⟩
  obtain ⟨hgo, hst⟩ := hJ B' H' i s'.ex w'.ex hle
  by_cases hlt : i < ps.length
  · obtain ⟨go, yl⟩ := hgo ps[i] (List.getElem?_eq_getElem hlt)
    refine .inr ⟨go, Wx (i + 1), fun H2 h2 => ⟨ps.length - (i + 1), by omega, rfl, hlt, h2⟩, fun x H2 y => ?_⟩
    obtain ⟨B2, g2, r2⟩ := yl x H2 y
    have w2 := (w'.gr g2).wipe vs
    have s2 := (s'.trans (g2.stp (G := G'))).wipeG (vs := vs)
    have a2 := a'.stp (G' := wipeG G' vs) ((g2.stp (G := G')).wipeG (vs := vs))
    refine hg.run w2 r2 (turn i ps[i] acc env' (List.getElem?_eq_getElem hlt) hI) fun env3 σ3 G3 q3 w3 g3 p3 => ?_
    have hw3 := wipe_pin p3 hσ
    have hl3 : σ3.length = σ.length := by rw [p3.1, L2.wipe_length]
    refine ⟨hw3, ?_⟩
    have s3 := s2.trans (stp_g g3)
    have a3 := a2.stp (stp_g g3)
    refine ht.run w3 q3 fun bb env4 B4 H4 G4 q4 w4 s4 _ => ?_
    have st4 := s3.trans s4
    have a4 := a3.stp s4
    cases bb with
    | true =>
      replace q4 := q4.1 rfl
      rw [if_pos rfl]
      refine he.run w4 q4 fun p5 env5 v5 B5 H5 G5 q5 w5 r5 s5 _ => ?_
      have st5 := st4.trans s5
      have a5 := a4.stp s5
      obtain ⟨vs5, h5, rp5⟩ := a5.at_
      refine ⟨vs5, h5, by rw [rp5.length]; exact q5.1, acc ++ [p5], wipeE env5 vs, B5, wipeG G5 vs, q5.2, ?_, ?_, ?_⟩
      · have a6 : Acc K B5 H5 (wipeG G5 vs) l acc := ⟨a5.at_, a5.nb, fun i hi => a5.ap i (wipeG_sub hi)⟩
        exact a6.wd (w5.unwipe hw3 hl3)
      · exact (st5.wipeG).grow hl
      · exact ⟨⟨_, upd_same, rp5.append (RpA.one r5)⟩, a5.nb, fun i hi => a5.ap i (wipeG_sub hi)⟩
    | false =>
      replace q4 := q4.2 rfl
      rw [if_neg Bool.false_ne_true]
      exact ⟨acc, wipeE env4 vs, B4, wipeG G4 vs, q4, w4.unwipe hw3 hl3, st4.wipeG, ⟨a4.at_, a4.nb, fun i hi => a4.ap i (wipeG_sub hi)⟩⟩
  · have e : i = ps.length := by omega
    subst e
    obtain ⟨vs5, h5, rp5⟩ := a'.at_
    exact .inl ⟨hst (Nat.le_refl _), k (.ol acc) env' (.ref l) [l] B' H' G' (done acc env' hI) w' ⟨⟨l, vs5, rfl, rfl, h5, rp5⟩, by simp, fun a ha => by rw [List.mem_singleton.mp ha]; exact a'.nb, fun a ha => by
      rw [List.mem_singleton.mp ha]
      exact .inr (s1.back hl), fun a ha j hj => by rw [List.mem_singleton.mp ha] at hj; exact a'.ap j hj⟩ (s1.trans s') .off⟩⟩
/-- the same where an item changes nothing -/
def dLcP (di : dI) (dg : dG) (dt : dT) (de : dE) (n : Nat) (vs : List Nat) : dO := fun env Q => di env fun ps env1 => lenE n env1 = true ∧ ∃ Inv : Nat → List P → Prop, Inv 0 [] ∧
  (∀ i p acc, ps[i]? = some p → Inv i acc → dg p (wipeE env1 vs) fun e2 => dt e2 fun b e3 => cnd b (de e3 fun y _ => acc.length < sizeLine ∧ Inv (i + 1) (acc ++ [y])) (Inv (i + 1) acc)) ∧
  ∀ acc, Inv ps.length acc → Q (.ol acc) env1
theorem snd_lcP {n : Nat} {vs : List Nat} (hi : SndI m K wi dw) (hg : SndG (others n vs) K g dg) (ht : SndT true K tt dt) (he : SndE true K te de) : SndO m K (tLc wi g tt te vs) (dLcP dw dg dt de n vs) := ⟨fun {B H σ env G QD Q} w q k => by
  refine hi.run w q fun ps env1 B1 H1 G1 J q1 w1 s1 u1 hJ => ?_
  obtain ⟨hn, Inv, i0, turn, done⟩ := q1
  have hσ : σ.length ≤ n := by rw [← w1.len]; exact lenE_le hn
  intro l hl
  let Wx : Nat → Hp → Prop := fun i H' => ∃ acc B', Inv i acc ∧ Gr B1 H1 B' H' ∧ Acc K B' H' G1 l acc
  have g0 : Gr B1 H1 B1 (upd H1 l (.lst [])) := ⟨Ex.refl _, fun a u k => by rw [upd_ne (ne_of_none k hl)]; exact k, fun a u k => by rw [upd_ne (ne_of_none (w1.ex a u k) hl)]; exact w1.ex a u k, fun a u k n => n⟩
  refine ⟨fun i mm H' => mm = ps.length - i ∧ i ≤ ps.length ∧ Wx i H', ⟨_, rfl, Nat.zero_le _, [], B1, i0, g0, ⟨⟨[], upd_same, rfl⟩, w1.ex.back hl, fun i hi => w1.off hl i hi⟩⟩, ?_⟩
  rintro i mm H' ⟨rfl, hle, acc, B', hI, g', a'⟩
  obtain ⟨hgo, hst⟩ := hJ B' H' i g'.b g'.w hle
  by_cases hlt : i < ps.length
  · obtain ⟨go, yl⟩ := hgo ps[i] (List.getElem?_eq_getElem hlt)
    refine .inr ⟨go, Wx (i + 1), fun H2 h2 => ⟨ps.length - (i + 1), by omega, rfl, hlt, h2⟩, fun x H2 y => ?_⟩
    obtain ⟨B2, g2, r2⟩ := yl x H2 y
    have w2 := ((w1.gr g').gr g2).wipe vs
    have a2 := a'.stp (G' := G1) (g2.stp (G := G1))
    refine hg.run w2 r2 (turn i ps[i] acc (List.getElem?_eq_getElem hlt) hI) fun env3 σ3 G3 q3 w3 g3 p3 => ?_
    refine ⟨wipe_pin p3 hσ, ?_⟩
    have ap3 : ∀ i, l ∉ G3 i := fun i hi => by
      obtain ⟨j, hj⟩ := g3 i l hi
      exact a2.ap j (wipeG_sub hj)
    refine ht.run w3 q3 fun bb env4 B4 H4 G4 q4 w4 s4 u4 => ?_
    obtain ⟨_, rfl, g4⟩ := u4 rfl
    have a4 : Acc K B4 H4 G1 l acc := by
      obtain ⟨z1, z2, z3⟩ := (show Acc K _ _ _ l acc from ⟨a2.at_, a2.nb, ap3⟩).stp s4
      exact ⟨z1, z2, a2.ap⟩
    cases bb with
    | true =>
      replace q4 := q4.1 rfl
      rw [if_pos rfl]
      refine he.run w4 q4 fun p5 env5 v5 B5 H5 G5 q5 w5 r5 s5 u5 => ?_
      obtain ⟨_, rfl, g5⟩ := u5 rfl
      have gg := ((g'.trans g2).trans g4).trans g5
      have a5 : Acc K B5 H5 G1 l acc := a4.stp (g5.stp (G := G1))
      obtain ⟨vs5, h5, rp5⟩ := a5.at_
      refine ⟨vs5, h5, by rw [rp5.length]; exact q5.1, acc ++ [p5], B5, q5.2, ?_, ⟨⟨_, upd_same, rp5.append (RpA.one r5)⟩, a5.nb, a5.ap⟩⟩
      exact ⟨gg.b, fun a o h => by rw [upd_ne (ne_of_none h hl)]; exact gg.h a o h, fun a o h => by rw [upd_ne (ne_of_none h a5.nb)]; exact gg.w a o h, gg.n⟩
    | false =>
      replace q4 := q4.2 rfl
      rw [if_neg Bool.false_ne_true]
      exact ⟨acc, B4, q4, (g'.trans g2).trans g4, a4⟩
  · have e : i = ps.length := by omega
    subst e
    obtain ⟨vs5, h5, rp5⟩ := a'.at_
    exact .inl ⟨hst (Nat.le_refl _), k (.ol acc) env1 (.ref l) [l] B' H' G1 (done acc hI) (w1.gr g') ⟨⟨l, vs5, rfl, rfl, h5, rp5⟩, by simp, fun a ha => by rw [List.mem_singleton.mp ha]; exact a'.nb, fun a ha => by
      rw [List.mem_singleton.mp ha]
      exact .inr (s1.back hl), fun a ha j hj => by rw [List.mem_singleton.mp ha] at hj; exact a'.ap j hj⟩ (s1.trans g'.stp) (u1.trans (.gr g'))⟩⟩
end
end DL
set_option Elab.async false
set_option linter.all false
set_option maxRecDepth 100000
namespace DL
open PySem PySem.Spec L2
section
variable [Rf]
/-! ### what a def promises, over data -/
theorem Stp.cut {B H B' H' : Hp} {G G' G2 : Fp} (s : Stp B H G B' H' G') (h : ∀ i a, a ∈ G2 i → a ∈ G' i) : Stp B H G B' H' G2 := ⟨s.ex, s.kp, fun i a k => s.fp i a (h i a k), s.bs, s.th⟩
abbrev FSp := List D → (D → List D → Prop) → Prop
def spD (K : PySem.W.Frag) (fs : FSp) : Sp := fun vs H Q _ => ∃ B ds G QD, Wd0 K B H (vs.map some) (ds.map some) G ∧ fs ds QD ∧
  ∀ d ds' v F B' H' G', QD d ds' → Wd0 K B' H' (vs.map some) (ds'.map some) G' → Own K H G B' H' G' d v F → Stp B H G B' H' G' → Q v H'
/-- the arguments' data -/
def argD (env : Env) : AR → D
  | .inl p => .sh p
  | .inr i => match env[i]? with
    | some (some d) => d
    | _ => .sh .non
theorem argD_at {env : Env} {i : Nat} {d : D} (h : env[i]? = some (some d)) : argD env (.inr i) = d := by
  show (match env[i]? with | some (some d) => d | _ => D.sh .non) = d
  rw [h]
def slots : List AR → List Nat
  | [] => []
  | .inl _ :: as => slots as
  | .inr i :: as => i :: slots as
def has (env : Env) (i : Nat) : Bool := match env[i]? with
  | some (some _) => true
  | _ => false
def argsOk (as : List AR) (env : Env) : Bool := decide (slots as).Nodup && (slots as).all (has env)
def updS (env : Env) : List AR → List D → Env
  | .inl _ :: as, _ :: ds => updS env as ds
  | .inr i :: as, d :: ds => updS (env.set i (some d)) as ds
  | _, _ => env
theorem mem_slots {i : Nat} : ∀ {as : List AR}, i ∈ slots as ↔ ∃ j : Nat, as[j]? = some (Sum.inr i)
  | [] => by simp [slots]
  | .inl p :: as => by
    rw [show slots (.inl p :: as) = slots as from rfl, mem_slots]
    constructor
    · rintro ⟨j, h⟩; exact ⟨j + 1, h⟩
    · rintro ⟨j, h⟩
      cases j with
      | zero => cases h
      | succ j => exact ⟨j, h⟩
  | .inr k :: as => by
    rw [show slots (.inr k :: as) = k :: slots as from rfl, List.mem_cons, mem_slots]
    constructor
    · rintro (rfl | ⟨j, h⟩)
      · exact ⟨0, rfl⟩
      · exact ⟨j + 1, h⟩
    · rintro ⟨j, h⟩
      cases j with
      | zero => cases h; exact .inl rfl
      | succ j => exact .inr ⟨j, h⟩
theorem slots_inj {i j k : Nat} : ∀ {as : List AR}, (slots as).Nodup → as[j]? = some (.inr i) → as[k]? = some (.inr i) → j = k
  | [], _, h, _ => by simp at h
  | .inl p :: as, nd, h1, h2 => by
    cases j with
    | zero => cases h1
    | succ j =>
      cases k with
      | zero => cases h2
      | succ k => rw [slots_inj (as := as) nd h1 h2]
  | .inr q :: as, nd, h1, h2 => by
    have nd' := List.nodup_cons.mp nd
    cases j with
    | zero =>
      cases h1
      cases k with
      | zero => rfl
      | succ k => exact absurd (mem_slots.mpr ⟨k, h2⟩) nd'.1
    | succ j =>
      cases k with
      | zero => cases h2; exact absurd (mem_slots.mpr ⟨j, h1⟩) nd'.1
      | succ k => rw [slots_inj (as := as) nd'.2 h1 h2]
theorem updS_len : ∀ {as : List AR} {ds : List D} {env : Env}, (updS env as ds).length = env.length
  | [], _, _ => rfl
  | .inl _ :: _, [], _ => rfl
  | .inr _ :: _, [], _ => rfl
  | .inl _ :: as, _ :: ds, env => updS_len (as := as)
  | .inr i :: as, d :: ds, env => by
    show (updS (env.set i (some d)) as ds).length = _
    rw [updS_len, List.length_set]
theorem updS_out {i : Nat} : ∀ {as : List AR} {ds : List D} {env : Env}, i ∉ slots as → (updS env as ds)[i]? = env[i]?
  | [], _, _, _ => rfl
  | .inl _ :: _, [], _, _ => rfl
  | .inr _ :: _, [], _, _ => rfl
  | .inl _ :: as, _ :: ds, env, h => updS_out (as := as) h
  | .inr j :: as, d :: ds, env, h => by
    have h' : i ≠ j ∧ i ∉ slots as := ⟨fun q => h (by rw [q]; exact List.mem_cons_self), fun q => h (List.mem_cons_of_mem _ q)⟩
    show (updS (env.set j (some d)) as ds)[i]? = _
    rw [updS_out h'.2, List.getElem?_set_ne fun e => h'.1 e.symm]
theorem updS_in {i : Nat} : ∀ {as : List AR} {ds : List D} {env : Env} {j : Nat}, (slots as).Nodup → ds.length = as.length → i < env.length → as[j]? = some (.inr i) → (updS env as ds)[i]? = ds[j]?.map some
  | [], _, _, _, _, _, _, h => by simp at h
  | .inl _ :: _, [], _, _, _, h, _, _ => by simp at h
  | .inr _ :: _, [], _, _, _, h, _, _ => by simp at h
  | .inl _ :: as, _ :: ds, env, j, nd, hl, hi, h => by
    cases j with
    | zero => cases h
    | succ j => exact updS_in (as := as) (ds := ds) nd (by simpa using hl) hi h
  | .inr q :: as, d :: ds, env, j, nd, hl, hi, h => by
    have nd' := List.nodup_cons.mp nd
    show (updS (env.set q (some d)) as ds)[i]? = _
    cases j with
    | zero =>
      cases h
      rw [updS_out nd'.1, List.getElem?_set_self hi]
      rfl
    | succ j => exact updS_in (as := as) (ds := ds) nd'.2 (by simpa using hl) (by rw [List.length_set]; exact hi) h
theorem RpX.len {K : PySem.W.Frag} {B : Hp} {σ : L2.St} : ∀ {as : List AR} {vs : List V}, RpX K B σ as vs → vs.length = as.length
  | [], _, h => by rw [show _ = [] from h]; rfl
  | .inl p :: as, _, ⟨v, r, e1, _, e3⟩ => by rw [e1, List.length_cons, List.length_cons, RpX.len e3]
  | .inr i :: as, _, ⟨v, r, e1, _, e3⟩ => by rw [e1, List.length_cons, List.length_cons, RpX.len e3]
theorem RpX.inl {K : PySem.W.Frag} {B : Hp} {σ : L2.St} {p : P} : ∀ {as : List AR} {vs : List V} {j : Nat}, RpX K B σ as vs → as[j]? = some (.inl p) → ∃ v, vs[j]? = some v ∧ Rp K B p v
  | [], _, _, _, h => by simp at h
  | .inl q :: as, _, j, ⟨v, r, e1, e2, e3⟩, h => by
    cases j with
    | zero => cases h; exact ⟨v, by rw [e1]; rfl, e2⟩
    | succ j => obtain ⟨u, h1, h2⟩ := RpX.inl e3 h; exact ⟨u, by rw [e1]; exact h1, h2⟩
  | .inr q :: as, _, j, ⟨v, r, e1, e2, e3⟩, h => by
    cases j with
    | zero => cases h
    | succ j => obtain ⟨u, h1, h2⟩ := RpX.inl e3 h; exact ⟨u, by rw [e1]; exact h1, h2⟩
theorem RpX.inr {K : PySem.W.Frag} {B : Hp} {σ : L2.St} {i : Nat} : ∀ {as : List AR} {vs : List V} {j : Nat}, RpX K B σ as vs → as[j]? = some (.inr i) → ∃ v, vs[j]? = some v ∧ σ[i]? = some (some v)
  | [], _, _, _, h => by simp at h
  | .inl q :: as, _, j, ⟨v, r, e1, e2, e3⟩, h => by
    cases j with
    | zero => cases h
    | succ j => obtain ⟨u, h1, h2⟩ := RpX.inr e3 h; exact ⟨u, by rw [e1]; exact h1, h2⟩
  | .inr q :: as, _, j, ⟨v, r, e1, e2, e3⟩, h => by
    cases j with
    | zero => cases h; exact ⟨v, by rw [e1]; rfl, e2⟩
    | succ j => obtain ⟨u, h1, h2⟩ := RpX.inr e3 h; exact ⟨u, by rw [e1]; exact h1, h2⟩
def argG (as : List AR) (G : Fp) : Fp := fun j => match as[j]? with
  | some (.inr i) => G i
  | _ => []
theorem argG_in {as : List AR} {G : Fp} {j : Nat} {a : Addr} (h : a ∈ argG as G j) : ∃ i, as[j]? = some (.inr i) ∧ a ∈ G i := by
  unfold argG at h
  split at h
  · rename_i i hi; exact ⟨i, hi, h⟩
  · cases h
theorem has_some {env : Env} {i : Nat} (h : has env i = true) : ∃ d, env[i]? = some (some d) := by
  unfold has at h
  split at h
  · rename_i d hd; exact ⟨d, hd⟩
  · cases h
/-- the callee's world -/
theorem Wd.args {K : PySem.W.Frag} {B H : Hp} {σ : L2.St} {env : Env} {G : Fp} {as : List AR} {vs : List V} (w : Wd K B H σ env G) (r : RpX K B σ as vs) (ok : argsOk as env = true) :
    Wd0 K B H (vs.map some) ((as.map (argD env)).map some) (argG as G) := by
  unfold argsOk at ok
  rw [Bool.and_eq_true] at ok
  have nd := of_decide_eq_true ok.1
  have hh : ∀ i ∈ slots as, ∃ d, env[i]? = some (some d) := fun i hi => has_some (List.all_eq_true.mp ok.2 i hi)
  refine ⟨w.ex, fun j d e => ?_, fun j hn => ?_, fun j => ?_, fun j k a ha hb => ?_, fun j a ha => ?_, by rw [List.length_map, List.length_map, List.length_map, r.len]⟩
  · rw [List.getElem?_map, List.getElem?_map] at e
    cases ha : as[j]? with
    | none => rw [ha] at e; cases e
    | some x =>
      rw [ha] at e
      cases x with
      | inl p =>
        have e' : D.sh p = d := Option.some.inj (Option.some.inj e)
        subst e'
        obtain ⟨v, h1, h2⟩ := r.inl ha
        exact ⟨v, by rw [List.getElem?_map, h1]; rfl, by unfold argG; rw [ha], h2⟩
      | inr i =>
        obtain ⟨d0, h0⟩ := hh i (mem_slots.mpr ⟨j, ha⟩)
        have e' : argD env (.inr i) = d := Option.some.inj (Option.some.inj e)
        have e'' : d0 = d := by rw [argD_at h0] at e'; exact e'
        subst e''
        obtain ⟨v, h1, h2⟩ := r.inr ha
        obtain ⟨v', g1, g2⟩ := w.sl i _ h0
        rw [h2] at g1
        cases g1
        exact ⟨v, by rw [List.getElem?_map, h1]; rfl, by unfold argG; rw [ha]; exact g2⟩
  · unfold argG
    split
    · rename_i i hi
      exfalso
      refine hn (argD env (.inr i)) ?_
      rw [List.getElem?_map, List.getElem?_map, hi]
      rfl
    · rfl
  · unfold argG
    split
    · exact w.nd _
    · exact List.nodup_nil
  · obtain ⟨i, h1, h2⟩ := argG_in ha
    obtain ⟨i', h3, h4⟩ := argG_in hb
    have := w.dj i i' a h2 h4
    subst this
    exact slots_inj nd h1 h3
  · obtain ⟨i, h1, h2⟩ := argG_in ha
    exact w.nb i a h2
/-- the caller's own objects behind the call -/
def backG (as : List AR) (G G' : Fp) : Fp := fun i => match as.findIdx? (fun x => match x with | .inr j => j == i | _ => false) with
  | some j => G' j
  | none => G i
theorem find_slot {as : List AR} {i : Nat} : (∃ j, as.findIdx? (fun x => match x with | .inr j => j == i | _ => false) = some j ∧ as[j]? = some (.inr i)) ∨ (as.findIdx? (fun x => match x with | .inr j => j == i | _ => false) = none ∧ i ∉ slots as) := by
  cases h : as.findIdx? (fun x => match x with | .inr j => j == i | _ => false) with
  | some j =>
    left
    refine ⟨j, rfl, ?_⟩
    obtain ⟨hlt, hx, _⟩ := List.findIdx?_eq_some_iff_getElem.mp h
    rw [List.getElem?_eq_getElem hlt]
    cases e : as[j] with
    | inl p => rw [e] at hx; cases hx
    | inr q => rw [e] at hx; rw [beq_iff_eq.mp hx]
  | none =>
    right
    refine ⟨rfl, fun hm => ?_⟩
    obtain ⟨j, hj⟩ := mem_slots.mp hm
    have := List.findIdx?_eq_none_iff.mp h (.inr i) (List.mem_of_getElem? hj)
    simp at this
theorem Wd.after {K : PySem.W.Frag} {B H B' H' : Hp} {σ : L2.St} {env : Env} {G G' : Fp} {as : List AR} {vs : List V} {ds : List D} (w : Wd K B H σ env G) (r : RpX K B σ as vs) (ok : argsOk as env = true)
    (w' : Wd0 K B' H' (vs.map some) (ds.map some) G') (s : Stp B H (argG as G) B' H' G') :
    Wd K B' H' σ (updS env as ds) (backG as G G') ∧ Stp B H G B' H' (backG as G G') ∧ (∀ a i, a ∈ backG as G G' i → (∃ j, a ∈ G' j) ∨ (a ∈ G i ∧ i ∉ slots as)) := by
  unfold argsOk at ok
  rw [Bool.and_eq_true] at ok
  have nd := of_decide_eq_true ok.1
  have hh : ∀ i ∈ slots as, ∃ d, env[i]? = some (some d) := fun i hi => has_some (List.all_eq_true.mp ok.2 i hi)
  have hl : ds.length = as.length := by
    have := w'.len
    rw [List.length_map, List.length_map, r.len] at this
    exact this
  have keep : ∀ i a, a ∈ G i → i ∉ slots as → (∀ j, a ∉ argG as G j) := fun i a ha hn j hj => by
    obtain ⟨i', h1, h2⟩ := argG_in hj
    have := w.dj i i' a ha h2
    subst this
    exact hn (mem_slots.mpr ⟨j, h1⟩)
  have there : ∀ i a, a ∈ G i → ∃ o, H a = some o := fun i a ha => by
    by_cases hx : ∃ d, env[i]? = some (some d)
    · obtain ⟨d, hd⟩ := hx
      obtain ⟨v', h1, h2⟩ := w.sl i d hd
      exact RpD.there h2 a ha
    · rw [w.no i fun d e => hx ⟨d, e⟩] at ha; cases ha
  have mem : ∀ a i, a ∈ backG as G G' i → (∃ j, as[j]? = some (.inr i) ∧ a ∈ G' j) ∨ (a ∈ G i ∧ i ∉ slots as) := fun a i ha => by
    unfold backG at ha
    rcases find_slot (as := as) (i := i) with ⟨j, h1, h2⟩ | ⟨h1, h2⟩
    · rw [h1] at ha; exact .inl ⟨j, h2, ha⟩
    · rw [h1] at ha; exact .inr ⟨ha, h2⟩
  refine ⟨⟨⟨w'.ex, fun i d e => ?_, fun i hn => ?_, fun i => ?_, fun i j a ha hb => ?_, fun i a ha => ?_, by rw [updS_len]; exact w.len⟩, w.rf.trans s.ex⟩, ⟨s.ex, fun a o h n => s.kp a o h fun j hj => ?_, fun i a ha => ?_, fun a o h hb n => s.bs a o h hb fun j hj => ?_, s.th⟩, fun a i ha => (mem a i ha).imp (fun ⟨j, _, h⟩ => ⟨j, h⟩) id⟩
  · rcases find_slot (as := as) (i := i) with ⟨j, h1, h2⟩ | ⟨h1, h2⟩
    · obtain ⟨d0, h0⟩ := hh i (mem_slots.mpr ⟨j, h2⟩)
      rw [updS_in nd hl (env_lt h0) h2] at e
      obtain ⟨v, g1, g2⟩ := w'.sl j d (by rw [List.getElem?_map]; exact e)
      obtain ⟨v', k1, k2⟩ := r.inr h2
      rw [List.getElem?_map, k1] at g1
      cases g1
      refine ⟨_, k2, ?_⟩
      unfold backG
      rw [h1]
      exact g2
    · rw [updS_out h2] at e
      obtain ⟨v, g1, g2⟩ := w.sl i d e
      refine ⟨v, g1, ?_⟩
      unfold backG
      rw [h1]
      exact RpD.mono s.ex g2 fun a ha o ho => s.kp a o ho (keep i a ha h2)
  · rcases find_slot (as := as) (i := i) with ⟨j, h1, h2⟩ | ⟨h1, h2⟩
    · obtain ⟨d0, h0⟩ := hh i (mem_slots.mpr ⟨j, h2⟩)
      exfalso
      have hj : j < ds.length := by rw [hl]; exact (List.getElem?_eq_some_iff.mp h2).1
      refine hn ds[j] ?_
      rw [updS_in nd hl (env_lt h0) h2, List.getElem?_eq_getElem hj]
      rfl
    · unfold backG
      rw [h1]
      refine w.no i fun d e => hn d ?_
      rw [updS_out h2]; exact e
  · unfold backG
    split
    · exact w'.nd _
    · exact w.nd _
  · rcases mem a i ha with ⟨k, k1, k2⟩ | ⟨k1, k2⟩
    · rcases mem a j hb with ⟨l, l1, l2⟩ | ⟨l1, l2⟩
      · have := w'.dj k l a k2 l2
        subst this
        rw [k1] at l1
        cases l1
        rfl
      · rcases s.fp k a k2 with ⟨q, hq⟩ | hq
        · exact absurd hq (keep j a l1 l2 q)
        · obtain ⟨o, ho⟩ := there j a l1
          rw [ho] at hq; cases hq
    · rcases mem a j hb with ⟨l, l1, l2⟩ | ⟨l1, l2⟩
      · rcases s.fp l a l2 with ⟨q, hq⟩ | hq
        · exact absurd hq (keep i a k1 k2 q)
        · obtain ⟨o, ho⟩ := there i a k1
          rw [ho] at hq; cases hq
      · exact w.dj i j a k1 l1
  · rcases mem a i ha with ⟨k, k1, k2⟩ | ⟨k1, k2⟩
    · exact w'.nb k a k2
    · obtain ⟨o, ho⟩ := there i a k1
      exact s.bs a o ho (w.nb i a k1) (keep i a k1 k2)
  · obtain ⟨i, h1, h2⟩ := argG_in hj
    exact n i h2
  · rcases mem a i ha with ⟨k, k1, k2⟩ | ⟨k1, k2⟩
    · rcases s.fp k a k2 with ⟨q, hq⟩ | hq
      · obtain ⟨i', h1, h2⟩ := argG_in hq
        exact .inl ⟨i', h2⟩
      · exact .inr hq
    · exact .inl ⟨i, k1⟩
  · obtain ⟨i, h1, h2⟩ := argG_in hj
    exact n i h2
section
variable {pn : List Nat} {m : Bool} {K : PySem.W.Frag} {ta : TA} {da : dA} {X : Cx} {e a : Expr} {es : List Expr}
def dCall (fs : FSp) (da : dA) : dO := fun env Q => da env fun as e => argsOk as e = true ∧ fs (as.map (argD e)) fun d ds => Q d (updS e as ds)
theorem snd_call {fs : FSp} {E : XK} (h : SndA m K ta da) : SndO false K (tCall (spD K fs) [] E ta) (dCall fs da) := ⟨fun {B H σ env G QD Q} w q k => by
  refine h.run w q fun as e vs B1 H1 G1 q1 w1 r1 s1 _ => ?_
  obtain ⟨ok, q1⟩ := q1
  show spD K fs (vs ++ []) H1 Q E
  rw [List.append_nil]
  refine ⟨B1, _, _, _, w1.args r1 ok, q1, fun d ds v F B2 H2 G2 q2 w2 o2 s2 => ?_⟩
  obtain ⟨w3, s3, m3⟩ := w1.after r1 ok w2 s2
  refine k d _ v F B2 H2 _ q2 w3 ⟨o2.rp, o2.nd, o2.nb, fun x hx => ?_, fun x hx i hi => ?_⟩ (s1.trans s3) .off
  · rcases o2.nw x hx with ⟨j, hj⟩ | hn
    · obtain ⟨i, _, h2⟩ := argG_in hj
      exact s1.fp i x h2
    · exact .inr (s1.back hn)
  · rcases m3 x i hi with ⟨j, hj⟩ | ⟨h1, h2⟩
    · exact o2.ap x hx j hj
    · rcases o2.nw x hx with ⟨j, hj⟩ | hn
      · obtain ⟨i', g1, g2⟩ := argG_in hj
        have := w1.dj i i' x h1 g2
        subst this
        exact h2 (mem_slots.mpr ⟨j, g1⟩)
      · exact w1.off hn i h1⟩
/-- a call that changes none of its arguments -/
def dCallP (fs : FSp) (da : dA) : dO := fun env Q => da env fun as e => slots as = [] ∧ fs (as.map (argD e)) fun d _ => Q d e
theorem prs_of : ∀ {as : List AR}, slots as = [] → ∃ ps, prs as = some ps
  | [], _ => ⟨[], rfl⟩
  | .inl p :: as, h => by
    obtain ⟨ps, e⟩ := prs_of (as := as) h
    exact ⟨p :: ps, by unfold prs; rw [e]; rfl⟩
  | .inr _ :: _, h => by cases h
theorem snd_callP {fs : FSp} {E : XK} (h : SndA m K ta da) : SndO m K (tCall (spD K fs) [] E ta) (dCallP fs da) := ⟨fun {B H σ env G QD Q} w q k => by
  refine h.run w q fun as e vs B1 H1 G1 q1 w1 r1 s1 u1 => ?_
  obtain ⟨hs, q1⟩ := q1
  have ok : argsOk as e = true := by unfold argsOk; rw [hs]; rfl
  show spD K fs (vs ++ []) H1 Q E
  rw [List.append_nil]
  have gz : ∀ j x, x ∉ argG as G1 j := fun j x hx => by
    obtain ⟨i, h1, _⟩ := argG_in hx
    have := mem_slots.mpr ⟨j, h1⟩
    rw [hs] at this; cases this
  refine ⟨B1, _, _, _, w1.args r1 ok, q1, fun d ds v F B2 H2 G2 q2 w2 o2 s2 => ?_⟩
  have g : Gr B1 H1 B2 H2 := ⟨s2.ex, fun x o hx => s2.kp x o hx fun j => gz j x, w2.ex, fun x o hx hn => s2.bs x o hx hn fun j => gz j x⟩
  refine k d _ v F B2 H2 G1 q2 (w1.gr g) ⟨o2.rp, o2.nd, o2.nb, fun x hx => ?_, fun x hx i hi => ?_⟩ (s1.trans g.stp) (u1.trans (.gr g))
  · rcases o2.nw x hx with ⟨j, hj⟩ | hn
    · exact absurd hj (gz j x)
    · exact .inr (s1.back hn)
  · rcases o2.nw x hx with ⟨j, hj⟩ | hn
    · exact absurd hj (gz j x)
    · exact w1.off hn i hi⟩
theorem do_call {fs : FSp} {E : XK} {e0 : Expr} (h : PA X (e0 :: es) ta → PE X a (tCall (spD X.K fs) [] E ta)) (ha : DA m X (e0 :: es) ta da) : DO false X a (tCall (spD X.K fs) [] E ta) (dCall fs da) := ⟨h ha.pe, snd_call ha.sd⟩
theorem do_callP {fs : FSp} {E : XK} {e0 : Expr} (h : PA X (e0 :: es) ta → PE X a (tCall (spD X.K fs) [] E ta)) (ha : DA m X (e0 :: es) ta da) : DO m X a (tCall (spD X.K fs) [] E ta) (dCallP fs da) := ⟨h ha.pe, snd_callP ha.sd⟩
end
/-! ### a def -/
def back (pn : List Nat) (env : Env) : Nat → List D → List D
  | _, [] => []
  | i, d :: ds => (if pn.contains i then argD env (.inr i) else d) :: back pn env (i + 1) ds
def startE (N : List Str) (ds : List D) : Env := ds.map some ++ List.replicate (N.length - ds.length) none
def isSh : D → Bool
  | .sh _ => true
  | _ => false
/-- the parameters that are not lent are plain -/
def lentOk (pn : List Nat) : Nat → List D → Bool
  | _, [] => true
  | i, d :: ds => (pn.contains i || isSh d) && lentOk pn (i + 1) ds
theorem back_get {pn : List Nat} {env : Env} : ∀ {ds : List D} {i j : Nat}, (back pn env i ds)[j]? = ds[j]?.map fun d => if pn.contains (i + j) then argD env (.inr (i + j)) else d
  | [], _, _ => by simp [back]
  | d :: ds, i, 0 => by rfl
  | d :: ds, i, j + 1 => by
    show (back pn env (i + 1) ds)[j]? = _
    rw [back_get, show i + 1 + j = i + (j + 1) by omega]
    rfl
theorem back_len {pn : List Nat} {env : Env} : ∀ {ds : List D} {i : Nat}, (back pn env i ds).length = ds.length
  | [], _ => rfl
  | d :: ds, i => by show (back pn env (i + 1) ds).length + 1 = _; rw [back_len]; rfl
theorem lent_at {pn : List Nat} : ∀ {ds : List D} {i j : Nat} {d : D}, lentOk pn i ds = true → ds[j]? = some d → pn.contains (i + j) = true ∨ isSh d = true
  | [], _, _, _, _, h => by simp at h
  | d :: ds, i, 0, d', h, e => by
    cases Option.some.inj e
    have h' : (pn.contains i || isSh d) = true ∧ lentOk pn (i + 1) ds = true := by rw [← Bool.and_eq_true]; exact h
    rw [Bool.or_eq_true] at h'
    exact h'.1
  | d :: ds, i, j + 1, d', h, e => by
    have h' : (pn.contains i || isSh d) = true ∧ lentOk pn (i + 1) ds = true := by rw [← Bool.and_eq_true]; exact h
    have := lent_at (i := i + 1) (j := j) h'.2 e
    rw [show i + 1 + j = i + (j + 1) by omega] at this
    exact this
theorem startE_get {N : List Str} {ds : List D} {i : Nat} {d : D} (h : (startE N ds)[i]? = some (some d)) : ds[i]? = some d := by
  unfold startE at h
  by_cases hi : i < ds.length
  · rw [List.getElem?_append_left (by simpa using hi), List.getElem?_map] at h
    cases e : ds[i]? with
    | none => rw [e] at h; cases h
    | some x => rw [e] at h; cases h; rfl
  · rw [List.getElem?_append_right (by simpa using hi), List.getElem?_replicate] at h
    split at h <;> cases h
theorem Wd.start {K : PySem.W.Frag} {B H : Hp} {vs : List V} {ds : List D} {G : Fp} {N : List Str} (w : Wd0 K B H (vs.map some) (ds.map some) G) (rf : Ex Rf.R B) : Wd K B H (L2.start N vs) (startE N ds) G := by
  have hl : ds.length = vs.length := by have := w.len; rw [List.length_map, List.length_map] at this; exact this
  refine ⟨⟨w.ex, fun i d e => ?_, fun i hn => ?_, w.nd, w.dj, w.nb, ?_⟩, rf⟩
  · have e' := startE_get e
    obtain ⟨v, h1, h2⟩ := w.sl i d (by rw [List.getElem?_map, e']; rfl)
    refine ⟨v, ?_, h2⟩
    unfold L2.start
    rw [List.getElem?_append_left (by rw [List.length_map, ← hl]; exact (List.getElem?_eq_some_iff.mp e').1)]
    exact h1
  · refine w.no i fun d e => hn d ?_
    unfold startE
    rw [List.getElem?_append_left (env_lt e)]
    exact e
  · unfold startE L2.start
    rw [List.length_append, List.length_append, List.length_map, List.length_map, List.length_replicate, List.length_replicate, hl]
theorem Wd.back {K : PySem.W.Frag} {B H B' H' : Hp} {vs : List V} {ds : List D} {G G' : Fp} {N : List Str} {pn : List Nat} {env' : Env} {σ' : L2.St} (w : Wd0 K B H (vs.map some) (ds.map some) G) (hb : Ex B B')
    (w' : Wd K B' H' σ' env' G') (p : Pin pn (L2.start N vs) σ') (hl : lentOk pn 0 ds = true) (hp : pn.all (has env') = true) :
    Wd0 K B' H' (vs.map some) ((DL.back pn env' 0 ds).map some) (fun i => if pn.contains i ∧ i < ds.length then G' i else []) := by
  have hlen : ds.length = vs.length := by have := w.len; rw [List.length_map, List.length_map] at this; exact this
  refine ⟨w'.ex, fun i d e => ?_, fun i hn => ?_, fun i => ?_, fun i j a ha hb => ?_, fun i a ha => ?_, by rw [List.length_map, List.length_map, back_len, hlen]⟩
  · rw [List.getElem?_map, back_get] at e
    cases hd : ds[i]? with
    | none => rw [hd] at e; cases e
    | some d0 =>
      rw [hd] at e
      have e' : (if pn.contains (0 + i) then argD env' (.inr (0 + i)) else d0) = d := Option.some.inj (Option.some.inj e)
      rw [Nat.zero_add] at e'
      have hi : i < ds.length := (List.getElem?_eq_some_iff.mp hd).1
      obtain ⟨v, h1, h2⟩ := w.sl i d0 (by rw [List.getElem?_map, hd]; rfl)
      refine ⟨v, h1, ?_⟩
      by_cases hc : pn.contains i = true
      · rw [if_pos hc] at e'
        rw [if_pos ⟨hc, hi⟩]
        have hm : i ∈ pn := by simpa using hc
        obtain ⟨d1, hd1⟩ := has_some (List.all_eq_true.mp hp i hm)
        have e'' : d1 = d := by rw [argD_at hd1] at e'; exact e'
        subst e''
        obtain ⟨v', g1, g2⟩ := w'.sl i _ hd1
        rw [p.2 i hm] at g1
        unfold L2.start at g1
        rw [List.getElem?_append_left (by rw [List.length_map, ← hlen]; exact hi), h1] at g1
        cases g1
        exact g2
      · rw [if_neg hc] at e'
        rw [if_neg fun q => hc q.1]
        subst e'
        rcases lent_at (i := 0) (j := i) hl hd with h | h
        · rw [Nat.zero_add] at h; exact absurd h hc
        · cases d0 with
          | sh p => exact ⟨rfl, Rp.mono hb p h2.2⟩
          | _ => cases h
  · show (if pn.contains i ∧ i < ds.length then G' i else []) = []
    split
    · rename_i hc
      exfalso
      refine hn (argD env' (.inr i)) ?_
      rw [List.getElem?_map, back_get, List.getElem?_eq_getElem hc.2, Nat.zero_add]
      show some (some (if pn.contains i then argD env' (.inr i) else ds[i])) = _
      rw [if_pos hc.1]
    · rfl
  · show (if pn.contains i ∧ i < ds.length then G' i else []).Nodup
    split
    · exact w'.nd i
    · exact List.nodup_nil
  · change a ∈ (if pn.contains i ∧ i < ds.length then G' i else []) at ha
    change a ∈ (if pn.contains j ∧ j < ds.length then G' j else []) at hb
    split at ha
    · split at hb
      · exact w'.dj i j a ha hb
      · cases hb
    · cases ha
  · change a ∈ (if pn.contains i ∧ i < ds.length then G' i else []) at ha
    split at ha
    · exact w'.nb i a ha
    · cases ha
end
section
variable {P' : Program} {w' : World} {K : PySem.W.Frag} {mg : Str → Option Value} {base : Heap}
/-- a def keeps its promise over data -/
theorem Fun.okD {x qual : Str} {st : Stmt} {f : Addr} {fd : FuncData} {N ps : List Str} {k : Nat} {fs : FSp} (pn : List Nat) (F : L2.Fun K x qual st f fd) (S : FnScope N ps (defScope st)) (len : ∀ ds QD, fs ds QD → ds.length = ps.length ∧ lentOk pn 0 ds = true)
    (hbody : ∀ (cdv : Value) (A : Around) (outer : List PySem.Env) (s : Shared) (H : Hp) (E : XK), Room k (A.deeper (PyProof.Rows.envOfC qual (defScope st) s.heap.objs.size f cdv)) →
      ∃ ts dS', DSs pn (cxOf CX0 P' w' K mg base N qual (defScope st) f cdv A outer s H E).nox (defBody st) ts dS' ∧ ∀ ds QD, fs ds QD →
        dS' { nx := fun env => pn.all (has env) = true ∧ QD (.sh .non) (back pn env 0 ds), rt := fun d env => pn.all (has env) = true ∧ QD d (back pn env 0 ds) } (startE N ds)) :
    FnOk P' w' K mg base CX0 (k + 1) f fd ps (spD K fs) := by
  refine F.ok S (fun vs H Q E h => ?_) (fun cdv A outer s H vs Q E hr h => ?_)
  · obtain ⟨B, ds, G, QD, w, h, _⟩ := h
    have := w.len
    rw [List.length_map, List.length_map] at this
    rw [← this]
    exact (len ds QD h).1
  · obtain ⟨B, ds, G, QD, w, h, q⟩ := h
    obtain ⟨ts, dS', hd, hr'⟩ := hbody cdv A outer s H E hr
    have hl := (len ds QD h).2
    refine ⟨ts, hd.pe, hd.sd.run (D := { nx := fun _ H' => Q .non H', rt := Q }) (Wd.start (N := N) w (rf0_ex B)) (hr' ds QD h) ?_ ?_ (fun _ _ _ _ _ h => h.elim) (fun _ _ _ _ _ h => h.elim)⟩
    · intro env' σ' B' H' G' hq wq sq pq
      have wb := Wd.back w sq.ex wq pq hl hq.1
      exact q _ _ .non [] B' H' _ hq.2 wb ⟨⟨rfl, rfl⟩, List.nodup_nil, fun _ h => absurd h List.not_mem_nil, fun _ h => absurd h List.not_mem_nil, fun _ h => absurd h List.not_mem_nil⟩
        (sq.cut fun i a ha => by
          change a ∈ (if pn.contains i ∧ i < ds.length then G' i else []) at ha
          split at ha
          · exact ha
          · cases ha)
    · intro d env' σ' v F B' H' G' hq wq oq sq pq
      have wb := Wd.back w sq.ex wq pq hl hq.1
      refine q _ _ v F B' H' _ hq.2 wb ⟨oq.rp, oq.nd, oq.nb, oq.nw, fun a ha i hi => ?_⟩ (sq.cut fun i a ha => ?_)
      · change a ∈ (if pn.contains i ∧ i < ds.length then G' i else []) at hi
        split at hi
        · exact oq.ap a ha i hi
        · cases hi
      · change a ∈ (if pn.contains i ∧ i < ds.length then G' i else []) at ha
        split at ha
        · exact ha
        · cases ha
end
end DL
set_option Elab.async false
set_option linter.all false
set_option maxRecDepth 100000
namespace DL
open PySem PySem.Spec L2
variable [Rf]
section
variable {K : PySem.W.Frag}
/-! ### intsP -/
def dII (f : Int → Int → P) : P → P → (P → Prop) → Prop
  | .int i, .int j, Q => Q (f i j)
  | _, _, _ => False
def dIC (C : Int → Int → Prop) (f : Int → Int → P) : P → P → (P → Prop) → Prop
  | .int i, .int j, Q => C i j ∧ Q (f i j)
  | _, _, _ => False
/-- a value that is no object -/
def VP : V → P → Prop
  | .int i, .int j => i = j
  | .bl a, .bl b => a = b
  | .str a, .str b => a = b
  | .non, .non => True
  | _, _ => False
theorem VP.rp {v : V} {p : P} (h : VP v p) (B : Hp) : Rp K B p v := by
  cases v <;> cases p <;> first | exact h.elim | (cases h; rfl)
theorem os_I0 {g : Int → Int → V} {f : Int → Int → P} (h : ∀ i j, VP (g i j) (f i j)) : OpS K (rI0 g) (dII f) := ⟨fun {B H x y p q QD Q} e rx ry r k => by
  cases p with
  | int i =>
    cases q with
    | int j => exact ⟨i, j, rx, ry, k _ B H _ r ((h i j).rp B) (.refl e)⟩
    | _ => exact r.elim
  | _ => exact r.elim⟩
theorem os_I {C : Int → Int → Prop} {g : Int → Int → V} {f : Int → Int → P} (h : ∀ i j, VP (g i j) (f i j)) : OpS K (rI C g) (dIC C f) := ⟨fun {B H x y p q QD Q} e rx ry r k => by
  cases p with
  | int i =>
    cases q with
    | int j => exact ⟨i, j, rx, ry, r.1, k _ B H _ r.2 ((h i j).rp B) (.refl e)⟩
    | _ => exact r.elim
  | _ => exact r.elim⟩
abbrev dAdd := dII fun i j => .int (i + j)
abbrev dSub := dII fun i j => .int (i - j)
abbrev dMul := dIC CMulW fun i j => .int (i * j)
abbrev dMod := dIC (fun _ j => 0 < j) fun i j => .int (i % j)
abbrev dDiv := dIC CDivW fun i j => .int (i / j)
abbrev dPow := dIC CPow fun i j => .int (i ^ j.toNat)
abbrev dLt := dII fun i j => .bl (decide (i < j))
abbrev dLe := dII fun i j => .bl (decide (i ≤ j))
abbrev dGt := dII fun i j => .bl (decide (j < i))
abbrev dGe := dII fun i j => .bl (decide (j ≤ i))
theorem os_add : OpS K (rI0 fun i j => .int (i + j)) dAdd := os_I0 (by intro _ _; rfl)
theorem os_sub : OpS K (rI0 fun i j => .int (i - j)) dSub := os_I0 (by intro _ _; rfl)
theorem os_mul : OpS K (rI CMulW fun i j => .int (i * j)) dMul := os_I (by intro _ _; rfl)
theorem os_mod : OpS K (rI (fun _ j => 0 < j) fun i j => .int (i % j)) dMod := os_I (by intro _ _; rfl)
theorem os_div : OpS K (rI CDivW fun i j => .int (i / j)) dDiv := os_I (by intro _ _; rfl)
theorem os_pow : OpS K (rI CPow fun i j => .int (i ^ j.toNat)) dPow := os_I (by intro _ _; rfl)
theorem os_lt : OpS K (rI0 fun i j => .bl (decide (i < j))) dLt := os_I0 (by intro _ _; rfl)
theorem os_le : OpS K (rI0 fun i j => .bl (decide (i ≤ j))) dLe := os_I0 (by intro _ _; rfl)
theorem os_gt : OpS K (rI0 fun i j => .bl (decide (j < i))) dGt := os_I0 (by intro _ _; rfl)
theorem os_ge : OpS K (rI0 fun i j => .bl (decide (j ≤ i))) dGe := os_I0 (by intro _ _; rfl)
def dU (f : Int → P) : P → (P → Prop) → Prop
  | .int i, Q => Q (f i)
  | _, _ => False
theorem us_I {g : Int → V} {f : Int → P} (h : ∀ i, VP (g i) (f i)) : UnS K (rU g) (dU f) := ⟨fun {B H x p QD Q} e rx r k => by
  cases p with
  | int i => exact ⟨i, rx, k _ B H _ r ((h i).rp B) (.refl e)⟩
  | _ => exact r.elim⟩
abbrev dNeg := dU fun i => .int (-i)
theorem us_neg : UnS K (rU fun i => .int (-i)) dNeg := us_I (by intro _; rfl)

/-! ### == of what is no object -/
def dEq : P → P → (P → Prop) → Prop
  | .int i, .int j, Q => Q (.bl (decide (i = j)))
  | .str i, .str j, Q => Q (.bl (decide (i = j)))
  | .bl i, .bl j, Q => Q (.bl (decide (i = j)))
  | .non, .non, Q => Q (.bl true)
  | .non, .int _, Q => Q (.bl false)
  | .int _, .non, Q => Q (.bl false)
  | .non, .bl _, Q => Q (.bl false)
  | .bl _, .non, Q => Q (.bl false)
  | .non, .str _, Q => Q (.bl false)
  | .str _, .non, Q => Q (.bl false)
  | .int _, .str _, Q => Q (.bl false)
  | .str _, .int _, Q => Q (.bl false)
  | .bl _, .str _, Q => Q (.bl false)
  | .str _, .bl _, Q => Q (.bl false)
  | _, _, _ => False
def dNe (p q : P) (Q : P → Prop) : Prop := dEq p q fun z => match z with
  | .bl b => Q (.bl (!b))
  | _ => False
theorem dEq_sc {B : Hp} {p q : P} {x y : V} {QD : P → Prop} (rx : Rp K B p x) (ry : Rp K B q y) (h : dEq p q QD) : scal x y = true ∧ QD (.bl (decide (x = y))) := by
  cases p <;> cases q <;> first | exact h.elim | skip
  all_goals rw [show x = _ from rx, show y = _ from ry]
  all_goals refine ⟨rfl, ?_⟩
  all_goals first
    | exact h
    | (rw [show decide (V.int _ = V.int _) = decide _ from decide_eq_decide.mpr V.int.injEq.to_iff]; exact h)
    | (have := h; simp only [reduceCtorEq, decide_false, decide_true, V.int.injEq, V.str.injEq, V.bl.injEq] at this ⊢; exact this)
theorem os_eq : OpS K rEq dEq := ⟨fun {B H x y p q QD Q} e rx ry r k => by
  obtain ⟨h1, h2⟩ := dEq_sc rx ry r
  exact ⟨h1, k _ B H _ h2 rfl (.refl e)⟩⟩
theorem os_ne : OpS K rNe dNe := ⟨fun {B H x y p q QD Q} e rx ry r k => by
  obtain ⟨h1, h2⟩ := dEq_sc rx ry r
  exact ⟨h1, k _ B H _ h2 rfl (.refl e)⟩⟩
/-! ### is None -/
def isNon : P → Bool
  | .non => true
  | _ => false
def dIsN (p q : P) (Q : P → Prop) : Prop := match q with
  | .non => Q (.bl (isNon p))
  | _ => False
def dNotN (p q : P) (Q : P → Prop) : Prop := match q with
  | .non => Q (.bl (!isNon p))
  | _ => False
theorem isNon_rp {B : Hp} {p : P} {x : V} (r : Rp K B p x) : decide (x = V.non) = isNon p := by
  cases p with
  | lst ps => obtain ⟨a, vs, rfl, _⟩ := r; rfl
  | rol ps => obtain ⟨a, vs, rfl, _⟩ := r; rfl
  | tup ps => obtain ⟨a, vs, rfl, _⟩ := r; rfl
  | ins C fs => obtain ⟨a, dx, fv, rfl, _⟩ := r; rfl
  | _ => rw [show x = _ from r]; rfl
theorem os_isN : OpS K (fun x y H Q => y = .non ∧ Q (.bl (decide (x = .non))) H) dIsN := ⟨fun {B H x y p q QD Q} e rx ry r k => by
  cases q with
  | non => exact ⟨ry, k _ B H _ r (by rw [isNon_rp rx]; rfl) (.refl e)⟩
  | _ => exact r.elim⟩
theorem os_notN : OpS K (fun x y H Q => y = .non ∧ Q (.bl (!decide (x = .non))) H) dNotN := ⟨fun {B H x y p q QD Q} e rx ry r k => by
  cases q with
  | non => exact ⟨ry, k _ B H _ r (by rw [isNon_rp rx]; rfl) (.refl e)⟩
  | _ => exact r.elim⟩

/-! ### items -/
def dIx : P → P → (P → Prop) → Prop
  | .lst xs, .int i, Q => ∃ p, atI xs i = some p ∧ Q p
  | .rol xs, .int i, Q => ∃ p, atI xs i = some p ∧ Q p
  | .tup xs, .int i, Q => ∃ p, atI xs i = some p ∧ Q p
  | .str z, .int i, Q => z.length ≤ sizeLine ∧ ∃ c, atI z.cps.toList i = some c ∧ Q (.str ⟨#[c]⟩)
  | _, _, _ => False
theorem os_ix : OpS K (rIx K) dIx := ⟨fun {B H x y p q QD Q} e rx ry r k => by
  cases q with
  | int i =>
    cases p with
    | lst xs =>
      obtain ⟨a, vs, rfl, h1, h2⟩ := rx
      obtain ⟨p, hp, r⟩ := r
      obtain ⟨v, hv, rv⟩ := atI_rp h2 hp
      exact .inl ⟨a, vs, i, v, rfl, ry, SqL.of (e a _ h1), hv, k v B H p r rv (.refl e)⟩
    | rol xs =>
      obtain ⟨a, vs, rfl, h1, h2⟩ := rx
      obtain ⟨p, hp, r⟩ := r
      obtain ⟨v, hv, rv⟩ := atI_rp h2 hp
      exact .inl ⟨a, vs, i, v, rfl, ry, e.sqL h1, hv, k v B H p r rv (.refl e)⟩
    | tup xs =>
      obtain ⟨a, vs, rfl, h1, h2⟩ := rx
      obtain ⟨p, hp, r⟩ := r
      obtain ⟨v, hv, rv⟩ := atI_rp h2 hp
      exact .inr (.inl ⟨a, vs, i, v, rfl, ry, e.sqT h1, hv, k v B H p r rv (.refl e)⟩)
    | str z =>
      obtain ⟨hz, c, hc, r⟩ := r
      exact .inr (.inr ⟨z, i, c, rx, ry, hz, hc, k _ B H _ r rfl (.refl e)⟩)
    | _ => exact r.elim
  | _ => cases p <;> exact r.elim⟩
/-- items of lists alone, as a store's place is read -/
def dIxL : P → P → (P → Prop) → Prop
  | .lst xs, .int i, Q => ∃ p, atI xs i = some p ∧ Q p
  | .rol xs, .int i, Q => ∃ p, atI xs i = some p ∧ Q p
  | _, _, _ => False

/-! ### == of data -/
end
mutual
def P.toD : P → PyData
  | .non => .none
  | .bl b => .bool b
  | .int i => .int i
  | .str s => .str s
  | .lst xs => .list (P.toDs xs)
  | .rol xs => .list (P.toDs xs)
  | .tup xs => .tuple (P.toDs xs)
  | .ob _ => .dict []
  | .ty _ => .dict []
  | .ins _ _ => .dict []
def P.toDs : List P → List PyData
  | [] => []
  | p :: ps => P.toD p :: P.toDs ps
end
section
variable {K : PySem.W.Frag}
mutual
theorem dp_of {B : Hp} : ∀ (p : P) {v : V}, Rp K B p v → (P.toD p).canLay0 = true → Dp K B v (P.toD p)
  | .non, _, h, _ => by rw [show _ = V.non from h]; exact .non
  | .bl b, _, h, _ => by rw [show _ = V.bl b from h]; exact .bl b
  | .int i, _, h, _ => by rw [show _ = V.int i from h]; exact .int i
  | .str s, _, h, _ => by rw [show _ = V.str s from h]; exact .str s
  | .lst xs, _, ⟨a, vs, e, h1, h2⟩, c => by rw [e]; exact .lst (SqL.of h1) (dps_of xs h2 c)
  | .rol xs, _, ⟨a, vs, e, h1, h2⟩, c => by rw [e]; exact .lst h1 (dps_of xs h2 c)
  | .tup xs, _, ⟨a, vs, e, h1, h2⟩, c => by rw [e]; exact .tup h1 (dps_of xs h2 c)
  | .ob _, _, _, c => by cases c
  | .ty _, _, _, c => by cases c
  | .ins _ _, _, _, c => by cases c
theorem dps_of {B : Hp} : ∀ (ps : List P) {vs : List V}, RpA K B ps vs → PyData.canLayAll0 (P.toDs ps) = true → DpAll K B vs (P.toDs ps)
  | [], _, h, _ => by rw [show _ = ([] : List V) from h]; exact .nil
  | p :: ps, _, ⟨v, r, e, h1, h2⟩, c => by
    rw [e]
    have c' : (PyData.canLay0 p.toD && PyData.canLayAll0 (P.toDs ps)) = true := c
    rw [Bool.and_eq_true] at c'
    exact .cons (dp_of p h1 c'.1) (dps_of ps h2 c'.2)
end
mutual
theorem Dp.up {H H' : Hp} (e : Ex H H') : ∀ (d : PyData) {v : V}, Dp K H v d → Dp K H' v d
  | .none, _, h => by cases h; exact .non
  | .bool b, _, h => by cases h; exact .bl b
  | .int i, _, h => by cases h; exact .int i
  | .str x, _, h => by cases h; exact .str x
  | .list ds, _, h => by
    cases h with
    | lst h1 h2 => exact .lst (e.sqL h1) (DpAll.up e ds h2)
  | .tuple ds, _, h => by
    cases h with
    | tup h1 h2 => exact .tup (e.sqT h1) (DpAll.up e ds h2)
  | .dict _, _, h => by cases h
theorem DpAll.up {H H' : Hp} (e : Ex H H') : ∀ (ds : List PyData) {vs : List V}, DpAll K H vs ds → DpAll K H' vs ds
  | [], _, h => by cases h; exact .nil
  | d :: ds, _, h => by
    cases h with
    | cons h1 h2 => exact .cons (Dp.up e d h1) (DpAll.up e ds h2)
end
def dEqD (p q : P) (Q : P → Prop) : Prop := SeqAt.shaped p.toD = true ∧ SeqAt.shaped q.toD = true ∧ Q (.bl (PyData.eqv p.toD q.toD))
def dNeD (p q : P) (Q : P → Prop) : Prop := SeqAt.shaped p.toD = true ∧ SeqAt.shaped q.toD = true ∧ Q (.bl (!PyData.eqv p.toD q.toD))
theorem os_eqD : OpS K (rEqD K) dEqD := ⟨fun {B H x y p q QD Q} e rx ry r k =>
  ⟨p.toD, q.toD, Dp.up e _ (dp_of p rx (SeqAt.canLay_of_shaped r.1)), Dp.up e _ (dp_of q ry (SeqAt.canLay_of_shaped r.2.1)), r.1, r.2.1, k _ B H _ r.2.2 rfl (.refl e)⟩⟩
theorem os_neD : OpS K (rNeD K) dNeD := ⟨fun {B H x y p q QD Q} e rx ry r k =>
  ⟨p.toD, q.toD, Dp.up e _ (dp_of p rx (SeqAt.canLay_of_shaped r.1)), Dp.up e _ (dp_of q ry (SeqAt.canLay_of_shaped r.2.1)), r.1, r.2.1, k _ B H _ r.2.2 rfl (.refl e)⟩⟩

/-! ### built-ins -/
def dLen : List P → (P → Prop) → Prop
  | [.lst xs], Q => Q (.int xs.length)
  | [.rol xs], Q => Q (.int xs.length)
  | [.tup xs], Q => Q (.int xs.length)
  | [.str z], Q => z.length ≤ sizeLine ∧ Q (.int z.length)
  | _, _ => False
theorem one_rp {B : Hp} {p : P} {xs : List V} (r : RpA K B [p] xs) : ∃ v, xs = [v] ∧ Rp K B p v := by
  obtain ⟨v, l, e1, e2, e3⟩ := r
  exact ⟨v, by rw [e1, show l = [] from e3], e2⟩
theorem two_rp {B : Hp} {p q : P} {xs : List V} (r : RpA K B [p, q] xs) : ∃ v u, xs = [v, u] ∧ Rp K B p v ∧ Rp K B q u := by
  obtain ⟨v, l, e1, e2, e3⟩ := r
  obtain ⟨u, f1, f2⟩ := one_rp e3
  exact ⟨v, u, by rw [e1, f1], e2, f2⟩
theorem cs_len : CbS K (fun xs H Q => ∃ x n, xs = [x] ∧ LenV K x H n ∧ Q (.int n) H) dLen := ⟨fun {B H xs ps QD Q} e r q k => by
  unfold dLen at q
  split at q
  · obtain ⟨v, rfl, a, vs, rfl, h1, h2⟩ := one_rp r
    exact ⟨_, _, rfl, .inl ⟨vs, SqL.of (e a _ h1), rfl⟩, k _ B H _ q (by rw [h2.length]; rfl) (.refl e)⟩
  · obtain ⟨v, rfl, a, vs, rfl, h1, h2⟩ := one_rp r
    exact ⟨_, _, rfl, .inl ⟨vs, e.sqL h1, rfl⟩, k _ B H _ q (by rw [h2.length]; rfl) (.refl e)⟩
  · obtain ⟨v, rfl, a, vs, rfl, h1, h2⟩ := one_rp r
    exact ⟨_, _, rfl, .inr ⟨vs, e.sqT h1, rfl⟩, k _ B H _ q (by rw [h2.length]; rfl) (.refl e)⟩
  · obtain ⟨v, rfl, rfl⟩ := one_rp r
    exact ⟨_, _, rfl, ⟨q.1, rfl⟩, k _ B H _ q.2 rfl (.refl e)⟩
  · exact q.elim⟩
def dInt1 : List P → (P → Prop) → Prop
  | [.int i], Q => Q (.int i)
  | [.bl b], Q => Q (.int (if b then 1 else 0))
  | _, _ => False
theorem cs_int : CbS K (fun xs H Q => (∃ i, xs = [.int i] ∧ Q (.int i) H) ∨ ∃ k, xs = [.bl k] ∧ Q (.int (if k then 1 else 0)) H) dInt1 := ⟨fun {B H xs ps QD Q} e r q k => by
  unfold dInt1 at q
  split at q
  · obtain ⟨v, rfl, rfl⟩ := one_rp r
    exact .inl ⟨_, rfl, k _ B H _ q rfl (.refl e)⟩
  · obtain ⟨v, rfl, rfl⟩ := one_rp r
    exact .inr ⟨_, rfl, k _ B H _ q rfl (.refl e)⟩
  · exact q.elim⟩
def dAbs : List P → (P → Prop) → Prop
  | [.int i], Q => Q (.int (if i < 0 then -i else i))
  | _, _ => False
theorem cs_abs : CbS K (fun xs H Q => ∃ i, xs = [.int i] ∧ Q (.int (if i < 0 then -i else i)) H) dAbs := ⟨fun {B H xs ps QD Q} e r q k => by
  unfold dAbs at q
  split at q
  · obtain ⟨v, rfl, rfl⟩ := one_rp r
    exact ⟨_, rfl, k _ B H _ q rfl (.refl e)⟩
  · exact q.elim⟩
def intsP : List P → Option (List Int)
  | [] => some []
  | .int i :: ps => (intsP ps).map (i :: ·)
  | _ :: _ => none
theorem ints_rp {B : Hp} : ∀ {ps : List P} {vs : List V} {ns : List Int}, RpA K B ps vs → intsP ps = some ns → vs = ns.map V.int
  | [], _, _, h, e => by cases e; exact h
  | .int i :: ps, _, ns, ⟨v, r, e1, e2, e3⟩, e => by
    unfold intsP at e
    cases h : intsP ps with
    | none => rw [h] at e; cases e
    | some ms =>
      rw [h] at e
      cases Option.some.inj e
      rw [e1, ints_rp e3 h, show v = V.int i from e2]
      rfl
  | .non :: _, _, _, _, e => by cases e
  | .bl _ :: _, _, _, _, e => by cases e
  | .str _ :: _, _, _, _, e => by cases e
  | .ob _ :: _, _, _, _, e => by cases e
  | .ty _ :: _, _, _, _, e => by cases e
  | .lst _ :: _, _, _, _, e => by cases e
  | .rol _ :: _, _, _, _, e => by cases e
  | .tup _ :: _, _, _, _, e => by cases e
  | .ins _ _ :: _, _, _, _, e => by cases e
theorem ints_map (ns : List Int) : intsP (ns.map P.int) = some ns := by
  induction ns with
  | nil => rfl
  | cons n ns ih => show (intsP (ns.map P.int)).map (n :: ·) = _; rw [ih]; rfl
def dSum (ps : List P) (Q : P → Prop) : Prop := match ps with
  | [p] => (match plst p with
    | some xs => (match intsP xs with
      | some ns => Q (.int ns.sum)
      | none => False)
    | none => False)
  | _ => False
theorem cs_sum : CbS K (rSum K) dSum := ⟨fun {B H xs ps QD Q} e r q k => by
  unfold dSum at q
  split at q
  · rename_i p
    split at q
    · rename_i ys hp
      split at q
      · rename_i ns hn
        obtain ⟨v, rfl, rv⟩ := one_rp r
        obtain ⟨a, vs, rfl, h1, h2⟩ := plst_rp rv hp
        rw [ints_rp h2 hn] at h1
        exact ⟨a, ns, rfl, e.sqL h1, k _ B H _ q rfl (.refl e)⟩
      · exact q.elim
    · exact q.elim
  · exact q.elim⟩
def dListOf (ps : List P) (Q : List P → Prop) : Prop := match ps with
  | [.lst xs] => Q xs
  | [.rol xs] => Q xs
  | [.tup xs] => Q xs
  | _ => False
theorem cs_list : CbO K (fun xs H Q => ∃ p ys, xs = [.ref p] ∧ (SqL K H p ys ∨ SqT K H p ys) ∧ ∀ l, H l = none → Q (.ref l) (upd H l (.lst ys))) dListOf := ⟨fun {B H xs ps QD Q} e r q k => by
  unfold dListOf at q
  split at q
  · obtain ⟨v, rfl, a, vs, rfl, h1, h2⟩ := one_rp r
    exact ⟨a, vs, rfl, .inl (SqL.of (e a _ h1)), fun l hl => k l vs _ q h2 hl⟩
  · obtain ⟨v, rfl, a, vs, rfl, h1, h2⟩ := one_rp r
    exact ⟨a, vs, rfl, .inl (e.sqL h1), fun l hl => k l vs _ q h2 hl⟩
  · obtain ⟨v, rfl, a, vs, rfl, h1, h2⟩ := one_rp r
    exact ⟨a, vs, rfl, .inr (e.sqT h1), fun l hl => k l vs _ q h2 hl⟩
  · exact q.elim⟩
def dTupOf (ps : List P) (Q : P → Prop) : Prop := match ps with
  | [.lst xs] => Q (.tup xs)
  | [.rol xs] => Q (.tup xs)
  | [.tup xs] => Q (.tup xs)
  | _ => False
theorem cs_tuple : CbS K (fun xs H Q => ∃ p ys, xs = [.ref p] ∧ ((SqL K H p ys ∧ ∀ l, H l = none → Q (.ref l) (upd H l (.tup ys))) ∨ (SqT K H p ys ∧ Q (.ref p) H))) dTupOf := ⟨fun {B H xs ps QD Q} e r q k => by
  unfold dTupOf at q
  split at q
  · obtain ⟨v, rfl, a, vs, rfl, h1, h2⟩ := one_rp r
    refine ⟨a, vs, rfl, .inl ⟨SqL.of (e a _ h1), fun l hl => ?_⟩⟩
    have g := gr_new (o := .tup vs) e hl
    exact k _ _ _ _ q ⟨l, vs, rfl, SqT.of upd_same, RpA.mono g.b _ h2⟩ g
  · obtain ⟨v, rfl, a, vs, rfl, h1, h2⟩ := one_rp r
    refine ⟨a, vs, rfl, .inl ⟨e.sqL h1, fun l hl => ?_⟩⟩
    have g := gr_new (o := .tup vs) e hl
    exact k _ _ _ _ q ⟨l, vs, rfl, SqT.of upd_same, RpA.mono g.b _ h2⟩ g
  · obtain ⟨v, rfl, a, vs, rfl, h1, h2⟩ := one_rp r
    exact ⟨a, vs, rfl, .inr ⟨e.sqT h1, k _ B H _ q ⟨a, vs, rfl, h1, h2⟩ (.refl e)⟩⟩
  · exact q.elim⟩
/-- [x] * n -/
def dRep : P → P → (D → Prop) → Prop
  | .lst xs, .int n, Q => -(2 ^ 63) ≤ n ∧ n < 2 ^ 63 ∧ xs.length * n.toNat ≤ sizeLine ∧ Q (.ol (List.replicate n.toNat xs).flatten)
  | _, _, _ => False
theorem rep_flat {B : Hp} {ps : List P} {vs : List V} (h : RpA K B ps vs) : ∀ n : Nat, RpA K B (List.replicate n ps).flatten (List.replicate n vs).flatten
  | 0 => rfl
  | n + 1 => by
    rw [List.replicate_succ, List.flatten_cons, List.replicate_succ, List.flatten_cons]
    exact h.append (rep_flat h n)
/-! ### isinstance with a built-in class -/
def tyN : P → Option String
  | .non => some "NoneType"
  | .bl _ => some "bool"
  | .int _ => some "int"
  | .str _ => some "str"
  | .lst _ => some "list"
  | .rol _ => some "list"
  | .tup _ => some "tuple"
  | _ => none
def dIsi (ps : List P) (Q : P → Prop) : Prop := match ps with
  | [p, .ty n] => (match tyN p with
    | some t => ∃ b, kitB t n = some b ∧ Q (.bl b)
    | none => False)
  | _ => False
theorem tyx_of {B H : Hp} (e : Ex B H) : ∀ {p : P} {v : V} {t : String}, Rp K B p v → tyN p = some t → TyX K H v (.type t)
  | .non, _, _, r, h => by cases h; rw [show _ = V.non from r]; exact .base .non
  | .bl b, _, _, r, h => by cases h; rw [show _ = V.bl b from r]; exact .base (.bl b)
  | .int b, _, _, r, h => by cases h; rw [show _ = V.int b from r]; exact .base (.int b)
  | .str b, _, _, r, h => by cases h; rw [show _ = V.str b from r]; exact .base (.str b)
  | .lst b, _, _, ⟨a, vs, e1, h1, _⟩, h => by cases h; rw [e1]; exact .base (.lst (e a _ h1))
  | .rol b, _, _, ⟨a, vs, e1, h1, _⟩, h => by
    cases h
    rw [e1]
    rcases e.sqL h1 with (h2 | ⟨o, h2⟩) | ⟨o, its, n, g1, g2, _⟩
    · exact .base (.lst h2)
    · exact .base (.frz h2)
    · exact .kList g1 g2
  | .tup b, _, _, ⟨a, vs, e1, h1, _⟩, h => by
    cases h
    rw [e1]
    rcases e.sqT h1 with (h2 | ⟨o, h2⟩) | ⟨o, its, n, g1, g2, _⟩
    · exact .base (.tup h2)
    · exact .fTuple h2
    · exact .kTuple g1 g2
  | .ob _, _, _, _, h => by cases h
  | .ty _, _, _, _, h => by cases h
  | .ins _ _, _, _, _, h => by cases h
theorem cs_isi : CbS K (rIsi K) dIsi := ⟨fun {B H xs ps QD Q} e r q k => by
  unfold dIsi at q
  split at q
  · rename_i p n
    split at q
    · rename_i t ht
      obtain ⟨b, hb, q⟩ := q
      obtain ⟨v, u, rfl, r1, r2⟩ := two_rp r
      rw [show u = V.ty n from r2]
      exact ⟨v, .ty n, .type t, .type n, b, rfl, .ty n, tyx_of e r1 ht, kit_ty hb, k _ B H _ q rfl (.refl e)⟩
    · exact q.elim
  · exact q.elim⟩
end
end DL
set_option Elab.async false
set_option linter.all false
set_option maxRecDepth 100000
set_option maxHeartbeats 2000000
namespace DL
open PySem PySem.Spec L2
variable [Rf]
/-! ### what zip and enumerate walk: lists, tuples, texts in any mix -/
inductive Src where
  | L (a : Addr) | T (a : Addr) | S (z : Str)
def Src.v : Src → V
  | .L a => .ref a
  | .T a => .ref a
  | .S z => .str z
def Src.Has (K : PySem.W.Frag) (H : Hp) : Src → List V → Prop
  | .L a, xs => SqL K H a xs
  | .T a, xs => SqT K H a xs
  | .S z, xs => xs = z.cps.toList.map fun c => V.str ⟨#[c]⟩
/-- its iterator at the turn i -/
def Src.At (h : Heap) (it : Addr) (i : Nat) : Src → Prop
  | .L a => h.IsListIter it a i
  | .T a => h.IsTupleIter it a i
  | .S z => ∃ t, h.IsStrIter it (strIterType z) z t i
def Src.addr : Src → List Addr
  | .L a => [a]
  | .T a => [a]
  | .S _ => []
theorem Src.At.keep {h h' : Heap} {it : Addr} {i : Nat} : ∀ {x : Src}, x.At h it i → (∀ o, h.get? it = some o → h'.get? it = some o) → x.At h' it i
  | .L a, st, k => st.at k
  | .T a, st, k => st.at k
  | .S z, ⟨t, o, ho, r⟩, k => ⟨t, o, k o ho, r⟩
theorem Src.At.obj {h : Heap} {it : Addr} {i : Nat} : ∀ {x : Src}, x.At h it i → ∃ o, h.get? it = some o ∧ ∀ v, o.data ≠ .cell v
  | .L a, ⟨o, e, _, d⟩ => ⟨o, e, fun v q => by rw [d] at q; cases q⟩
  | .T a, ⟨o, e, _, d⟩ => ⟨o, e, fun v q => by rw [d] at q; cases q⟩
  | .S z, ⟨t, o, e, _, d⟩ => ⟨o, e, fun v q => by rw [d] at q; cases q⟩
theorem str_ty (z : Str) : strIterType z = "str_ascii_iterator" ∨ strIterType z = "str_iterator" := by
  unfold strIterType
  split
  · exact .inl rfl
  · exact .inr rfl
section
variable {X : Cx} {pins : List (Addr × Obj)} {σ : L2.St} {H : Hp} {s : Shared}
/-- what such an iterator draws -/
theorem src_draws (I : Inv X pins σ H s) {A : Around} (hh : A.handled = none) {x : Src} {xs : List V} (hq : x.Has X.K H xs) {it : Addr} {i : Nat} (st : x.At s.heap it i) (hne : ∀ a ∈ x.addr, a ≠ it) :
    ∃ (P : Nat → Value → Prop) (St : Nat → Heap → Prop), Draws X.prog X.w A it (it :: x.addr) xs.length P St ∧ St i s.heap ∧ (∀ j h, St j h → x.At h it j) ∧ ∀ j u, P j u → ∃ y, xs[j]? = some y ∧ RelV y u := by
  cases x with
  | L a =>
    obtain ⟨its, rv, p, _⟩ := I.list hq
    have hl := rv.length
    have D := Draws.list (prog := X.prog) (w := X.w) hh it a (hne a (by simp [Src.addr])) its.toArray
    rw [show its.toArray.size = xs.length by simp; omega] at D
    refine ⟨_, _, D, ⟨st, p.isList⟩, fun j h q => q.1, fun j u hu => ?_⟩
    have hu' : its[j]? = some u := by simpa using hu
    cases hy : xs[j]? with
    | none => rw [rv.none_of hy] at hu'; cases hu'
    | some y =>
      obtain ⟨u2, h1, h2⟩ := rv.get hy
      rw [hu'] at h1
      cases h1
      exact ⟨y, rfl, h2⟩
  | T a =>
    obtain ⟨its, rv, p, _⟩ := I.tuple hq
    have hl := rv.length
    have D := Draws.tuple (prog := X.prog) (w := X.w) hh it a (hne a (by simp [Src.addr])) its.toArray
    rw [show its.toArray.size = xs.length by simp; omega] at D
    refine ⟨_, _, D, ⟨st, p⟩, fun j h q => q.1, fun j u hu => ?_⟩
    have hu' : its[j]? = some u := by simpa using hu
    cases hy : xs[j]? with
    | none => rw [rv.none_of hy] at hu'; cases hu'
    | some y =>
      obtain ⟨u2, h1, h2⟩ := rv.get hy
      rw [hu'] at h1
      cases h1
      exact ⟨y, rfl, h2⟩
  | S z =>
    obtain ⟨t, st⟩ := st
    have D := Draws.text (prog := X.prog) (w := X.w) hh it z t
    have hz : xs = z.cps.toList.map fun c => V.str ⟨#[c]⟩ := hq
    rw [show z.cps.size = xs.length by rw [hz]; simp] at D
    refine ⟨_, _, D, st, fun j h q => ⟨t, q⟩, fun j u hu => ?_⟩
    obtain ⟨c, w, hc, rfl⟩ := hu
    refine ⟨.str ⟨#[c]⟩, ?_, ⟨w, rfl⟩⟩
    rw [hz, List.getElem?_map, show z.cps.toList[j]? = some c by simpa using hc]
    rfl
theorem src_inj (I : Inv X pins σ H s) {x : Src} {xs ys : List V} (h : x.Has X.K H xs) (g : x.Has X.K H ys) : xs = ys := by
  cases x with
  | L a => exact I.list_inj h g
  | T a => exact I.tuple_inj h g
  | S z => rw [show xs = _ from h, show ys = _ from g]
end
def ItzG (K : PySem.W.Frag) (a b : Src) : It :=
  ⟨fun i H => ∃ (xs ys : List V) (x y : V), a.Has K H xs ∧ b.Has K H ys ∧ xs[i]? = some x ∧ ys[i]? = some y,
    fun i H v H' => ∃ T x y, v = .ref T ∧ H T = none ∧ H' = upd H T (.tup [x, y]) ∧ (∀ xs, a.Has K H xs → xs[i]? = some x) ∧ ∀ ys, b.Has K H ys → ys[i]? = some y,
    fun i H => ∃ xs ys : List V, a.Has K H xs ∧ b.Has K H ys ∧ i ≤ xs.length ∧ i ≤ ys.length ∧ (xs.length ≤ i ∨ ys.length ≤ i)⟩
theorem turn_zipG {P : Program} {w : World} {K : PySem.W.Frag} {elts : List Expr} {kk : Nat} {tpos : Pos} {a b : Src} {N : Nat} (ha : ∀ c ∈ a.addr, c < N) (hb : ∀ c ∈ b.addr, c < N) :
    Turn P w K (.Tuple elts kk tpos) (ItzG K a b) [N + 4, N + 2, N + 3, N, N + 1] (N + 4) (fun i h => IsZip h (N + 4) (N + 2) (N + 3) .none ∧ IsTupOf2 h (N + 2) (.ref N) (.ref (N + 1)) ∧ (∃ x y, IsTupOf2 h (N + 3) x y) ∧ a.At h N i ∧ b.At h (N + 1) i) where
  mem := by simp
  obj := fun i h st c hc => by
    obtain ⟨hz, hTI, ⟨x, y, hTO⟩, h1, h2⟩ := st
    have e' : c = N + 4 ∨ c = N + 2 ∨ c = N + 3 ∨ c = N ∨ c = N + 1 := by simpa using hc
    rcases e' with q | q | q | q | q
    · rw [q]; exact ⟨_, hz, fun v q => nomatch q⟩
    · rw [q]; exact ⟨_, hTI, fun v q => nomatch q⟩
    · rw [q]; exact ⟨_, hTO, fun v q => nomatch q⟩
    · rw [q]; exact h1.obj
    · rw [q]; exact h2.obj
  keep := fun i h h' st k => by
    obtain ⟨hz, hTI, ⟨x, y, hTO⟩, h1, h2⟩ := st
    exact ⟨k _ (by simp) _ hz, k _ (by simp) _ hTI, ⟨x, y, k _ (by simp) _ hTO⟩, h1.keep fun o q => k N (by simp) o q, h2.keep fun o q => k (N + 1) (by simp) o q⟩
  item := by
    intro X hP hw hK hc i pins s σ H E I hf st hg
    subst hP hw hK
    obtain ⟨hz, hTI, ⟨x0, y0, hTO⟩, h1, h2⟩ := st
    obtain ⟨xs, ys, x, y, hqx, hqy, hx, hy⟩ := hg
    have hh : X.A.in1.handled = none := I.ok.hd hc
    obtain ⟨P1, S1, D1, s1, k1, r1⟩ := src_draws I hh hqx h1 fun c hm => Nat.ne_of_lt (ha c hm)
    obtain ⟨P2, S2, D2, s2, k2, r2⟩ := src_draws I hh hqy h2 fun c hm => Nat.ne_of_lt (Nat.lt_succ_of_lt (hb c hm))
    have hzl : N + 4 < s.heap.objs.size := Heap.lt_size hz
    have hi1 := (List.getElem?_eq_some_iff.mp hx).1
    have hi2 := (List.getElem?_eq_some_iff.mp hy).1
    refine wpAny_pyNext_zipD2_item (zip_sep2 ha hb) D1 D2 hz hTI hTO s1 s2 hi1 hi2 fun u1 u2 h' tk p1 p2 z' TO' h1' h2' hT hsz hk => ?_
    obtain ⟨y1, e1, ru1⟩ := r1 i u1 p1
    obtain ⟨y2, e2, ru2⟩ := r2 i u2 p2
    rw [hx] at e1; cases e1
    rw [hy] at e2; cases e2
    refine ⟨_, rfl, wpAny_letOwnedTupleGo_zip (s := { s with heap := h', toks := tk }) z' fun h'' z'' sb => ?_⟩
    have hT2 : h''.get? s.heap.objs.size = some { cls := .type "tuple", data := .seq #[u1, u2] } := (sb.2 _ (Nat.ne_of_gt hzl)).trans hT
    have new : ObjOk X.prog X.w (upd H s.heap.objs.size (.tup [x, y])) h'' s.heap.objs.size (.tup [x, y]) :=
      ⟨by show 2 ≤ sizeLine; decide, [u1, u2], .cons ru1 (.cons ru2 .nil), ⟨_, hT2, rfl, _, rfl⟩⟩
    have I1 : Inv X pins σ (upd H s.heap.objs.size (.tup [x, y])) { s with heap := h'', toks := tk } :=
      I.turnedNew (ch := [N + 4, N + 2, N + 3, N, N + 1]) (fun c o hb q => (sb.2 c (fun q' => hb (by simp [q']))).trans (hk c o (fun q' => hb (by simp [q'])) (fun q' => hb (by simp [q'])) (fun q' => hb (by simp [q'])) (fun q' => hb (by simp [q'])) q)) hf (Nat.le_refl _) new
    refine ⟨.ref s.heap.objs.size, _, I1, rfl, ⟨_, x, y, rfl, I.hok.fresh (Nat.le_refl _), rfl, fun l hl => by rw [src_inj I hl hqx]; exact hx, fun l hl => by rw [src_inj I hl hqy]; exact hy⟩, ⟨z'', ?_, ⟨u1, u2, ?_⟩, ?_, ?_⟩, fun c hcm => ?_⟩
    · exact (sb.2 _ (show (N + 2 : Nat) ≠ N + 4 by omega)).trans (hk _ _ (show (N + 2 : Nat) ≠ N + 4 by omega) (show (N + 2 : Nat) ≠ N + 3 by omega) (show (N + 2 : Nat) ≠ N by omega) (show (N + 2 : Nat) ≠ N + 1 by omega) hTI)
    · exact (sb.2 _ (show (N + 3 : Nat) ≠ N + 4 by omega)).trans TO'
    · exact (k1 _ _ h1').keep fun o q => (sb.2 _ (show (N : Nat) ≠ N + 4 by omega)).trans q
    · exact (k2 _ _ h2').keep fun o q => (sb.2 _ (show (N + 1 : Nat) ≠ N + 4 by omega)).trans q
    · have hlt : c < s.heap.objs.size := by
        have e' : c = N + 4 ∨ c = N + 2 ∨ c = N + 3 ∨ c = N ∨ c = N + 1 := by simpa using hcm
        rcases e' with q | q | q | q | q
        · rw [q]; exact hzl
        · rw [q]; exact Heap.lt_size hTI
        · rw [q]; exact Heap.lt_size hTO
        · rw [q]; obtain ⟨_, e1, _⟩ := h1.obj; exact Heap.lt_size e1
        · rw [q]; obtain ⟨_, e2, _⟩ := h2.obj; exact Heap.lt_size e2
      rw [upd_ne (Nat.ne_of_lt hlt)]
      exact (hf c hcm).1
  done := by
    intro X hP hw hK hc i pins s σ H E I hf st hg
    subst hP hw hK
    obtain ⟨hz, hTI, ⟨x0, y0, hTO⟩, h1, h2⟩ := st
    obtain ⟨xs, ys, hqx, hqy, hi1, hi2, hend⟩ := hg
    have hh : X.A.in1.handled = none := I.ok.hd hc
    obtain ⟨P1, S1, D1, s1, k1, r1⟩ := src_draws I hh hqx h1 fun c hm => Nat.ne_of_lt (ha c hm)
    obtain ⟨P2, S2, D2, s2, k2, r2⟩ := src_draws I hh hqy h2 fun c hm => Nat.ne_of_lt (Nat.lt_succ_of_lt (hb c hm))
    exact wpAny_pyNext_zipD2_end (zip_sep2 ha hb) D1 D2 hz hTI hTO s1 s2 hi1 hi2 (hend.imp (fun q => by omega) (fun q => by omega)) fun h' tk hk => ⟨rfl, I.turnedL (t' := tk) (ch := [N + 4, N + 2, N + 3, N, N + 1]) (fun c o hb q =>
      hk c o (fun q' => hb (by simp [q'])) (fun q' => hb (by simp [q'])) (fun q' => hb (by simp [q'])) (fun q' => hb (by simp [q'])) q) hf⟩
  self := fun A i s Q E st h => wpAny_pyIter_zip st.1 h
def iZipG (K : PySem.W.Frag) (ta : TA) : TI := fun σ H R => ta σ H fun vs H1 => ∃ (a b : Src) (xs ys : List V), vs = [a.v, b.v] ∧ a.Has K H1 xs ∧ b.Has K H1 ys ∧ R (ItzG K a b) H1
section
variable {X : Cx} {pins : List (Addr × Obj)} {σ : L2.St} {H : Hp} {s : Shared}
/-- how its iterator begins -/
theorem src_begins (I : Inv X pins σ H s) {x : Src} {xs : List V} {u : Value} (hq : x.Has X.K H xs) (r : RelV x.v u) :
    ∃ (o : Obj) (Hh : Heap → Prop), Begins u o Hh ∧ Hh s.heap ∧ (∀ c ∈ x.addr, c < s.heap.objs.size) ∧ ∀ h it, h.get? it = some o → x.At h it 0 := by
  cases x with
  | L a =>
    cases (show u = Value.ref a from r)
    obtain ⟨its, rv, p, _⟩ := I.list hq
    exact ⟨_, _, begins_list a its.toArray, p.isList, fun c hc => by rw [List.mem_singleton.mp hc]; exact p.lt, fun h it e => ⟨_, e, rfl, rfl⟩⟩
  | T a =>
    cases (show u = Value.ref a from r)
    obtain ⟨its, rv, p, _⟩ := I.tuple hq
    exact ⟨_, _, begins_tuple a its.toArray, p, fun c hc => by rw [List.mem_singleton.mp hc]; exact p.lt, fun h it e => ⟨_, e, rfl, rfl⟩⟩
  | S z =>
    obtain ⟨t, rfl⟩ := r
    exact ⟨_, _, begins_text z t, trivial, fun c hc => absurd hc List.not_mem_nil, fun h it e => ⟨t, _, e, rfl, rfl⟩⟩
theorem pi_zipG {e e2 : Expr} {ta : TA} {p pos tpos : Pos} {elts : List Expr} {kk : Nat} (hg : Gl X "zip") (hm : X.mg "zip" = none) (ha : PA X [e, e2] ta)
    (hs : starEach [e, e2] X.env = (false, eval e X.env) :: starEach [e2] X.env := by rfl) (hpl : (backTo pos (starEach [e2] X.env)).any (·.1) = false := by rfl) :
    PI X (.Tuple elts kk tpos) (.Call (.Name "zip" p) [e, e2] [] pos) (iZipG X.K ta) := by
  refine ⟨fun pins s σ H R I h => ?_⟩
  refine PyProof.Rows.Call_ (ld_blt I hg hm PyProof.Rows.boot_zip (PyProof.Rows.callWith_type1 (thn (ha.run pos pins s σ H _ I h) fun us s1 ⟨vs, H1, I1, r1, q1⟩ => ?_) hs hpl))
  obtain ⟨a, b, xs, ys, ex, hqx, hqy, q⟩ := q1
  subst ex
  cases r1 with
  | cons r rr =>
    cases rr with
    | cons r' rr =>
      cases rr
      obtain ⟨o1, Hh1, B1, g1, l1, a1⟩ := src_begins I1 hqx r
      obtain ⟨o2, Hh2, B2, g2, l2, a2⟩ := src_begins I1 hqy r'
      refine zip_begins2 B1 B2 g1 g2 fun h' hz hTI hTO h1 h2 hsz hk => wpAny_pyIter_zip hz ?_
      have I2 : Inv X pins σ H1 { s1 with heap := h' } := I1.kept (t' := s1.toks) hk
      refine ⟨s1.heap.objs.size + 4, [s1.heap.objs.size + 4, s1.heap.objs.size + 2, s1.heap.objs.size + 3, s1.heap.objs.size, s1.heap.objs.size + 1], _, _, H1, rfl, I2, turn_zipG l1 l2, ⟨hz, hTI, ⟨_, _, hTO⟩, a1 _ _ h1, a2 _ _ h2⟩, fun c hcm => ?_, q⟩
      have e' : c = s1.heap.objs.size + 4 ∨ c = s1.heap.objs.size + 2 ∨ c = s1.heap.objs.size + 3 ∨ c = s1.heap.objs.size ∨ c = s1.heap.objs.size + 1 := by simpa using hcm
      have hle : s1.heap.objs.size ≤ c := by
        rcases e' with z | z | z | z | z
        · rw [z]; exact Nat.le_add_right _ _
        · rw [z]; exact Nat.le_add_right _ _
        · rw [z]; exact Nat.le_add_right _ _
        · rw [z]; exact Nat.le_refl _
        · rw [z]; exact Nat.le_add_right _ _
      exact I1.fpOk hle (I1.hok.fresh hle)
end
/-! ### over data -/
/-- the items of what can be walked -/
def pseq : P → Option (List P)
  | .lst ps => some ps
  | .rol ps => some ps
  | .tup ps => some ps
  | .str z => some (z.cps.toList.map fun c => P.str ⟨#[c]⟩)
  | _ => none
section
variable {m : Bool} {K : PySem.W.Frag} {te ta' tb' : TE} {de da' db' : dE} {ta : TA} {da : dA} {X : Cx} {a b c e e2 : Expr} {es : List Expr} {pos : Pos}
theorem rpa_str {B : Hp} (cs : List Nat) : RpA K B (cs.map fun c => P.str ⟨#[c]⟩) (cs.map fun c => V.str ⟨#[c]⟩) := by
  induction cs with
  | nil => rfl
  | cons c cs ih => exact ⟨_, _, rfl, rfl, ih⟩
theorem pseq_src {B : Hp} {p : P} {v : V} {ps : List P} (r : Rp K B p v) (h : pseq p = some ps) : ∃ (x : Src) (vs : List V), v = x.v ∧ x.Has K B vs ∧ RpA K B ps vs := by
  cases p with
  | lst qs => cases h; obtain ⟨a, vs, e1, e2, e3⟩ := r; exact ⟨.L a, vs, e1, SqL.of e2, e3⟩
  | rol qs => cases h; obtain ⟨a, vs, e1, e2, e3⟩ := r; exact ⟨.L a, vs, e1, e2, e3⟩
  | tup qs => cases h; obtain ⟨a, vs, e1, e2, e3⟩ := r; exact ⟨.T a, vs, e1, e2, e3⟩
  | str z => cases h; exact ⟨.S z, _, r, rfl, rpa_str _⟩
  | _ => cases h
theorem Src.Has.up {B H : Hp} (e : Ex B H) : ∀ {x : Src} {vs : List V}, x.Has K B vs → x.Has K H vs
  | .L a, _, h => e.sqL h
  | .T a, _, h => e.sqT h
  | .S z, _, h => h
def zipP : List P → List P → List P
  | p :: ps, q :: qs => .tup [p, q] :: zipP ps qs
  | _, _ => []
theorem zipP_get : ∀ {ps qs : List P} {i : Nat} {r : P}, (zipP ps qs)[i]? = some r → ∃ p q, ps[i]? = some p ∧ qs[i]? = some q ∧ r = .tup [p, q]
  | [], _, _, _, h => by simp [zipP] at h
  | _ :: _, [], _, _, h => by simp [zipP] at h
  | p :: ps, q :: qs, 0, r, h => by cases h; exact ⟨p, q, rfl, rfl, rfl⟩
  | p :: ps, q :: qs, i + 1, r, h => zipP_get (ps := ps) (qs := qs) (i := i) h
theorem zipP_len : ∀ (ps qs : List P), (zipP ps qs).length = min ps.length qs.length
  | [], _ => by simp [zipP]
  | _ :: _, [] => by simp [zipP]
  | p :: ps, q :: qs => by show (zipP ps qs).length + 1 = _; rw [zipP_len]; simp only [List.length_cons]; omega
theorem itok_zip {B0 : Hp} {x y : Src} {ps qs : List P} {vs us : List V} (h1 : x.Has K B0 vs) (r1 : RpA K B0 ps vs) (h2 : y.Has K B0 us) (r2 : RpA K B0 qs us) : ItOk K (ItzG K x y) B0 (zipP ps qs) := fun B H i e1 e2 hle => by
  have g1 := h1.up (e1.trans e2)
  have g2 := h2.up (e1.trans e2)
  have l1 := r1.length
  have l2 := r2.length
  have l3 := zipP_len ps qs
  refine ⟨fun p hp => ?_, fun hge => ⟨vs, us, g1, g2, by omega, by omega, by omega⟩⟩
  obtain ⟨p1, p2, k1, k2, rfl⟩ := zipP_get hp
  obtain ⟨v1, w1, z1⟩ := r1.get k1
  obtain ⟨v2, w2, z2⟩ := r2.get k2
  refine ⟨⟨vs, us, v1, v2, g1, g2, w1, w2⟩, fun z H2 hz => ?_⟩
  obtain ⟨T, a, b, rfl, hT, rfl, f1, f2⟩ := hz
  have := f1 vs g1
  rw [w1] at this; cases this
  have := f2 us g2
  rw [w2] at this; cases this
  have g := gr_new (o := .tup [v1, v2]) e2 hT
  exact ⟨_, g, T, [v1, v2], rfl, SqT.of upd_same, v1, [v2], rfl, Rp.mono (e1.trans g.b) _ z1, v2, [], rfl, Rp.mono (e1.trans g.b) _ z2, rfl⟩
def zipQ (as : List AR) (f : List P → Prop) : Prop := match as with
  | [.inl p, .inl q] => (match pseq p, pseq q with
    | some ps, some qs => f (zipP ps qs)
    | _, _ => False)
  | _ => False
def diZ (da : dA) : dI := fun env Q => da env fun as e => zipQ as fun ps => Q ps e
theorem snd_iz (h : SndA m K ta da) : SndI m K (iZipG K ta) (diZ da) := ⟨fun {B H σ env G QD R} w q k => h.run w q fun as e vs B1 H1 G1 q1 w1 r1 s1 u1 => by
  change zipQ as fun ps => QD ps e at q1
  unfold zipQ at q1
  split at q1
  · rename_i p q
    split at q1
    · rename_i ps qs hp hq
      obtain ⟨v, l, rfl, z1, u, l2, rfl, z2, z3⟩ := r1
      cases (show l2 = [] from z3)
      obtain ⟨x, vs, rfl, f1, f2⟩ := pseq_src z1 hp
      obtain ⟨y, us, rfl, g1, g2⟩ := pseq_src z2 hq
      exact ⟨x, y, vs, us, rfl, f1.up w1.ex, g1.up w1.ex, k _ e B1 H1 G1 _ q1 w1 s1 u1 (itok_zip f1 f2 g1 g2)⟩
    · exact q1.elim
  · exact q1.elim⟩
theorem di_zip {p pos tpos : Pos} {elts : List Expr} {kk : Nat} (hg : Gl X "zip") (hm : X.mg "zip" = none) (ha : DA m X [e, e2] ta da)
    (hs : starEach [e, e2] X.env = (false, eval e X.env) :: starEach [e2] X.env := by rfl) (hpl : (backTo pos (starEach [e2] X.env)).any (·.1) = false := by rfl) :
    DI m X (.Tuple elts kk tpos) (.Call (.Name "zip" p) [e, e2] [] pos) (iZipG X.K ta) (diZ da) := ⟨pi_zipG hg hm ha.pe hs hpl, snd_iz ha.sd⟩

/-! ### one source -/
def ItS (K : PySem.W.Frag) : Src → It
  | .L a => Itl K a
  | .T a => Itt K a
  | .S z => Its z
def iSeq (K : PySem.W.Frag) (te : TE) : TI := fun σ H R => te σ H fun v H1 => ∃ (x : Src) (xs : List V), v = x.v ∧ x.Has K H1 xs ∧ R (ItS K x) H1
theorem pi_seq {tg : Expr} (hl : PE X e te) : PI X tg e (iSeq X.K te) := by
  refine ⟨fun pins s σ H R I h => ?_⟩
  refine thn (hl.run pins s σ H _ I h) fun v s1 ⟨x, H1, I1, r1, q1⟩ => ?_
  obtain ⟨y, xs, rfl, hq, q⟩ := q1
  have fr : ∀ b ∈ [s1.heap.objs.size], FpOk X pins H1 b := fun b hb => by
    rw [List.mem_singleton.mp hb]
    exact I1.fpOk (Nat.le_refl _) (I1.hok.fresh (Nat.le_refl _))
  cases y with
  | L a =>
    cases (show v = Value.ref a from r1)
    obtain ⟨its, rv, p, hz⟩ := I1.list hq
    refine wpAny_pyIter_list p.isList ?_
    exact ⟨s1.heap.objs.size, [s1.heap.objs.size], _, _, H1, rfl, I1.kept (t' := s1.toks) fun b o e => Heap.get?_push_of_some _ e, turn_list a _, ⟨_, Heap.get?_push_size _ rfl, rfl, rfl⟩, fr, q⟩
  | T a =>
    cases (show v = Value.ref a from r1)
    obtain ⟨its, rv, p, hz⟩ := I1.tuple hq
    refine wpAny_pyIter_tuple (show s1.heap.IsTuple a its.toArray from p) ?_
    exact ⟨s1.heap.objs.size, [s1.heap.objs.size], _, _, H1, rfl, I1.kept (t' := s1.toks) fun b o e => Heap.get?_push_of_some _ e, turn_tuple a _, ⟨_, Heap.get?_push_size _ rfl, rfl, rfl⟩, fr, q⟩
  | S z =>
    obtain ⟨t, rfl⟩ := r1
    refine wpAny_pyIter_strU ?_
    exact ⟨s1.heap.objs.size, [s1.heap.objs.size], _, _, H1, rfl, I1.kept (t' := s1.toks) fun b o e => Heap.get?_push_of_some _ e, turn_str _ z t _ (str_ty z), ⟨_, Heap.get?_push_size _ rfl, rfl, rfl⟩, fr, q⟩
def diS (de : dE) : dI := fun env Q => de env fun p e => match pseq p with
  | some ps => Q ps e
  | none => False
theorem itok_src {B0 : Hp} {x : Src} {ps : List P} {vs : List V} (h1 : x.Has K B0 vs) (r1 : RpA K B0 ps vs) : ItOk K (ItS K x) B0 ps := fun B H i e1 e2 hle => by
  have g1 := h1.up (e1.trans e2)
  have l1 := r1.length
  cases x with
  | L a =>
    refine ⟨fun p hp => ?_, fun hge => ⟨vs, g1, by omega⟩⟩
    obtain ⟨v1, w1, z1⟩ := r1.get hp
    refine ⟨⟨vs, v1, g1, w1⟩, fun z H2 hz => ?_⟩
    obtain ⟨rfl, f1⟩ := hz
    have := f1 vs g1
    rw [w1] at this; cases this
    exact ⟨B, .refl e2, Rp.mono e1 _ z1⟩
  | T a =>
    refine ⟨fun p hp => ?_, fun hge => ⟨vs, g1, by omega⟩⟩
    obtain ⟨v1, w1, z1⟩ := r1.get hp
    refine ⟨⟨vs, v1, g1, w1⟩, fun z H2 hz => ?_⟩
    obtain ⟨rfl, f1⟩ := hz
    have := f1 vs g1
    rw [w1] at this; cases this
    exact ⟨B, .refl e2, Rp.mono e1 _ z1⟩
  | S z =>
    have hv : vs = z.cps.toList.map fun c => V.str ⟨#[c]⟩ := h1
    have hl : vs.length = z.cps.size := by rw [hv]; simp
    refine ⟨fun p hp => ?_, fun hge => show z.cps.size ≤ i by omega⟩
    obtain ⟨v1, w1, z1⟩ := r1.get hp
    have hi := (List.getElem?_eq_some_iff.mp w1).1
    refine ⟨show i < z.cps.size by omega, fun y H2 hy => ?_⟩
    obtain ⟨rfl, c, hc, rfl⟩ := hy
    rw [hv, List.getElem?_map, show z.cps.toList[i]? = some c by simpa using hc] at w1
    cases w1
    exact ⟨B, .refl e2, Rp.mono e1 _ z1⟩
theorem snd_is (h : SndE m K te de) : SndI m K (iSeq K te) (diS de) := ⟨fun {B H σ env G QD R} w q k => h.run w q fun p e v B1 H1 G1 q1 w1 r1 s1 u1 => by
  change (match pseq p with | some ps => QD ps e | none => False) at q1
  split at q1
  · rename_i ps hp
    obtain ⟨x, vs, rfl, f1, f2⟩ := pseq_src r1 hp
    exact ⟨x, vs, rfl, f1.up w1.ex, k _ e B1 H1 G1 _ q1 w1 s1 u1 (itok_src f1 f2)⟩
  · exact q1.elim⟩
theorem di_seq {tg : Expr} (h : DE m X e te de) : DI m X tg e (iSeq X.K te) (diS de) := ⟨pi_seq h.pe, snd_is h.sd⟩
/-! ### ranges -/
def rngP (lo : Int) (n : Nat) : List P := (List.range n).map fun (i : Nat) => P.int (lo + (i : Int))
theorem rngP_len (lo : Int) (n : Nat) : (rngP lo n).length = n := by unfold rngP; simp
theorem rngP_get {lo : Int} {n i : Nat} {p : P} (h : (rngP lo n)[i]? = some p) : i < n ∧ p = .int (lo + (i : Int)) := by
  unfold rngP at h
  rw [List.getElem?_map] at h
  by_cases hi : i < n
  · rw [List.getElem?_range hi] at h
    cases h
    exact ⟨hi, rfl⟩
  · rw [List.getElem?_eq_none (by simpa using hi)] at h; cases h
theorem itok_rng {B0 : Hp} {lo : Int} {n : Nat} : ItOk K (Itr lo n) B0 (rngP lo n) := fun B H i e1 e2 _ => by
  refine ⟨fun p hp => ?_, fun hge => by rw [rngP_len] at hge; exact hge⟩
  obtain ⟨hi, rfl⟩ := rngP_get hp
  refine ⟨hi, fun x H2 hx => ?_⟩
  obtain ⟨rfl, rfl⟩ := hx
  exact ⟨B, .refl e2, rfl⟩
def rng1Q (as : List AR) (f : List P → Prop) : Prop := match as with
  | [.inl (.int j)] => -(2 ^ 62) ≤ j ∧ j < 2 ^ 62 ∧ f (rngP 0 j.toNat)
  | _ => False
def rng2Q (as : List AR) (f : List P → Prop) : Prop := match as with
  | [.inl (.int i), .inl (.int j)] => (-(2 ^ 62) ≤ i ∧ i < 2 ^ 62 ∧ -(2 ^ 62) ≤ j ∧ j < 2 ^ 62) ∧ f (rngP i (j - i).toNat)
  | _ => False
def diR1 (da : dA) : dI := fun env Q => da env fun as e => rng1Q as fun ps => Q ps e
def diR2 (da : dA) : dI := fun env Q => da env fun as e => rng2Q as fun ps => Q ps e
theorem snd_ir1 (h : SndA m K ta da) : SndI m K (iRng1 ta) (diR1 da) := ⟨fun {B H σ env G QD R} w q k => h.run w q fun as e vs B1 H1 G1 q1 w1 r1 s1 u1 => by
  change rng1Q as fun ps => QD ps e at q1
  unfold rng1Q at q1
  split at q1
  · rename_i j
    obtain ⟨v, l, rfl, z1, z2⟩ := r1
    cases (show l = [] from z2)
    cases (show v = V.int j from z1)
    exact ⟨j, rfl, q1.1, q1.2.1, k _ e B1 H1 G1 _ q1.2.2 w1 s1 u1 itok_rng⟩
  · exact q1.elim⟩
theorem snd_ir2 (h : SndA m K ta da) : SndI m K (iRng2 ta) (diR2 da) := ⟨fun {B H σ env G QD R} w q k => h.run w q fun as e vs B1 H1 G1 q1 w1 r1 s1 u1 => by
  change rng2Q as fun ps => QD ps e at q1
  unfold rng2Q at q1
  split at q1
  · rename_i i j
    obtain ⟨v, l, rfl, z1, u, l2, rfl, z2, z3⟩ := r1
    cases (show l2 = [] from z3)
    cases (show v = V.int i from z1)
    cases (show u = V.int j from z2)
    exact ⟨i, j, rfl, q1.1, k _ e B1 H1 G1 _ q1.2 w1 s1 u1 itok_rng⟩
  · exact q1.elim⟩
theorem di_rng1 {tg c0 : Expr} {e0 : Expr} (h : PA X [e0] ta → PI X tg c0 (iRng1 ta)) (ha : DA m X [e0] ta da) : DI m X tg c0 (iRng1 ta) (diR1 da) := ⟨h ha.pe, snd_ir1 ha.sd⟩
theorem di_rng2 {tg c0 : Expr} {e0 e1 : Expr} (h : PA X [e0, e1] ta → PI X tg c0 (iRng2 ta)) (ha : DA m X [e0, e1] ta da) : DI m X tg c0 (iRng2 ta) (diR2 da) := ⟨h ha.pe, snd_ir2 ha.sd⟩
end
end DL
set_option Elab.async false
set_option linter.all false
set_option maxRecDepth 100000
set_option maxHeartbeats 2000000
namespace DL
open PySem PySem.Spec L2
variable [Rf]
/-! ### what is made of tuples and of what is no object leans on no list -/
mutual
def tupO : P → Prop
  | .non => True
  | .bl _ => True
  | .int _ => True
  | .str _ => True
  | .ob _ => True
  | .ty _ => True
  | .tup ps => tupOs ps
  | .lst _ => False
  | .rol _ => False
  | .ins _ fs => tupOf fs
def tupOs : List P → Prop
  | [] => True
  | p :: ps => tupO p ∧ tupOs ps
def tupOf : List (Str × P) → Prop
  | [] => True
  | (_, p) :: ps => tupO p ∧ tupOf ps
end
/-- B without F -/
def cutB (B : Hp) (F : List Addr) : Hp := fun a => if a ∈ F then none else B a
theorem cutB_in {B : Hp} {F : List Addr} {a : Addr} {o : HO} (h : B a = some o) (n : a ∉ F) : cutB B F a = some o := by
  unfold cutB; rw [if_neg n]; exact h
theorem cutB_ex {B : Hp} {F : List Addr} : Ex (cutB B F) B := fun a o h => by
  unfold cutB at h
  split at h
  · cases h
  · exact h
section
variable {K : PySem.W.Frag}
def isT : HO → Bool
  | .tup _ => true
  | .frz _ (.tup _) => true
  | .ins _ _ _ => true
  | _ => false
def isLs : D → Bool
  | .oi _ _ => false
  | _ => true
mutual
theorem tup_rp {B : Hp} {F : List Addr} (hF : ∀ a ∈ F, ∀ o, B a = some o → isT o = false) : ∀ (p : P) {v : V}, tupO p → Rp K B p v → Rp K (cutB B F) p v
  | .non, _, _, r => r
  | .bl _, _, _, r => r
  | .int _, _, _, r => r
  | .str _, _, _, r => r
  | .ob _, _, _, r => r
  | .ty _, _, _, r => r
  | .tup ps, _, h, ⟨a, vs, e, h1, h2⟩ => by
    refine ⟨a, vs, e, ?_, tups_rp hF ps h h2⟩
    rcases h1 with (h1 | ⟨o, h1⟩) | h1
    · exact .inl (.inl (cutB_in h1 fun hm => by have := hF a hm _ h1; cases this))
    · exact .inl (.inr ⟨o, cutB_in h1 fun hm => by have := hF a hm _ h1; cases this⟩)
    · exact .inr h1
  | .lst _, _, h, _ => h.elim
  | .rol _, _, h, _ => h.elim
  | .ins C fs, _, h, ⟨a, dx, fv, e, h1, h2⟩ => ⟨a, dx, fv, e, cutB_in h1 (fun hm => by have := hF a hm _ h1; cases this), tupf_rp hF fs h h2⟩
theorem tups_rp {B : Hp} {F : List Addr} (hF : ∀ a ∈ F, ∀ o, B a = some o → isT o = false) : ∀ (ps : List P) {vs : List V}, tupOs ps → RpA K B ps vs → RpA K (cutB B F) ps vs
  | [], _, _, h => h
  | p :: ps, _, h, ⟨v, r, e, h1, h2⟩ => ⟨v, r, e, tup_rp hF p h.1 h1, tups_rp hF ps h.2 h2⟩
theorem tupf_rp {B : Hp} {F : List Addr} (hF : ∀ a ∈ F, ∀ o, B a = some o → isT o = false) : ∀ (ps : List (Str × P)) {vs : List (Str × V)}, tupOf ps → RpF K B ps vs → RpF K (cutB B F) ps vs
  | [], _, _, h => h
  | (_, p) :: ps, _, h, ⟨v, r, e, h1, h2⟩ => ⟨v, r, e, tup_rp hF p h.1 h1, tupf_rp hF ps h.2 h2⟩
end
theorem RpD.kinds {B H : Hp} : ∀ {d : D} {v : V} {F : List Addr}, isLs d = true → RpD K B H d v F → ∀ a ∈ F, ∃ vs, H a = some (.lst vs)
  | .oi _ _, _, _, h, _, _, _ => by cases h
  | .sh p, _, _, _, ⟨e1, _⟩, a, h => by rw [e1] at h; cases h
  | .ol ps, _, _, _, ⟨a, vs, e1, e2, e3, e4⟩, b, h => by
    rw [e1] at h
    rw [List.mem_singleton.mp h]
    exact ⟨_, e3⟩
  | .oll pss, _, _, _, ⟨a, as, e1, e2, e3, e4, e5⟩, b, h => by
    rw [e1] at h
    rcases List.mem_cons.mp h with h | h
    · rw [h]; exact ⟨_, e3⟩
    · obtain ⟨i, hi, e⟩ := List.getElem_of_mem h
      have h2 : pss[i]? = some (pss[i]'(by omega)) := List.getElem?_eq_getElem _
      obtain ⟨vs, g1, _⟩ := e5 i b _ (by rw [List.getElem?_eq_getElem hi, e]) h2
      exact ⟨_, g1⟩
variable {m : Bool} {pn : List Nat} {te ti tj : TE} {de di dj : dE} {dq : dO} {X : Cx} {a b c e : Expr} {pos : Pos}
def dLendT' (i : Nat) (de : dE) : dE := fun env Q => match env[i]? with
  | some (some d) => isLs d = true ∧ de (env.set i (some (.sh d.frz))) fun p _ => tupO p ∧ Q p env
  | _ => False
theorem snd_lendT' {i : Nat} (h : SndE true K te de) : SndE m K te (dLendT' i de) := ⟨fun {B H σ env G QD Q} w q k => by
  unfold dLendT' at q
  split at q
  · rename_i d hd
    obtain ⟨v0, _, rd⟩ := w.sl i d hd
    refine h.run (w.lent hd) q.2 fun p e v B1 H1 G1 q1 w1 r1 s1 u1 => ?_
    obtain ⟨_, _, g⟩ := u1 rfl
    have nb : ∀ a ∈ G i, B a = none := fun a ha => w.nb i a ha
    have eB : Ex B (cutB B1 (G i)) := fun a o ho => cutB_in (g.b a o ((frz_gr w.ex nb).1 a o ho)) fun hm => by rw [nb a hm] at ho; cases ho
    have g2 : Gr B H (cutB B1 (G i)) H1 := ⟨eB, g.h, cutB_ex.trans g.w, fun a o ho hn => by
      unfold cutB
      split
      · rfl
      · rename_i hm
        refine g.n a o ho ?_
        unfold frzB
        rw [if_neg hm]
        exact hn⟩
    refine k p env v _ H1 G q1.2 (w.gr g2) (tup_rp (fun a ha o ho => ?_) p q1.1 r1) g2.stp (.gr g2)
    obtain ⟨vs, hvs⟩ := rd.kinds q.1 a ha
    have := g.w a o ho
    rw [g.h a _ hvs] at this
    cases this
    rfl
  · exact q.elim⟩
theorem de_lendT (i : Nat) (h : DE true X a te de) : DE m X a te (dLendT' i de) := ⟨h.pe, snd_lendT' h.sd⟩

/-! ### comprehensions, as the text has them -/
structure DTs (m : Bool) (X : Cx) (ifs : List Expr) (tt : TT) (dt : dT) : Prop where
  pe : PTs X ifs tt
  sd : SndT m X.K tt dt
def dYes : dT := fun env Q => Q true env
theorem dts_nil : DTs m X [] tYes dYes := ⟨pts_nil, ⟨fun {B H σ env G QD Q} w q k => k true env B H G q w .refl (.gr (.refl w.ex))⟩⟩
theorem dts_one {tt : TT} {dt : dT} (h : DT m X c tt dt) : DTs m X [c] tt dt := ⟨pts_one h.pe, h.sd⟩
variable {elt tg iter : Expr} {ifs : List Expr} {scope : Scope} {own : List (Str × Nat)} {wi : TI} {g : TG} {tt : TT} {dw : dI} {dg : dG} {dt : dT}
abbrev Blk (X : Cx) (scope : Scope) (s : Shared) (H : Hp) (C : Addr) (cl : List (Str × Addr)) (fp : List Addr) : Cx := X.blk s H scope (compEnvC scope cl C X.env) fp
abbrev z0 : Shared := {}
abbrev z1 : Hp := fun _ => none
/-- what a block's terms may name of the block -/
abbrev BF (α : Type) := Shared → Hp → Addr → List (Str × Addr) → List Addr → α
variable {g' : BF TG} {dg' : BF dG} {tt' : BF TT} {dt' : BF dT} {te' : BF TE} {de' : BF dE} {dq' : BF dO}
theorem do_lc {n : Nat} (hc : X.calm = true) (hN : X.N.Nodup) (hi : DI false X tg iter wi dw) (ok : BlkOk X.N X.env.scope scope own)
    (hg : ∀ s H C cl fp, DG (others n (own.map (·.2))) (Blk X scope s H C cl fp) tg (g' s H C cl fp) (dg' s H C cl fp)) (ht : ∀ s H C cl fp, DTs false (Blk X scope s H C cl fp) ifs (tt' s H C cl fp) (dt' s H C cl fp)) (he : ∀ s H C cl fp, DE false (Blk X scope s H C cl fp) elt (te' s H C cl fp) (de' s H C cl fp))
    (eg : ∀ s H C cl fp, g' s H C cl fp = g' z0 z1 0 [] [] := by intros; rfl) (et : ∀ s H C cl fp, tt' s H C cl fp = tt' z0 z1 0 [] [] := by intros; rfl) (ee : ∀ s H C cl fp, te' s H C cl fp = te' z0 z1 0 [] [] := by intros; rfl)
    (hs : ∀ x, foldedSetIterable iter X.env x = pure x := by intro _; rfl) :
    DO false X (.ListComp elt [⟨tg, iter, ifs, 0⟩] scope pos) (tLc wi (g' z0 z1 0 [] []) (tt' z0 z1 0 [] []) (te' z0 z1 0 [] []) (own.map (·.2))) (dLc dw (dg' z0 z1 0 [] []) (dt' z0 z1 0 [] []) (de' z0 z1 0 [] []) n (own.map (·.2))) :=
  ⟨pe_lc hc hN hi.pe ok (fun s H C cl fp => by rw [← eg s H C cl fp]; exact (hg s H C cl fp).pe) (fun s H C cl fp => by rw [← et s H C cl fp]; exact (ht s H C cl fp).pe) (fun s H C cl fp => by rw [← ee s H C cl fp]; exact (he s H C cl fp).pe) hs,
   snd_lc hi.sd (hg z0 z1 0 [] []).sd (ht z0 z1 0 [] []).sd (he z0 z1 0 [] []).sd⟩
theorem do_lcP {n : Nat} (hc : X.calm = true) (hN : X.N.Nodup) (hi : DI m X tg iter wi dw) (ok : BlkOk X.N X.env.scope scope own)
    (hg : ∀ s H C cl fp, DG (others n (own.map (·.2))) (Blk X scope s H C cl fp) tg (g' s H C cl fp) (dg' s H C cl fp)) (ht : ∀ s H C cl fp, DTs true (Blk X scope s H C cl fp) ifs (tt' s H C cl fp) (dt' s H C cl fp)) (he : ∀ s H C cl fp, DE true (Blk X scope s H C cl fp) elt (te' s H C cl fp) (de' s H C cl fp))
    (eg : ∀ s H C cl fp, g' s H C cl fp = g' z0 z1 0 [] [] := by intros; rfl) (et : ∀ s H C cl fp, tt' s H C cl fp = tt' z0 z1 0 [] [] := by intros; rfl) (ee : ∀ s H C cl fp, te' s H C cl fp = te' z0 z1 0 [] [] := by intros; rfl)
    (hs : ∀ x, foldedSetIterable iter X.env x = pure x := by intro _; rfl) :
    DO m X (.ListComp elt [⟨tg, iter, ifs, 0⟩] scope pos) (tLc wi (g' z0 z1 0 [] []) (tt' z0 z1 0 [] []) (te' z0 z1 0 [] []) (own.map (·.2))) (dLcP dw (dg' z0 z1 0 [] []) (dt' z0 z1 0 [] []) (de' z0 z1 0 [] []) n (own.map (·.2))) :=
  ⟨pe_lc hc hN hi.pe ok (fun s H C cl fp => by rw [← eg s H C cl fp]; exact (hg s H C cl fp).pe) (fun s H C cl fp => by rw [← et s H C cl fp]; exact (ht s H C cl fp).pe) (fun s H C cl fp => by rw [← ee s H C cl fp]; exact (he s H C cl fp).pe) hs,
   snd_lcP hi.sd (hg z0 z1 0 [] []).sd (ht z0 z1 0 [] []).sd (he z0 z1 0 [] []).sd⟩
variable {y : Str} {py spos : Pos}
theorem ds_setLc {i n : Nat} (hc : X.calm = true) (hN : X.N.Nodup) (hy : X.N[i]? = some y) (hyl : X.env.scope.names.lookup y = some .local)
    (hsw : swapsWith (.ListComp elt [⟨tg, iter, ifs, 0⟩] scope pos) (some (.Name y py)) spos.line X.env = pure true) (hp : i ∉ pn) (hi : DI false X tg iter wi dw) (ok : BlkOk X.N X.env.scope scope own)
    (hg : ∀ s H C cl fp, DG (others n (own.map (·.2))) (Blk X scope s H C cl fp) tg (g' s H C cl fp) (dg' s H C cl fp)) (ht : ∀ s H C cl fp, DTs false (Blk X scope s H C cl fp) ifs (tt' s H C cl fp) (dt' s H C cl fp)) (he : ∀ s H C cl fp, DE false (Blk X scope s H C cl fp) elt (te' s H C cl fp) (de' s H C cl fp))
    (eg : ∀ s H C cl fp, g' s H C cl fp = g' z0 z1 0 [] [] := by intros; rfl) (et : ∀ s H C cl fp, tt' s H C cl fp = tt' z0 z1 0 [] [] := by intros; rfl) (ee : ∀ s H C cl fp, te' s H C cl fp = te' z0 z1 0 [] [] := by intros; rfl)
    (hs : ∀ x, foldedSetIterable iter X.env x = pure x := by intro _; rfl) :
    DS pn X (.Assign [.Name y py] (.ListComp elt [⟨tg, iter, ifs, 0⟩] scope pos) spos) (tAsg (tLc wi (g' z0 z1 0 [] []) (tt' z0 z1 0 [] []) (te' z0 z1 0 [] []) (own.map (·.2))) (gName i)) (dPut i (dLc dw (dg' z0 z1 0 [] []) (dt' z0 z1 0 [] []) (de' z0 z1 0 [] []) n (own.map (·.2)))) :=
  ⟨ps_setLc hc hN hy hyl hsw hi.pe ok (fun s H C cl fp => by rw [← eg s H C cl fp]; exact (hg s H C cl fp).pe) (fun s H C cl fp => by rw [← et s H C cl fp]; exact (ht s H C cl fp).pe) (fun s H C cl fp => by rw [← ee s H C cl fp]; exact (he s H C cl fp).pe) hs,
   snd_put hp (snd_lc hi.sd (hg z0 z1 0 [] []).sd (ht z0 z1 0 [] []).sd (he z0 z1 0 [] []).sd)⟩
theorem ds_setLcP {i n : Nat} (hc : X.calm = true) (hN : X.N.Nodup) (hy : X.N[i]? = some y) (hyl : X.env.scope.names.lookup y = some .local)
    (hsw : swapsWith (.ListComp elt [⟨tg, iter, ifs, 0⟩] scope pos) (some (.Name y py)) spos.line X.env = pure true) (hp : i ∉ pn) (hi : DI false X tg iter wi dw) (ok : BlkOk X.N X.env.scope scope own)
    (hg : ∀ s H C cl fp, DG (others n (own.map (·.2))) (Blk X scope s H C cl fp) tg (g' s H C cl fp) (dg' s H C cl fp)) (ht : ∀ s H C cl fp, DTs true (Blk X scope s H C cl fp) ifs (tt' s H C cl fp) (dt' s H C cl fp)) (he : ∀ s H C cl fp, DE true (Blk X scope s H C cl fp) elt (te' s H C cl fp) (de' s H C cl fp))
    (eg : ∀ s H C cl fp, g' s H C cl fp = g' z0 z1 0 [] [] := by intros; rfl) (et : ∀ s H C cl fp, tt' s H C cl fp = tt' z0 z1 0 [] [] := by intros; rfl) (ee : ∀ s H C cl fp, te' s H C cl fp = te' z0 z1 0 [] [] := by intros; rfl)
    (hs : ∀ x, foldedSetIterable iter X.env x = pure x := by intro _; rfl) :
    DS pn X (.Assign [.Name y py] (.ListComp elt [⟨tg, iter, ifs, 0⟩] scope pos) spos) (tAsg (tLc wi (g' z0 z1 0 [] []) (tt' z0 z1 0 [] []) (te' z0 z1 0 [] []) (own.map (·.2))) (gName i)) (dPut i (dLcP dw (dg' z0 z1 0 [] []) (dt' z0 z1 0 [] []) (de' z0 z1 0 [] []) n (own.map (·.2)))) :=
  ⟨ps_setLc hc hN hy hyl hsw hi.pe ok (fun s H C cl fp => by rw [← eg s H C cl fp]; exact (hg s H C cl fp).pe) (fun s H C cl fp => by rw [← et s H C cl fp]; exact (ht s H C cl fp).pe) (fun s H C cl fp => by rw [← ee s H C cl fp]; exact (he s H C cl fp).pe) hs,
   snd_put hp (snd_lcP hi.sd (hg z0 z1 0 [] []).sd (ht z0 z1 0 [] []).sd (he z0 z1 0 [] []).sd)⟩
/-! ### a list of own lists -/
structure AccO (K : PySem.W.Frag) (B H : Hp) (G : Fp) (l : Addr) (as : List Addr) (pss : List (List P)) : Prop where
  at_ : H l = some (.lst (as.map V.ref))
  len : as.length = pss.length
  its : ∀ (i : Nat) (b : Addr) (ps : List P), as[i]? = some b → pss[i]? = some ps → ∃ vs, H b = some (.lst vs) ∧ RpA K B ps vs
  nd : (l :: as).Nodup
  nb : ∀ a ∈ l :: as, B a = none
  ap : ∀ a ∈ l :: as, ∀ i, a ∉ G i
theorem AccO.there {B H : Hp} {G : Fp} {l : Addr} {as : List Addr} {pss : List (List P)} (x : AccO K B H G l as pss) : ∀ a ∈ l :: as, ∃ o, H a = some o := fun a h => by
  rcases List.mem_cons.mp h with h | h
  · rw [h]; exact ⟨_, x.at_⟩
  · obtain ⟨i, hi, e⟩ := List.getElem_of_mem h
    have h2 : pss[i]? = some (pss[i]'(by have := x.len; omega)) := List.getElem?_eq_getElem _
    obtain ⟨vs, g1, _⟩ := x.its i a _ (by rw [List.getElem?_eq_getElem hi, e]) h2
    exact ⟨_, g1⟩
theorem AccO.stp {B H B' H' : Hp} {G G' : Fp} {l : Addr} {as : List Addr} {pss : List (List P)} (a : AccO K B H G l as pss) (s : Stp B H G B' H' G') : AccO K B' H' G' l as pss where
  at_ := s.kp l _ a.at_ (a.ap l List.mem_cons_self)
  len := a.len
  its := fun i b ps h1 h2 => by
    obtain ⟨vs, g1, g2⟩ := a.its i b ps h1 h2
    exact ⟨vs, s.kp b _ g1 (a.ap b (List.mem_cons_of_mem _ (List.mem_of_getElem? h1))), RpA.mono s.ex ps g2⟩
  nd := a.nd
  nb := fun x hx => by
    obtain ⟨o, ho⟩ := a.there x hx
    exact s.bs x o ho (a.nb x hx) (a.ap x hx)
  ap := fun x hx i hi => by
    obtain ⟨o, ho⟩ := a.there x hx
    rcases s.fp i x hi with ⟨j, hj⟩ | hn
    · exact a.ap x hx j hj
    · rw [ho] at hn; cases hn
theorem AccO.gsub {B H : Hp} {G G' : Fp} {l : Addr} {as : List Addr} {pss : List (List P)} (a : AccO K B H G l as pss) (h : ∀ i x, x ∈ G' i → ∃ j, x ∈ G j) : AccO K B H G' l as pss :=
  ⟨a.at_, a.len, a.its, a.nd, a.nb, fun x hx i hi => by
    obtain ⟨j, hj⟩ := h i x hi
    exact a.ap x hx j hj⟩
theorem AccO.wd {B H : Hp} {σ : L2.St} {env : Env} {G : Fp} {l : Addr} {as : List Addr} {pss : List (List P)} {u : HO} (a : AccO K B H G l as pss) (w : Wd K B H σ env G) : Wd K B (upd H l u) σ env G where
  rf := w.rf
  ex := fun x o h => by rw [upd_ne (ne_of_none h (a.nb l List.mem_cons_self))]; exact w.ex x o h
  sl := fun i d e => by
    obtain ⟨v, h1, h2⟩ := w.sl i d e
    refine ⟨v, h1, RpD.mono (Ex.refl B) h2 fun x hx o ho => ?_⟩
    rw [upd_ne fun q => a.ap l List.mem_cons_self i (by rw [← q]; exact hx)]
    exact ho
  no := w.no
  nd := w.nd
  dj := w.dj
  nb := w.nb
  len := w.len
def ownL : D → Option (List P)
  | .ol ps => some ps
  | _ => none
def dLcO (di : dI) (dg : dG) (dq : dO) (n : Nat) (vs : List Nat) : dO := fun env Q => di env fun ps env1 => lenE n env1 = true ∧ ∃ Inv : Nat → List (List P) → Env → Prop, Inv 0 [] env1 ∧
  (∀ i p acc e, ps[i]? = some p → Inv i acc e → dg p (wipeE e vs) fun e2 => dq e2 fun y e4 => acc.length < sizeLine ∧ ∃ qs, ownL y = some qs ∧ Inv (i + 1) (acc ++ [qs]) (wipeE e4 vs)) ∧
  ∀ acc e, Inv ps.length acc e → Q (.oll acc) e
theorem snd_lcO {n : Nat} {vs : List Nat} (hi : SndI m K wi dw) (hg : SndG (others n vs) K g dg) (he : SndO false K te dq) : SndO false K (tLc wi g tYes te vs) (dLcO dw dg dq n vs) := ⟨fun {B H σ env G QD Q} w q k => by
  refine hi.run w q fun ps env1 B1 H1 G1 J q1 w1 s1 _ hJ => ?_
  obtain ⟨hn, Inv, i0, turn, done⟩ := q1
  have hσ : σ.length ≤ n := by rw [← w1.len]; exact lenE_le hn
  intro l hl
  let Wx : Nat → Hp → Prop := fun i H' => ∃ acc as env' B' G', Inv i acc env' ∧ Wd K B' H' σ env' G' ∧ Stp B1 H1 G1 B' H' G' ∧ AccO K B' H' G' l as acc ∧ (∀ a ∈ as, (∃ j, a ∈ G1 j) ∨ H1 a = none)
  refine ⟨fun i mm H' => mm = ps.length - i ∧ i ≤ ps.length ∧ Wx i H', ⟨_, rfl, Nat.zero_le _, [], [], env1, B1, G1, i0, ?_, stp_new hl, ⟨upd_same, rfl, fun i b qs h1 h2 => by simp at h1, by simp, fun a ha => by rw [List.mem_singleton.mp ha]; exact w1.ex.back hl, fun a ha i hi => by rw [List.mem_singleton.mp ha] at hi; exact w1.off hl i hi⟩, fun a ha => absurd ha List.not_mem_nil⟩, ?_⟩
  · exact w1.gr ⟨Ex.refl _, fun a u k => by rw [upd_ne (ne_of_none k hl)]; exact k, fun a u k => by rw [upd_ne (ne_of_none (w1.ex a u k) hl)]; exact w1.ex a u k, fun a u k n => n⟩
  rintro i mm H' ⟨rfl, hle, acc, as, env', B', G', hI, w', s', a', nw⟩
  obtain ⟨hgo, hst⟩ := hJ B' H' i s'.ex w'.ex hle
  by_cases hlt : i < ps.length
  · obtain ⟨go, yl⟩ := hgo ps[i] (List.getElem?_eq_getElem hlt)
    refine .inr ⟨go, Wx (i + 1), fun H2 h2 => ⟨ps.length - (i + 1), by omega, rfl, hlt, h2⟩, fun x H2 y => ?_⟩
    obtain ⟨B2, g2, r2⟩ := yl x H2 y
    have w2 := (w'.gr g2).wipe vs
    have s2 := (s'.trans (g2.stp (G := G'))).wipeG (vs := vs)
    have a2 := a'.stp (G' := wipeG G' vs) ((g2.stp (G := G')).wipeG (vs := vs))
    refine hg.run w2 r2 (turn i ps[i] acc env' (List.getElem?_eq_getElem hlt) hI) fun env3 σ3 G3 q3 w3 g3 p3 => ?_
    have hw3 := wipe_pin p3 hσ
    have hl3 : σ3.length = σ.length := by rw [p3.1, L2.wipe_length]
    refine ⟨hw3, ?_⟩
    have s3 := s2.trans (stp_g g3)
    have a3 := a2.stp (stp_g g3)
    show if true = true then (te σ3 H2 fun y H4 => ∃ acc, H4 l = some (HO.lst acc) ∧ acc.length < sizeLine ∧ Wx (i + 1) (upd H4 l (HO.lst (acc ++ [y])))) else Wx (i + 1) H2
    rw [if_pos rfl]
    refine he.run w3 q3 fun d5 env5 v5 F5 B5 H5 G5 q5 w5 o5 s5 _ => ?_
    obtain ⟨hlen, qs, hq, q5⟩ := q5
    have st5 := s3.trans s5
    have a5 := a3.stp s5
    have hd : d5 = .ol qs := by
      cases d5 with
      | ol zs => cases hq; rfl
      | _ => cases hq
    subst hd
    obtain ⟨b, ws, rfl, rfl, hb, rb⟩ := o5.rp
    have hbm : b ∉ l :: as := fun hm => by
      rcases o5.nw b List.mem_cons_self with ⟨j, hj⟩ | hx
      · exact a3.ap b hm j hj
      · obtain ⟨o, ho⟩ := a3.there b hm
        rw [hx] at ho; cases ho
    have hbl : b ≠ l := fun q => hbm (by rw [q]; exact List.mem_cons_self)
    refine ⟨as.map V.ref, a5.at_, by rw [List.length_map, a5.len]; exact hlen, acc ++ [qs], as ++ [b], wipeE env5 vs, B5, wipeG G5 vs, q5, ?_, (st5.wipeG).grow hl, ⟨?_, ?_, ?_, ?_, ?_, ?_⟩, ?_⟩
    · exact (a5.gsub fun i x hx => ⟨i, wipeG_sub hx⟩).wd (w5.unwipe hw3 hl3)
    · rw [upd_same, List.map_append]; rfl
    · rw [List.length_append, List.length_append, a5.len]; rfl
    · intro j c zs h1 h2
      by_cases hj : j < as.length
      · rw [List.getElem?_append_left hj] at h1
        rw [List.getElem?_append_left (by rw [← a5.len]; exact hj)] at h2
        obtain ⟨us, g1, g2⟩ := a5.its j c zs h1 h2
        refine ⟨us, ?_, g2⟩
        rw [upd_ne fun q => (List.nodup_cons.mp a5.nd).1 (by rw [← q]; exact List.mem_of_getElem? h1)]
        exact g1
      · have hj2 : j = as.length := by
          have := (List.getElem?_eq_some_iff.mp h1).1
          rw [List.length_append, List.length_singleton] at this
          omega
        subst hj2
        rw [List.getElem?_append_right (Nat.le_refl _), Nat.sub_self] at h1
        rw [a5.len, List.getElem?_append_right (Nat.le_refl _), Nat.sub_self] at h2
        cases h1
        cases h2
        exact ⟨ws, by rw [upd_ne hbl]; exact hb, rb⟩
    · rw [← List.cons_append]
      refine List.nodup_append.mpr ⟨a5.nd, by simp, fun x hx y hy => ?_⟩
      rw [List.mem_singleton.mp hy]
      exact fun q => hbm (by rw [← q]; exact hx)
    · intro x hx
      rw [← List.cons_append] at hx
      rcases List.mem_append.mp hx with hx | hx
      · exact a5.nb x hx
      · rw [List.mem_singleton.mp hx]; exact o5.nb b List.mem_cons_self
    · intro x hx j hj
      rw [← List.cons_append] at hx
      rcases List.mem_append.mp hx with hx | hx
      · exact a5.ap x hx j (wipeG_sub hj)
      · rw [List.mem_singleton.mp hx] at hj; exact o5.ap b List.mem_cons_self j (wipeG_sub hj)
    · intro x hx
      rcases List.mem_append.mp hx with hx | hx
      · exact nw x hx
      · rw [List.mem_singleton.mp hx]
        rcases o5.nw b List.mem_cons_self with ⟨j, hj⟩ | hz
        · exact s3.fp j b hj
        · by_cases hgx : ∃ j, b ∈ G1 j
          · exact .inl hgx
          · right
            cases hh : H1 b with
            | none => rfl
            | some o =>
              have := s3.kp b o hh fun j hj => hgx ⟨j, hj⟩
              rw [hz] at this; cases this
  · have e : i = ps.length := by omega
    subst e
    refine .inl ⟨hst (Nat.le_refl _), k (.oll acc) env' (.ref l) (l :: as) B' H' G' (done acc env' hI) w' ⟨⟨l, as, rfl, rfl, a'.at_, a'.len, a'.its⟩, a'.nd, a'.nb, fun a ha => ?_, a'.ap⟩ (s1.trans s') .off⟩
    rcases List.mem_cons.mp ha with ha | ha
    · rw [ha]; exact .inr (s1.back hl)
    · rcases nw a ha with ⟨j, hj⟩ | hx
      · exact s1.fp j a hj
      · exact .inr (s1.back hx)⟩
theorem do_lcO {n : Nat} (hc : X.calm = true) (hN : X.N.Nodup) (hi : DI false X tg iter wi dw) (ok : BlkOk X.N X.env.scope scope own)
    (hg : ∀ s H C cl fp, DG (others n (own.map (·.2))) (Blk X scope s H C cl fp) tg (g' s H C cl fp) (dg' s H C cl fp)) (he : ∀ s H C cl fp, DO false (Blk X scope s H C cl fp) elt (te' s H C cl fp) (dq' s H C cl fp))
    (eg : ∀ s H C cl fp, g' s H C cl fp = g' z0 z1 0 [] [] := by intros; rfl) (ee : ∀ s H C cl fp, te' s H C cl fp = te' z0 z1 0 [] [] := by intros; rfl)
    (hs : ∀ x, foldedSetIterable iter X.env x = pure x := by intro _; rfl) :
    DO false X (.ListComp elt [⟨tg, iter, [], 0⟩] scope pos) (tLc wi (g' z0 z1 0 [] []) tYes (te' z0 z1 0 [] []) (own.map (·.2))) (dLcO dw (dg' z0 z1 0 [] []) (dq' z0 z1 0 [] []) n (own.map (·.2))) :=
  ⟨pe_lc hc hN hi.pe ok (fun s H C cl fp => by rw [← eg s H C cl fp]; exact (hg s H C cl fp).pe) (fun s H C cl fp => pts_nil) (fun s H C cl fp => by rw [← ee s H C cl fp]; exact (he s H C cl fp).pe) hs,
   snd_lcO hi.sd (hg z0 z1 0 [] []).sd (he z0 z1 0 [] []).sd⟩
theorem ds_setLcO {i n : Nat} (hc : X.calm = true) (hN : X.N.Nodup) (hy : X.N[i]? = some y) (hyl : X.env.scope.names.lookup y = some .local)
    (hsw : swapsWith (.ListComp elt [⟨tg, iter, [], 0⟩] scope pos) (some (.Name y py)) spos.line X.env = pure true) (hp : i ∉ pn) (hi : DI false X tg iter wi dw) (ok : BlkOk X.N X.env.scope scope own)
    (hg : ∀ s H C cl fp, DG (others n (own.map (·.2))) (Blk X scope s H C cl fp) tg (g' s H C cl fp) (dg' s H C cl fp)) (he : ∀ s H C cl fp, DO false (Blk X scope s H C cl fp) elt (te' s H C cl fp) (dq' s H C cl fp))
    (eg : ∀ s H C cl fp, g' s H C cl fp = g' z0 z1 0 [] [] := by intros; rfl) (ee : ∀ s H C cl fp, te' s H C cl fp = te' z0 z1 0 [] [] := by intros; rfl)
    (hs : ∀ x, foldedSetIterable iter X.env x = pure x := by intro _; rfl) :
    DS pn X (.Assign [.Name y py] (.ListComp elt [⟨tg, iter, [], 0⟩] scope pos) spos) (tAsg (tLc wi (g' z0 z1 0 [] []) tYes (te' z0 z1 0 [] []) (own.map (·.2))) (gName i)) (dPut i (dLcO dw (dg' z0 z1 0 [] []) (dq' z0 z1 0 [] []) n (own.map (·.2)))) :=
  ⟨ps_setLc hc hN hy hyl hsw hi.pe ok (fun s H C cl fp => by rw [← eg s H C cl fp]; exact (hg s H C cl fp).pe) (fun s H C cl fp => pts_nil) (fun s H C cl fp => by rw [← ee s H C cl fp]; exact (he s H C cl fp).pe) hs,
   snd_put hp (snd_lcO hi.sd (hg z0 z1 0 [] []).sd (he z0 z1 0 [] []).sd)⟩
/-! ### i[j][k] = e, of a list of own lists -/
def ixQQ (q : P) (o : Option (Option D)) (f : Int → List (List P) → Prop) : Prop := match q, o with
  | .int k, some (some (.oll pss)) => f k pss
  | _, _ => False
theorem ixQQ_is {q : P} {o : Option (Option D)} {f : Int → List (List P) → Prop} (h : ixQQ q o f) : ∃ k pss, q = .int k ∧ o = some (some (.oll pss)) ∧ f k pss := by
  unfold ixQQ at h
  split at h
  · exact ⟨_, _, rfl, rfl, h⟩
  · exact h.elim
def isInt : P → (Int → Prop) → Prop
  | .int i, f => f i
  | _, _ => False
theorem isInt_is {p : P} {f : Int → Prop} (h : isInt p f) : ∃ i, p = .int i ∧ f i := by
  unfold isInt at h
  split at h
  · exact ⟨_, rfl, h⟩
  · exact h.elim
def dSetII (i : Nat) (dj dk de : dE) : dS := fun Dd env => de env fun p e1 => match e1[i]? with
  | some (some (.oll _)) => dj e1 fun q1 e2 => ixQQ q1 e2[i]? fun k1 pss => ∃ j1 ps, ixN pss.length k1 = some j1 ∧ pss[j1]? = some ps ∧ dk e2 fun q2 e3 => isInt q2 fun k2 => e3[i]? = e2[i]? ∧ ∃ j2, ixN ps.length k2 = some j2 ∧ Dd.nx (e3.set i (some (.oll (pss.set j1 (ps.set j2 p)))))
  | _ => False
theorem snd_setII {i : Nat} (hj : SndE true K tj dj) (hk : SndE true K ti di) (h : SndE m K te de) : SndS pn K (tAsg te (gSub (tOp (rIxL K) (tVar i) tj) ti rSetL)) (dSetII i dj di de) := ⟨fun {B H σ env G Dd D} w q n r k1 k2 => by
  refine h.run w q fun p e1 v2 B1 H1 G1 q1 w1 r1 s1 _ => ?_
  change (match e1[i]? with | some (some (.oll _)) => dj e1 _ | _ => False) at q1
  split at q1
  · rename_i pss0 hd
    obtain ⟨v, h1, a0, as0, hG, rfl, h4, h5, h6⟩ := w1.sl i _ hd
    refine ⟨.ref a0, h1, ?_⟩
    refine hj.run w1 q1 fun qq e2 v3 B2 H2 G2 q2 w2 r2 s2 u2 => ?_
    obtain ⟨rfl, rfl, g2⟩ := u2 rfl
    obtain ⟨kk, pss, rfl, hd2, j1, ps, x1, x2, q2⟩ := ixQQ_is q2
    rw [hd] at hd2
    cases hd2
    obtain ⟨v4, z1, a1, as, z2, z3, z4, z5, z6⟩ := w2.sl i _ hd
    rw [h1] at z1
    cases z1
    cases z3
    rw [hG] at z2
    cases z2
    have hj1 : j1 < as0.length := by rw [h5]; exact (List.getElem?_eq_some_iff.mp x2).1
    have ha1 : as0[j1]? = some as0[j1] := List.getElem?_eq_getElem hj1
    refine ⟨a0, as0.map V.ref, kk, .ref as0[j1], rfl, r2, SqL.of z4, ?_, ?_⟩
    · unfold atI
      rw [List.length_map, h5, x1]
      show (as0.map V.ref)[j1]? = _
      rw [List.getElem?_map, ha1]
      rfl
    refine hk.run w2 q2 fun q3 e3 v5 B3 H3 G3 q4 w3 r3 s3 u3 => ?_
    obtain ⟨rfl, rfl, g3⟩ := u3 rfl
    obtain ⟨k2', rfl, _, j2, y1, q4⟩ := isInt_is q4
    obtain ⟨v6, t1, a3, as3, t2, t3, t4, t5, t6⟩ := w3.sl i _ hd
    rw [h1] at t1
    cases t1
    cases t3
    rw [hG] at t2
    cases t2
    obtain ⟨us, f1, f2⟩ := t6 j1 _ ps ha1 x2
    refine ⟨as0[j1], us, k2', j2, rfl, r3, f1, by rw [f2.length]; exact y1, ?_⟩
    have nd : (a0 :: as0).Nodup := by have := w3.nd i; rw [hG] at this; exact this
    have hm : as0[j1] ∈ as0 := List.getElem_mem hj1
    have rp' : Rp K B3 p v2 := Rp.mono (s2.ex.trans s3.ex) p r1
    obtain ⟨w4, s4⟩ := w3.chg (d' := .oll (pss0.set j1 (ps.set j2 p))) (o := .lst (us.set j2 v2)) (l := as0[j1]) hd h1 (by rw [hG]; exact List.mem_cons_of_mem _ hm) ⟨a0, as0, hG, rfl, by
        rw [upd_ne fun q => (List.nodup_cons.mp nd).1 (by rw [q]; exact hm)]; exact t4, by rw [List.length_set]; exact t5, fun ii b qs g1 g2 => by
        by_cases hii : j1 = ii
        · subst hii
          rw [ha1] at g1
          cases g1
          rw [List.getElem?_set_self (by rw [← t5]; exact hj1)] at g2
          cases g2
          exact ⟨_, upd_same, f2.set rp'⟩
        · rw [List.getElem?_set_ne hii] at g2
          obtain ⟨ws, c1, c2⟩ := t6 ii b qs g1 g2
          refine ⟨ws, ?_, c2⟩
          rw [upd_ne fun q => ?_]
          · exact c1
          · have hlt := (List.getElem?_eq_some_iff.mp g1)
            obtain ⟨hl, he⟩ := hlt
            have : as0[ii] = as0[j1] := by rw [he, q]
            exact hii ((List.getElem_inj (List.nodup_cons.mp nd).2).mp this).symm⟩
    exact n _ σ B3 _ G3 q4 w4 (((s1.trans s2).trans s3).trans s4) .refl
  · exact q1.elim⟩
theorem ds_setII {i : Nat} {tg : Expr} (hg : PE X b ti → PE X c tj → PG X tg (gSub (tOp (rIxL X.K) (tVar i) tj) ti rSetL)) (hj : DE true X c tj dj) (hk : DE true X b ti di) (he : DE false X e te de)
    (hs : swapsWithSole [tg] e pos.line X.env = pure false := by rfl) (hw : swappedStores [tg] e X.env = pure none := by rfl) (h1 : (assignEach [tg] X.env).map (·.2) = [assign tg X.env] := by rfl) :
    DS pn X (.Assign [tg] e pos) (tAsg te (gSub (tOp (rIxL X.K) (tVar i) tj) ti rSetL)) (dSetII i dj di de) := ⟨ps_asg he.pe (hg hk.pe hj.pe) hs hw h1, snd_setII hj.sd hk.sd he.sd⟩
/-! ### [x] * n, where [x] is written -/
theorem oo_rep : OpO K rRep dRep := ⟨fun {B H x y p q QD Q} e rx ry r k => by
  cases p with
  | lst xs =>
    cases q with
    | int nn =>
      obtain ⟨a, vs, rfl, h1, h2⟩ := rx
      obtain ⟨r1, r2, r3, r4⟩ := r
      refine ⟨a, nn, vs, rfl, ry, e a _ h1, r1, r2, by rw [h2.length]; exact r3, fun l hl => ?_⟩
      have g : Gr B H B (upd H l (.lst (List.replicate nn.toNat vs).flatten)) := ⟨Ex.refl _, fun a u k => by rw [upd_ne (ne_of_none k hl)]; exact k, fun a u k => by rw [upd_ne (ne_of_none (e a u k) hl)]; exact e a u k, fun a u k n => n⟩
      exact k _ B _ _ [l] r4 ⟨l, _, rfl, rfl, upd_same, rep_flat h2 _⟩ (by simp) (fun a ha => by rw [List.mem_singleton.mp ha]; exact e.back hl) (fun a ha => by rw [List.mem_singleton.mp ha]; exact hl) g
    | _ => exact r.elim
  | _ => exact r.elim⟩
/-! ### slices -/
def cutP (ps : List P) (lo hi : Option Int) : List P := (ps.drop (HT.sIx ps.length 0 lo)).take (HT.sIx ps.length ps.length hi - HT.sIx ps.length 0 lo)
theorem cut_rp {B : Hp} {ps : List P} {vs : List V} (h : RpA K B ps vs) (lo hi : Option Int) : RpA K B (cutP ps lo hi) (cutV vs lo hi) := by
  unfold cutP cutV
  rw [h.length]
  exact (h.drop _).take _
abbrev dPO := Env → (Option Int → Env → Prop) → Prop
structure SndP (m : Bool) (K : PySem.W.Frag) (to : TO) (dp : dPO) : Prop where
  run : ∀ {B H : Hp} {σ : L2.St} {env : Env} {G : Fp} {QD : Option Int → Env → Prop} {Q : Option Int → Hp → Prop}, Wd K B H σ env G → dp env QD →
    (∀ o env' B' H' G', QD o env' → Wd K B' H' σ env' G' → Stp B H G B' H' G' → Pure m env env' G G' B H B' H' → Q o H') → to σ H Q
structure DPO (m : Bool) (X : Cx) (e : Option Expr) (to : TO) (dp : dPO) : Prop where
  pe : PO X e to
  sd : SndP m X.K to dp
def dNoPart : dPO := fun env Q => Q none env
def dPart (de : dE) : dPO := fun env Q => de env fun p e => isInt p fun i => Q (some i) e
theorem dpo_none : DPO m X none tNoPart dNoPart := ⟨po_none, ⟨fun {B H σ env G QD Q} w q k => k none env B H G q w .refl (.gr (.refl w.ex))⟩⟩
theorem dpo_some (h : DE m X e te de) : DPO m X (some e) (tPart te) (dPart de) := ⟨po_some h.pe, ⟨fun w q k => h.sd.run w q fun p e v B H G q1 w1 r1 s1 u1 => by
  obtain ⟨i, rfl, q1⟩ := isInt_is q1
  exact ⟨i, r1, k _ e B H G q1 w1 s1 u1⟩⟩⟩
def dSlL (de : dE) (lo hi : dPO) : dO := fun env Q => de env fun p e => lo e fun l e1 => hi e1 fun u e2 => match plst p with
  | some ps => Q (.ol (cutP ps l u)) e2
  | none => False
theorem snd_slL {tl th : TO} {lo hi : dPO} (h : SndE m K te de) (hl : SndP m K tl lo) (hu : SndP m K th hi) : SndO m K (tSl (rSlL K) te tl th) (dSlL de lo hi) := ⟨fun {B H σ env G QD Q} w q k =>
  h.run w q fun p e v B1 H1 G1 q1 w1 r1 s1 u1 => hl.run w1 q1 fun l e1 B2 H2 G2 q2 w2 s2 u2 => hu.run w2 q2 fun u e2 B3 H3 G3 q3 w3 s3 u3 => by
    change (match plst p with | some ps => QD (.ol (cutP ps l u)) e2 | none => False) at q3
    split at q3
    · rename_i ps hp
      obtain ⟨a, vs, rfl, h2, h3⟩ := plst_rp r1 hp
      have st := (s1.trans s2).trans s3
      refine ⟨a, vs, rfl, w3.ex.sqL ((s2.ex.trans s3.ex).sqL h2), fun p hp => ?_⟩
      obtain ⟨w4, o4, g4⟩ := own_new w3 hp (st.back hp) (RpA.mono (s2.ex.trans s3.ex) _ (cut_rp h3 l u))
      exact k _ e2 _ [p] B3 _ G3 q3 w4 o4 (st.trans g4.stp) (((u1.trans u2).trans u3).trans (.gr g4))
    · exact q3.elim⟩
theorem do_slL {lo hi : Option Expr} {tl th : TO} {dl dh : dPO} {p2 : Pos} (h : DE m X e te de) (hl : DPO m X lo tl dl) (hu : DPO m X hi th dh) : DO m X (.Subscript e (.Slice lo hi none p2) pos) (tSl (rSlL X.K) te tl th) (dSlL de dl dh) :=
  ⟨pe_slice sl_list h.pe hl.pe hu.pe, snd_slL h.sd hl.sd hu.sd⟩
/-- of a list or a tuple: plain -/
def dSlS (de : dE) (lo hi : dPO) : dE := fun env Q => de env fun p e => lo e fun l e1 => hi e1 fun u e2 => match p with
  | .lst ps => Q (.lst (cutP ps l u)) e2
  | .rol ps => Q (.lst (cutP ps l u)) e2
  | .tup ps => ¬ (HT.sIx ps.length 0 l = 0 ∧ HT.sIx ps.length ps.length u = ps.length) ∧ Q (.tup (cutP ps l u)) e2
  | _ => False
def rSlS (K : PySem.W.Frag) : V → Option Int → Option Int → Hp → VK → Prop := fun x lo hi H Q => rSlL K x lo hi H Q ∨ rSlT K x lo hi H Q
theorem sl_seq : SlR X (rSlS X.K) := SlR.or sl_list sl_tup
theorem snd_slS {tl th : TO} {lo hi : dPO} (h : SndE m K te de) (hl : SndP m K tl lo) (hu : SndP m K th hi) : SndE m K (tSl (rSlS K) te tl th) (dSlS de lo hi) := ⟨fun {B H σ env G QD Q} w q k =>
  h.run w q fun p e v B1 H1 G1 q1 w1 r1 s1 u1 => hl.run w1 q1 fun l e1 B2 H2 G2 q2 w2 s2 u2 => hu.run w2 q2 fun u e2 B3 H3 G3 q3 w3 s3 u3 => by
    have st := (s1.trans s2).trans s3
    have ex := s2.ex.trans s3.ex
    have pu := (u1.trans u2).trans u3
    cases p with
    | lst ps =>
      obtain ⟨a, vs, rfl, h2, h3⟩ := r1
      refine .inl ⟨a, vs, rfl, SqL.of (w3.ex a _ (ex a _ h2)), fun p hp => ?_⟩
      have g4 := gr_new (o := .lst (cutV vs l u)) w3.ex hp
      exact k _ e2 _ _ _ G3 q3 (w3.gr g4) ⟨p, _, rfl, upd_same, RpA.mono (ex.trans g4.b) _ (cut_rp h3 l u)⟩ (st.trans g4.stp) (pu.trans (.gr g4))
    | rol ps =>
      obtain ⟨a, vs, rfl, h2, h3⟩ := r1
      refine .inl ⟨a, vs, rfl, w3.ex.sqL (ex.sqL h2), fun p hp => ?_⟩
      have g4 := gr_new (o := .lst (cutV vs l u)) w3.ex hp
      exact k _ e2 _ _ _ G3 q3 (w3.gr g4) ⟨p, _, rfl, upd_same, RpA.mono (ex.trans g4.b) _ (cut_rp h3 l u)⟩ (st.trans g4.stp) (pu.trans (.gr g4))
    | tup ps =>
      obtain ⟨a, vs, rfl, h2, h3⟩ := r1
      refine .inr ⟨a, vs, rfl, w3.ex.sqT (ex.sqT h2), by rw [h3.length]; exact q3.1, fun p hp => ?_⟩
      have g4 := gr_new (o := .tup (cutV vs l u)) w3.ex hp
      exact k _ e2 _ _ _ G3 q3.2 (w3.gr g4) ⟨p, _, rfl, SqT.of upd_same, RpA.mono (ex.trans g4.b) _ (cut_rp h3 l u)⟩ (st.trans g4.stp) (pu.trans (.gr g4))
    | _ => exact q3.elim⟩
theorem de_slS {lo hi : Option Expr} {tl th : TO} {dl dh : dPO} {p2 : Pos} (h : DE m X e te de) (hl : DPO m X lo tl dl) (hu : DPO m X hi th dh) : DE m X (.Subscript e (.Slice lo hi none p2) pos) (tSl (rSlS X.K) te tl th) (dSlS de dl dh) :=
  ⟨pe_slice sl_seq h.pe hl.pe hu.pe, snd_slS h.sd hl.sd hu.sd⟩
/-! ### calls with keywords -/
def tCat (t tk : TA) : TA := fun σ H Q => t σ H fun vs H1 => tk σ H1 fun zs H2 => Q (vs ++ zs) H2
def dCat (d dk : dA) : dA := fun env Q => d env fun as e => dk e fun bs e2 => Q (as ++ bs) e2
theorem RpX.cat {B : Hp} {σ : L2.St} : ∀ {as bs : List AR} {vs us : List V}, RpX K B σ as vs → RpX K B σ bs us → RpX K B σ (as ++ bs) (vs ++ us)
  | [], _, _, _, h, g => by rw [show _ = ([] : List V) from h]; exact g
  | .inl p :: as, _, _, us, ⟨v, r, e1, e2, e3⟩, g => ⟨v, r ++ us, by rw [e1]; rfl, e2, RpX.cat e3 g⟩
  | .inr i :: as, _, _, us, ⟨v, r, e1, e2, e3⟩, g => ⟨v, r ++ us, by rw [e1]; rfl, e2, RpX.cat e3 g⟩
theorem snd_cat {t tk : TA} {d dk : dA} (h : SndA m K t d) (g : SndA m K tk dk) : SndA m K (tCat t tk) (dCat d dk) := ⟨fun w q k => h.run w q fun as e vs B1 H1 G1 q1 w1 r1 s1 u1 => g.run w1 q1 fun bs e2 us B2 H2 G2 q2 w2 r2 s2 u2 =>
  k _ e2 _ B2 H2 G2 q2 w2 ((RpX.mono s2.ex r1).cat r2) (s1.trans s2) (u1.trans u2)⟩
structure DK (m : Bool) (X : Cx) (kws : List Keyword) (t : TA) (d : dA) : Prop where
  pe : PK X kws t
  sd : SndA m X.K t d
theorem dk_nil : DK m X [] tNil dNil := ⟨pk_nil, snd_nil⟩
theorem dk_cons {nm : Option Str} {kpos : Pos} {kws : List Keyword} {t : TA} {d : dA} (h : DE m X e te de) (g : DK m X kws t d) : DK m X (⟨nm, e, kpos⟩ :: kws) (tCons te t) (dCons de d) := ⟨pk_cons h.pe g.pe, snd_cons h.sd g.sd⟩
/-- what is positional, then the keywords -/
def gK {α : Type} (n k : Nat) (us ws : List α) : List α := if us.length = n ∧ ws.length = k then us ++ ws else []
def dCatK (n k : Nat) (d dk : dA) : dA := fun env Q => d env fun as e => dk e fun bs e2 => (as.length = n ∧ bs.length = k) ∧ Q (as ++ bs) e2
def tCatK (n k : Nat) (t tk : TA) : TA := fun σ H Q => t σ H fun vs H1 => tk σ H1 fun zs H2 => Q (gK n k vs zs) H2
theorem snd_catK {n k : Nat} {t tk : TA} {d dk : dA} (h : SndA m K t d) (g : SndA m K tk dk) : SndA m K (tCatK n k t tk) (dCatK n k d dk) := ⟨fun w q kk => h.run w q fun as e vs B1 H1 G1 q1 w1 r1 s1 u1 => g.run w1 q1 fun bs e2 us B2 H2 G2 q2 w2 r2 s2 u2 => by
  have hl : gK n k vs us = vs ++ us := by
    unfold gK
    rw [if_pos ⟨by rw [r1.len]; exact q2.1.1, by rw [r2.len]; exact q2.1.2⟩]
  show _
  rw [hl]
  exact kk _ e2 _ B2 H2 G2 q2.2 w2 ((RpX.mono s2.ex r1).cat r2) (s1.trans s2) (u1.trans u2)⟩
theorem do_callK {n k : Nat} {fs : FSp} {E : XK} {kws : List Keyword} {e0 : Expr} {es : List Expr} {t tk : TA} {d dk : dA} (h : PA X (e0 :: es) t → PK X kws tk → PE X a (tCallK (spD X.K fs) (gK n k) E t tk)) (ha : DA m X (e0 :: es) t d) (hk : DK m X kws tk dk) :
    DO m X a (tCallK (spD X.K fs) (gK n k) E t tk) (dCallP fs (dCatK n k d dk)) := ⟨h ha.pe hk.pe, by
  have := snd_callP (fs := fs) (E := E) (snd_catK (n := n) (k := k) ha.sd hk.sd)
  refine ⟨fun {B H σ env G QD Q} w q kk => ?_⟩
  have r := this.run w q kk
  show t σ H fun vs H1 => tk σ H1 fun zs H2 => spD X.K fs (gK n k vs zs) H2 Q E
  have r' : t σ H fun vs H1 => tk σ H1 fun zs H2 => spD X.K fs (gK n k vs zs ++ []) H2 Q E := r
  simpa only [List.append_nil] using r'⟩
theorem kb_of {fd : FuncData} {ps ks : List Str} {n k : Nat} (hps : ps.length = n + k) (h0 : 0 < n + k) (h : ∀ us ws : List Value, us.length = n → ws.length = k → bindArgs fd ⟨us, ks.zip ws⟩ = pure (ps.zip (us ++ ws))) : KBinds K fd ps ks (gK n k) (gK n k) where
  to := fun s us ws _ hl => by
    unfold gK at hl ⊢
    split at hl
    · rename_i hc
      rw [if_pos hc]
      exact .of_eq (h us ws hc.1 hc.2)
    · rw [hps] at hl
      simp at hl
      omega
  rel := fun {vs us zs ws} r s => by
    unfold gK
    rw [r.length, s.length]
    split
    · exact r.append s
    · exact .nil
theorem Fun.kbinds {x qual : Str} {st : Stmt} {f : Addr} {fd : FuncData} {ps ks : List Str} {n k : Nat} (F : L2.Fun K x qual st f fd) (hps : ps.length = n + k) (h0 : 0 < n + k)
    (h : ∀ (kV doc pm : Value) (an : Option Addr) (cdv ct : Value) (us ws : List Value), us.length = n → ws.length = k → bindArgs (PySem.W.fnOf x qual (defArgs st) (defBody st) (defScope st) .none kV doc pm an cdv ct) ⟨us, ks.zip ws⟩ = pure (ps.zip (us ++ ws))) : KBinds K fd ps ks (gK n k) (gK n k) := by
  obtain ⟨oc, od, kV, doc, pm, an, cdv, ct, osl, rfl, lk, hcd⟩ := F.ex
  exact kb_of hps h0 (h kV doc pm an cdv ct)
end
end DL
set_option Elab.async false
set_option linter.all false
set_option maxRecDepth 100000
namespace DL
open PySem PySem.Spec L2
variable [Rf]
/-- a def as a caller has it -/
structure Callee (Pg : Program) (w : World) (K : PySem.W.Frag) (mg : Str → Option Value) (base : Heap) (k : Nat) (x : Str) (f : Addr) (fd : FuncData) (ps : List Str) (fs : FSp) : Prop where
  ok : FnOk Pg w K mg base CX0 k f fd ps (spD K fs)
  g : mg x = some (.ref f)
  kp : PySem.W.keepIn K (.ref f) = true
  b : Binds K fd ps []
structure CalleeK (Pg : Program) (w : World) (K : PySem.W.Frag) (mg : Str → Option Value) (base : Heap) (k : Nat) (x : Str) (f : Addr) (fd : FuncData) (ps ks : List Str) (n j : Nat) (fs : FSp) : Prop where
  ok : FnOk Pg w K mg base CX0 k f fd ps (spD K fs)
  g : mg x = some (.ref f)
  kp : PySem.W.keepIn K (.ref f) = true
  kb : KBinds K fd ps ks (gK n j) (gK n j)

/-! ### a, b = a list or a tuple -/
def gOr (g1 g2 : TG) : TG := fun v σ H Q => g1 v σ H Q ∨ g2 v σ H Q
theorem pg_or {X : Cx} {tg : Expr} {g1 g2 : TG} (h1 : PG X tg g1) (h2 : PG X tg g2) : PG X tg (gOr g1 g2) := ⟨fun pins s σ H v u Q I r h => h.elim (h1.run pins s σ H v u Q I r) (h2.run pins s σ H v u Q I r)⟩
def dgSeq (n : Nat) (gs : dGs) : dG := fun p env Q => match p with
  | .tup ps => ps.length = n ∧ gs ps env Q
  | .lst ps => ps.length = n ∧ gs ps env Q
  | .rol ps => ps.length = n ∧ gs ps env Q
  | _ => False
section
variable {pn : List Nat} {K : PySem.W.Frag} {X : Cx} {a : Expr} {es : List Expr}
theorem snd_gseq {n : Nat} {gs : TGs} {dgs : dGs} (hs : SndGs pn K gs dgs) : SndG pn K (gOr (gTup K n gs) (gUnl K n gs)) (dgSeq n dgs) := ⟨fun {B H σ env G p v QD Q} w r q k => by
  cases p with
  | tup ps =>
    obtain ⟨a, vs, e1, e2, e3⟩ := r
    exact .inl ⟨a, vs, e1, w.ex.sqT e2, e3.length.trans q.1, hs.run w e3 q.2 k⟩
  | lst ps =>
    obtain ⟨a, vs, e1, e2, e3⟩ := r
    exact .inr ⟨a, vs, e1, SqL.of (w.ex a _ e2), e3.length.trans q.1, hs.run w e3 q.2 k⟩
  | rol ps =>
    obtain ⟨a, vs, e1, e2, e3⟩ := r
    exact .inr ⟨a, vs, e1, w.ex.sqL e2, e3.length.trans q.1, hs.run w e3 q.2 k⟩
  | _ => exact q.elim⟩
theorem dg_seq {n : Nat} {gs : TGs} {dgs : dGs} (h : PGs X es gs → PG X a (gTup X.K n gs)) (h2 : PGs X es gs → PG X a (gUnl X.K n gs)) (hs : DGs pn X es gs dgs) : DG pn X a (gOr (gTup X.K n gs) (gUnl X.K n gs)) (dgSeq n dgs) :=
  ⟨pg_or (h hs.pe) (h2 hs.pe), snd_gseq hs.sd⟩
end
/-! ### lists of ints -/
abbrev pI (ns : List Int) : List P := ns.map P.int
theorem toDs_map {α : Type} (f : α → P) (xs : List α) : P.toDs (xs.map f) = xs.map fun x => (f x).toD := by
  induction xs with
  | nil => rfl
  | cons x xs ih => show P.toD (f x) :: P.toDs (xs.map f) = _; rw [ih]; rfl
theorem canLayAll_map {α : Type} {f : α → P} {xs : List α} (h : ∀ x ∈ xs, (f x).toD.canLay0 = true) : PyData.canLayAll0 (P.toDs (xs.map f)) = true := by
  induction xs with
  | nil => rfl
  | cons x xs ih =>
    show (PyData.canLay0 (f x).toD && PyData.canLayAll0 (P.toDs (xs.map f))) = true
    rw [h x List.mem_cons_self, ih fun y hy => h y (List.mem_cons_of_mem _ hy)]
    rfl
theorem depthAll_map {α : Type} {f : α → P} {xs : List α} {n : Nat} (h : ∀ x ∈ xs, (f x).toD.depth ≤ n) : PyData.depthAll (P.toDs (xs.map f)) ≤ n := by
  induction xs with
  | nil => exact Nat.zero_le _
  | cons x xs ih =>
    show max (PyData.depth (f x).toD) (PyData.depthAll (P.toDs (xs.map f))) ≤ n
    exact Nat.max_le.mpr ⟨h x List.mem_cons_self, ih fun y hy => h y (List.mem_cons_of_mem _ hy)⟩
/-- data of a depth, as == takes it -/
structure Shp (p : P) (n : Nat) : Prop where
  c : p.toD.canLay0 = true
  d : p.toD.depth ≤ n
theorem Shp.ok {p : P} {n : Nat} (h : Shp p n) (hn : n ≤ 64 := by decide) : SeqAt.shaped p.toD = true := by
  unfold SeqAt.shaped
  rw [h.c, decide_eq_true (Nat.le_trans h.d hn)]
  rfl
theorem shp_int (i : Int) : Shp (.int i) 0 := ⟨rfl, Nat.le_refl _⟩
theorem shp_bl (i : Bool) : Shp (.bl i) 0 := ⟨rfl, Nat.le_refl _⟩
theorem shp_non : Shp .non 0 := ⟨rfl, Nat.le_refl _⟩
theorem Shp.lst {α : Type} {f : α → P} {xs : List α} {n : Nat} (h : ∀ x ∈ xs, Shp (f x) n) : Shp (.lst (xs.map f)) (n + 1) :=
  ⟨canLayAll_map fun x hx => (h x hx).c, Nat.succ_le_succ (depthAll_map fun x hx => (h x hx).d)⟩
theorem Shp.tup {α : Type} {f : α → P} {xs : List α} {n : Nat} (h : ∀ x ∈ xs, Shp (f x) n) : Shp (.tup (xs.map f)) (n + 1) :=
  ⟨canLayAll_map fun x hx => (h x hx).c, Nat.succ_le_succ (depthAll_map fun x hx => (h x hx).d)⟩
theorem shp_ints (ns : List Int) : Shp (.lst (pI ns)) 1 := .lst fun _ _ => shp_int _
theorem shp_tints (ns : List Int) : Shp (.tup (pI ns)) 1 := .tup fun _ _ => shp_int _
theorem Shp.refl {p : P} {n : Nat} (h : Shp p n) : PyData.eqv p.toD p.toD = true := SeqAt.eqv_refl _ h.c
theorem atI_map {α : Type} {f : α → P} {xs : List α} {j : Nat} (h : j < xs.length) : atI (xs.map f) (j : Int) = some (f xs[j]) := atI_nat (by rw [List.getElem?_map, List.getElem?_eq_getElem h]; rfl)
/-! ### bounds -/
theorem log_lt {i : Int} {n : Nat} (h0 : -(2 ^ n : Int) < i) (h1 : i < 2 ^ n) (hn : 0 < n) : i.natAbs.log2 < n := by
  by_cases h : i.natAbs = 0
  · rw [h]; simpa using hn
  · refine (Nat.log2_lt h).mpr ?_
    have : ((2 ^ n : Nat) : Int) = (2 : Int) ^ n := by push_cast; rfl
    omega
theorem cmul_of {i j : Int} (n m : Nat) (hi : -(2 ^ n : Int) < i ∧ i < 2 ^ n) (hj : -(2 ^ m : Int) < j ∧ j < 2 ^ m) (hn : 0 < n := by decide) (hm : 0 < m := by decide) (h : n + m ≤ 1000000 := by decide) : CMulW i j := by
  have h1 := log_lt hi.1 hi.2 hn
  have h2 := log_lt hj.1 hj.2 hm
  show i.natAbs.log2 + j.natAbs.log2 < 1000000
  omega
theorem cmul64 {i j : Int} (hi : -18446744073709551616 < i ∧ i < 18446744073709551616) (hj : -18446744073709551616 < j ∧ j < 18446744073709551616) : CMulW i j := cmul_of 64 64 hi hj
theorem cdiv_of {i j : Int} (h0 : 0 < j) (h1 : j < 18446744073709551616) : CDivW i j := ⟨h0, Nat.lt_trans (log_lt (n := 64) (by omega) h1 (by decide)) (by decide)⟩
end DL
set_option Elab.async false
set_option linter.all false
set_option maxRecDepth 100000
namespace DL
open PySem PySem.Spec L2
variable [Rf]
/-! ### a call one of whose arguments is new and the callee's to change -/
abbrev dAF := Env → (List P → D → List P → Env → Prop) → Prop
structure SndAF (K : PySem.W.Frag) (te : TA) (de : dAF) : Prop where
  run : ∀ {B H : Hp} {σ : L2.St} {env : Env} {G : Fp} {QD : List P → D → List P → Env → Prop} {Q : List V → Hp → Prop}, Wd K B H σ env G → de env QD →
    (∀ ps1 d ps2 env' vs1 v vs2 F B' H' G', QD ps1 d ps2 env' → Wd K B' H' σ env' G' → RpA K B' ps1 vs1 → RpA K B' ps2 vs2 → Own K H G B' H' G' d v F → Stp B H G B' H' G' → Q (vs1 ++ v :: vs2) H') → te σ H Q
structure DAF (X : Cx) (e : List Expr) (te : TA) (de : dAF) : Prop where
  pe : PA X e te
  sd : SndAF X.K te de
def dHere (dq : dO) (da : dA) : dAF := fun env Q => dq env fun d e => da e fun as e2 => match prs as with
  | some ps => Q [] d ps e2
  | none => False
def dThere (de : dE) (df : dAF) : dAF := fun env Q => de env fun p e => df e fun ps1 d ps2 e2 => Q (p :: ps1) d ps2 e2
def dCallF (fs : FSp) (df : dAF) : dO := fun env Q => df env fun ps1 d ps2 e => fs (ps1.map D.sh ++ d :: ps2.map D.sh) fun r _ => Q r e
section
variable {m : Bool} {K : PySem.W.Frag} {te : TE} {ta : TA} {de : dE} {dq : dO} {da : dA} {df : dAF} {X : Cx} {a b : Expr} {es : List Expr}
theorem snd_here (h : SndO false K te dq) (g : SndA true K ta da) : SndAF K (tCons te ta) (dHere dq da) := ⟨fun {B H σ env G QD Q} w q k => h.run w q fun d e v F B1 H1 G1 q1 w1 o1 s1 _ =>
  g.run w1 q1 fun as e2 vs B2 H2 G2 q2 w2 r2 s2 u2 => by
    obtain ⟨rfl, rfl, g2⟩ := u2 rfl
    change (match prs as with | some ps => QD [] d ps e2 | none => False) at q2
    cases hp : prs as with
    | none => rw [hp] at q2; exact q2.elim
    | some ps =>
      rw [hp] at q2
      have kp : ∀ x ∈ F, ∀ o, H1 x = some o → H2 x = some o := fun x _ o ho => g2.h x o ho
      refine k [] d ps e2 [] v vs F B2 H2 G2 q2 w2 rfl (RpX.all r2 hp) ⟨RpD.mono g2.b o1.rp fun x hx o ho => kp x hx o ho, o1.nd, fun x hx => ?_, o1.nw, o1.ap⟩ (s1.trans s2)
      obtain ⟨o, ho⟩ := RpD.there o1.rp x hx
      exact g2.n x o ho (o1.nb x hx)⟩
theorem snd_there (h : SndE m K te de) (g : SndAF K ta df) : SndAF K (tCons te ta) (dThere de df) := ⟨fun {B H σ env G QD Q} w q k => h.run w q fun p e v B1 H1 G1 q1 w1 r1 s1 _ =>
  g.run w1 q1 fun ps1 d ps2 e2 vs1 v2 vs2 F B2 H2 G2 q2 w2 r2 r3 o2 s2 => by
    refine k (p :: ps1) d ps2 e2 (v :: vs1) v2 vs2 F B2 H2 G2 q2 w2 ⟨v, vs1, rfl, Rp.mono s2.ex p r1, r2⟩ r3 ⟨o2.rp, o2.nd, o2.nb, fun x hx => ?_, o2.ap⟩ (s1.trans s2)
    rcases o2.nw x hx with ⟨j, hj⟩ | hn
    · exact s1.fp j x hj
    · exact .inr (s1.back hn)⟩
theorem da_here (h : DO false X a te dq) (g : DA true X es ta da) (hs : starEach (a :: es) X.env = (false, eval a X.env) :: starEach es X.env := by rfl) : DAF X (a :: es) (tCons te ta) (dHere dq da) := ⟨pa_cons h.pe g.pe hs, snd_here h.sd g.sd⟩
theorem da_there (h : DE m X a te de) (g : DAF X es ta df) (hs : starEach (a :: es) X.env = (false, eval a X.env) :: starEach es X.env := by rfl) : DAF X (a :: es) (tCons te ta) (dThere de df) := ⟨pa_cons h.pe g.pe hs, snd_there h.sd g.sd⟩
theorem Wd.more {B H : Hp} {σ : L2.St} {env : Env} {G : Fp} (w : Wd K B H σ env G) : Wd K B H (σ ++ [none]) (env ++ [none]) G := by
  have key : ∀ i d, (env ++ [none])[i]? = some (some d) ↔ env[i]? = some (some d) := fun i d => by
    by_cases h : i < env.length
    · rw [List.getElem?_append_left h]
    · rw [List.getElem?_append_right (by omega), List.getElem?_eq_none (l := env) (by omega)]
      constructor
      · intro e
        cases hh : i - env.length with
        | zero => rw [hh] at e; cases e
        | succ n => rw [hh] at e; cases e
      · intro e; cases e
  refine ⟨⟨w.ex, fun i d e => ?_, fun i h => w.no i fun d e => h d ((key i d).mpr e), w.nd, w.dj, w.nb, by rw [List.length_append, List.length_append, w.len]; rfl⟩, w.rf⟩
  have e' := (key i d).mp e
  obtain ⟨v, h1, h2⟩ := w.sl i d e'
  exact ⟨v, by rw [List.getElem?_append_left (by rw [← w.len]; exact env_lt e')]; exact h1, h2⟩
theorem Wd.less {B H : Hp} {σ : L2.St} {env : Env} {G : Fp} {x : Option V} {env2 : Env} (w : Wd K B H (σ ++ [x]) env2 G) (hl : env.length = σ.length) (h : ∀ i, i ≠ env.length → env2[i]? = env[i]?) : Wd K B H σ env (fun i => if i = env.length then [] else G i) where
  rf := w.rf
  ex := w.ex
  sl := fun i d e => by
    have hi := env_lt e
    obtain ⟨v, h1, h2⟩ := w.sl i d (by rw [h i (by omega)]; exact e)
    rw [List.getElem?_append_left (by omega)] at h1
    exact ⟨v, h1, by rw [if_neg (by omega)]; exact h2⟩
  no := fun i hn => by
    show (if i = env.length then [] else G i) = []
    split
    · rfl
    · rename_i hi
      refine w.no i fun d e => hn d ?_
      rw [h i hi] at e; exact e
  nd := fun i => by
    show (if i = env.length then [] else G i).Nodup
    split
    · exact List.nodup_nil
    · exact w.nd i
  dj := fun i j a h1 h2 => by
    change a ∈ (if i = env.length then [] else G i) at h1
    change a ∈ (if j = env.length then [] else G j) at h2
    split at h1 <;> split at h2
    · cases h1
    · cases h1
    · cases h2
    · exact w.dj i j a h1 h2
  nb := fun i a h1 => by
    change a ∈ (if i = env.length then [] else G i) at h1
    split at h1
    · cases h1
    · exact w.nb i a h1
  len := hl
theorem slots_pl : ∀ (ps : List P) (as : List AR), slots (ps.map Sum.inl ++ as) = slots as
  | [], _ => rfl
  | _ :: ps, as => slots_pl ps as
theorem RpX.pl {B : Hp} {σ : L2.St} {as : List AR} {us : List V} (h : RpX K B σ as us) : ∀ {ps : List P} {vs : List V}, RpA K B ps vs → RpX K B σ (ps.map Sum.inl ++ as) (vs ++ us)
  | [], vs, r => by rw [show vs = [] from r]; exact h
  | p :: ps, vs, ⟨v, r, e, h1, h2⟩ => by rw [e]; exact ⟨v, r ++ us, rfl, h1, RpX.pl h h2⟩
theorem argD_pl (env : Env) (ps : List P) : (ps.map Sum.inl).map (argD env) = ps.map D.sh := by
  rw [List.map_map]; rfl
theorem snd_callF {fs : FSp} {E : XK} (h : SndAF K ta df) : SndO false K (tCall (spD K fs) [] E ta) (dCallF fs df) := ⟨fun {B H σ env G QD Q} w q k => by
  refine h.run w q fun ps1 d ps2 e vs1 v vs2 F B1 H1 G1 q1 w1 r1 r2 o1 s1 => ?_
  show spD K fs (vs1 ++ v :: vs2 ++ []) H1 Q E
  rw [List.append_nil]
  have wm := (w1.more).put (i := e.length) (v := v) (d := d) (F := F) (by rw [List.length_append]; simp) o1.rp o1.nd o1.nb (fun a ha j _ => o1.ap a ha j)
  have eσ : (σ ++ [none]).set e.length (some v) = σ ++ [some v] := by rw [w1.len, List.set_append_right _ _ (Nat.le_refl _), Nat.sub_self]; rfl
  have ee : (e ++ [none]).set e.length (some d) = e ++ [some d] := by rw [List.set_append_right _ _ (Nat.le_refl _), Nat.sub_self]; rfl
  rw [eσ, ee] at wm
  let as : List AR := ps1.map Sum.inl ++ (Sum.inr e.length :: (ps2.map Sum.inl ++ []))
  have hsl : slots as = [e.length] := by
    show slots (ps1.map Sum.inl ++ (Sum.inr e.length :: (ps2.map Sum.inl ++ []))) = _
    rw [slots_pl]
    show e.length :: slots (ps2.map Sum.inl ++ []) = _
    rw [slots_pl]; rfl
  have hget : (e ++ [some d])[e.length]? = some (some d) := by rw [List.getElem?_append_right (Nat.le_refl _), Nat.sub_self]; rfl
  have ok : argsOk as (e ++ [some d]) = true := by
    unfold argsOk
    rw [hsl]
    show (decide ([e.length].Nodup) && (has (e ++ [some d]) e.length && true)) = true
    unfold has
    rw [hget, decide_eq_true (by simp)]
    rfl
  have hx : RpX K B1 (σ ++ [some v]) as (vs1 ++ v :: vs2) := by
    have h2' : RpX K B1 (σ ++ [some v]) (ps2.map Sum.inl ++ []) vs2 := by
      have := RpX.pl (K := K) (B := B1) (σ := σ ++ [some v]) (as := []) (us := []) rfl r2
      rw [List.append_nil vs2] at this
      exact this
    have h0 : RpX K B1 (σ ++ [some v]) (Sum.inr e.length :: (ps2.map Sum.inl ++ [])) (v :: vs2) := ⟨v, vs2, rfl, by rw [w1.len, List.getElem?_append_right (Nat.le_refl _), Nat.sub_self]; rfl, h2'⟩
    exact RpX.pl h0 r1
  have hD : as.map (argD (e ++ [some d])) = ps1.map D.sh ++ d :: ps2.map D.sh := by
    show (ps1.map Sum.inl ++ (Sum.inr e.length :: (ps2.map Sum.inl ++ []))).map (argD (e ++ [some d])) = _
    rw [List.map_append, List.map_cons, List.append_nil, argD_pl, argD_pl, argD_at hget]
  have wa := wm.args hx ok
  rw [hD] at wa
  refine ⟨B1, _, _, _, wa, q1, fun d2 ds v2 F2 B2 H2 G2 q2 w2 o2 s2 => ?_⟩
  obtain ⟨w3, s3, m3⟩ := wm.after hx ok w2 s2
  have w4 := w3.less (env := e) w1.len fun i hi => by
    rw [updS_out (by rw [hsl]; simpa using hi)]
    by_cases hlt : i < e.length
    · rw [List.getElem?_append_left hlt]
    · rw [List.getElem?_append_right (by omega), List.getElem?_eq_none (l := e) (by omega)]
      exact List.getElem?_eq_none (by show 1 ≤ _; omega)
  have m4 : ∀ i x, x ∈ (if i = e.length then [] else backG as (fun j => if j = e.length then F else G1 j) G2 i) → x ∈ G1 i := fun i x hx' => by
    split at hx'
    · cases hx'
    · rename_i hi
      unfold backG at hx'
      rcases find_slot (as := as) (i := i) with ⟨j, h1, h2⟩ | ⟨h1, h2⟩
      · have := mem_slots.mpr ⟨j, h2⟩
        rw [hsl] at this
        exact absurd (List.mem_singleton.mp this) hi
      · rw [h1] at hx'
        change x ∈ (if i = e.length then F else G1 i) at hx'
        rw [if_neg hi] at hx'
        exact hx'
  have nF : ∀ j x, x ∈ argG as (fun j => if j = e.length then F else G1 j) j → x ∈ F := fun j x hx' => by
    obtain ⟨i, h1, h2⟩ := argG_in hx'
    have := mem_slots.mpr ⟨j, h1⟩
    rw [hsl] at this
    have e2 := List.mem_singleton.mp this
    change x ∈ (if i = e.length then F else G1 i) at h2
    rw [if_pos e2] at h2
    exact h2
  have nwF : ∀ x ∈ F, (∃ j, x ∈ G j) ∨ H x = none := o1.nw
  have s4 : Stp B H G B2 H2 (fun i => if i = e.length then [] else backG as (fun j => if j = e.length then F else G1 j) G2 i) := by
    refine ⟨s1.ex.trans s2.ex, fun a o ho hn => ?_, fun i a ha => s1.fp i a (m4 i a ha), fun a o ho hb hn => ?_, fun a o ho => ?_⟩
    · refine s2.kp a o (s1.kp a o ho hn) fun j hj => ?_
      rcases nwF a (nF j a hj) with ⟨i, hi⟩ | hz
      · exact hn i hi
      · rw [ho] at hz; cases hz
    · refine s2.bs a o (s1.kp a o ho hn) (s1.bs a o ho hb hn) fun j hj => ?_
      rcases nwF a (nF j a hj) with ⟨i, hi⟩ | hz
      · exact hn i hi
      · rw [ho] at hz; cases hz
    · obtain ⟨o', h'⟩ := s1.th a o ho
      exact s2.th a o' h'
  refine k d2 e v2 F2 B2 H2 _ q2 w4 ⟨o2.rp, o2.nd, o2.nb, fun x hx' => ?_, fun x hx' i hi => ?_⟩ s4 .off
  · rcases o2.nw x hx' with ⟨j, hj⟩ | hn
    · exact o1.nw x (nF j x hj)
    · exact .inr (s1.back hn)
  · have hg := m4 i x hi
    rcases o2.nw x hx' with ⟨j, hj⟩ | hn
    · exact o1.ap x (nF j x hj) i hg
    · exact w1.off hn i hg⟩
theorem do_callF {fs : FSp} {E : XK} {e0 : Expr} (h : PA X (e0 :: es) ta → PE X a (tCall (spD X.K fs) [] E ta)) (ha : DAF X (e0 :: es) ta df) : DO false X a (tCall (spD X.K fs) [] E ta) (dCallF fs df) := ⟨h ha.pe, snd_callF ha.sd⟩
end
/-! ### two ways that meet again -/
def dMid (a b : dS) : dS := fun Dd env => ∃ M : Env → Prop, a { Dd with nx := M } env ∧ ∀ e, M e → b Dd e
theorem snd_mid {pn : List Nat} {K : PySem.W.Frag} {t u : TS} {dt1 du : dS} (h : SndS pn K t dt1) (g : SndS pn K u du) : SndS pn K (tSeq t u) (dMid dt1 du) := ⟨fun {B H σ env G Dd D} w q n r k1 k2 => by
  obtain ⟨M, q0, qm⟩ := q
  exact h.run (D := { D with nx := u D }) w q0 (fun env' σ' B' H' G' q1 w1 s1 p1 => g.run w1 (qm _ q1) (n.at s1 p1) (r.at s1 p1) (k1.at s1 p1) (k2.at s1 p1)) r k1 k2⟩
theorem dss_mid {pn : List Nat} {X : Cx} {st : Stmt} {rest : List Stmt} {t u : TS} {dt1 du : dS} (h : DS pn X st t dt1) (g : DSs pn X rest u du) : DSs pn X (st :: rest) (tSeq t u) (dMid dt1 du) := ⟨pss_cons h.pe g.pe, snd_mid h.sd g.sd⟩
end DL
set_option Elab.async false
set_option linter.all false
set_option maxRecDepth 100000
set_option maxHeartbeats 2000000
/-! own classes: instances as plain data, made by their __init__, read, called, compared -/
namespace DL
open PySem PySem.Spec L2
variable [Rf]
section
variable {K : PySem.W.Frag} {B H : Hp}
theorem RpF.look {f : Str} : ∀ {fs : List (Str × P)} {fv : List (Str × V)} {q : P}, RpF K B fs fv → fs.lookup f = some q → ∃ v, fv.lookup f = some v ∧ Rp K B q v
  | [], _, _, _, h => by cases h
  | (g, p) :: fs, _, q, ⟨v, r, e, h1, h2⟩, h => by
    subst e
    by_cases hg : (f == g) = true
    · rw [List.lookup, hg] at h
      cases h
      exact ⟨v, by rw [List.lookup, hg], h1⟩
    · have hg' : (f == g) = false := by simpa using hg
      rw [List.lookup, hg'] at h
      obtain ⟨u, h3, h4⟩ := RpF.look h2 h
      exact ⟨u, by rw [List.lookup, hg']; exact h3, h4⟩
theorem RpF.nolook {f : Str} : ∀ {fs : List (Str × P)} {fv : List (Str × V)}, RpF K B fs fv → fs.lookup f = none → fv.lookup f = none
  | [], _, e, _ => by rw [show _ = [] from e]; rfl
  | (g, p) :: fs, _, ⟨v, r, e, h1, h2⟩, h => by
    subst e
    by_cases hg : (f == g) = true
    · rw [List.lookup, hg] at h; cases h
    · have hg' : (f == g) = false := by simpa using hg
      rw [List.lookup, hg'] at h ⊢
      exact RpF.nolook h2 h
theorem RpF.len : ∀ {fs : List (Str × P)} {fv : List (Str × V)}, RpF K B fs fv → fv.length = fs.length
  | [], _, e => by rw [show _ = [] from e]; rfl
  | (g, p) :: fs, _, ⟨v, r, e, h1, h2⟩ => by rw [e, List.length_cons, List.length_cons, RpF.len h2]
def putFP (f : Str) (p : P) : List (Str × P) → List (Str × P)
  | [] => [(f, p)]
  | (g, x) :: r => if g = f then (g, p) :: r else (g, x) :: putFP f p r
theorem RpF.put {f : Str} {p : P} {v : V} (hp : Rp K B p v) : ∀ {fs : List (Str × P)} {fv : List (Str × V)}, RpF K B fs fv → RpF K B (putFP f p fs) (putF f v fv)
  | [], _, e => by rw [show _ = [] from e]; exact ⟨v, [], rfl, hp, rfl⟩
  | (g, x) :: fs, _, ⟨u, r, e, h1, h2⟩ => by
    subst e
    rw [putFP, putF]
    split
    · exact ⟨v, r, rfl, hp, h2⟩
    · exact ⟨u, _, rfl, h1, RpF.put hp h2⟩
end
/-- an attribute of the class at C's instances -/
structure ClsA (K : PySem.W.Frag) (C : Addr) (f : Str) : Prop where
  c : Cls K C
  n : NoAttr K C f
section
variable {pn : List Nat} {m : Bool} {K : PySem.W.Frag} {te tf : TE} {de df : dE} {ta : TA} {da : dA} {X : Cx} {a b c e o : Expr} {es : List Expr} {f mth x : Str} {pos apos p0 : Pos}

/-! ### e.f -/
def dFld (K : PySem.W.Frag) (f : Str) (de : dE) : dE := fun env Q => de env fun p e => match p with
  | .ins C fs => ClsA K C f ∧ ∃ q, fs.lookup f = some q ∧ Q q e
  | _ => False
theorem snd_fld (h : SndE m K te de) : SndE m K (tFld K te f) (dFld K f de) := ⟨fun {B H σ env G QD Q} w q k => h.run w q fun p e v B1 H1 G1 q1 w1 r1 s1 u1 => by
  cases p with
  | ins C fs =>
    obtain ⟨ca, q, hq, q1⟩ := q1
    obtain ⟨a, dx, fv, rfl, h1, h2⟩ := r1
    obtain ⟨v, hv, rv⟩ := h2.look hq
    exact ⟨a, C, dx, fv, v, rfl, w1.ex a _ h1, ca.c, ca.n, hv, k q e v B1 H1 G1 q1 w1 rv s1 u1⟩
  | _ => exact q1.elim⟩
theorem de_fld (h : DE m X e te de) (hb : attributeBase e f X.env (eval e X.env) = eval e X.env := by rfl) : DE m X (.Attribute e f pos) (tFld X.K te f) (dFld X.K f de) := ⟨pe_fld h.pe hb, snd_fld h.sd⟩
/-- i.f, i an own instance -/
def dFldO (K : PySem.W.Frag) (f : Str) (i : Nat) : dE := fun env Q => match env[i]? with
  | some (some (.oi C fs)) => ClsA K C f ∧ ∃ q, fs.lookup f = some q ∧ Q q env
  | _ => False
theorem snd_fldO {i : Nat} : SndE m K (tFld K (tVar i) f) (dFldO K f i) := ⟨fun {B H σ env G QD Q} w q k => by
  unfold dFldO at q
  split at q
  · rename_i C fs hd
    obtain ⟨ca, p, hp, q⟩ := q
    obtain ⟨v, h1, a, dx, fv, e1, rfl, e3, e4, e5⟩ := w.sl i _ hd
    obtain ⟨u, hu, ru⟩ := e5.look hp
    exact ⟨.ref a, h1, a, C, dx, fv, u, rfl, e3, ca.c, ca.n, hu, k p env u B H G q w ru .refl (.gr (.refl w.ex))⟩
  · exact q.elim⟩
theorem de_fldO (i : Nat) (h : PE X e (tVar i)) (hb : attributeBase e f X.env (eval e X.env) = eval e X.env := by rfl) : DE m X (.Attribute e f pos) (tFld X.K (tVar i) f) (dFldO X.K f i) := ⟨pe_fld h hb, snd_fldO⟩

/-! ### i.f = e, i an own instance -/
def dSetF (K : PySem.W.Frag) (i : Nat) (f : Str) (de : dE) : dS := fun Dd env => de env fun p e => match e[i]? with
  | some (some (.oi C fs)) => ClsA K C f ∧ fs.length < 1000 ∧ Dd.nx (e.set i (some (.oi C (putFP f p fs))))
  | _ => False
theorem snd_setF {i : Nat} (h : SndE m K te de) : SndS pn K (sFld K (tVar i) te f) (dSetF K i f de) := ⟨fun {B H σ env G Dd D} w q n r k1 k2 => h.run w q fun p e v B1 H1 G1 q1 w1 r1 s1 u1 => by
  change (match e[i]? with | some (some (.oi C fs)) => ClsA K C f ∧ fs.length < 1000 ∧ Dd.nx (e.set i (some (.oi C (putFP f p fs)))) | _ => False) at q1
  split at q1
  · rename_i C fs hd
    obtain ⟨ca, hl, q1⟩ := q1
    obtain ⟨v0, h1, a, dx, fv, e1, rfl, e3, e4, e5⟩ := w1.sl i _ hd
    refine ⟨.ref a, h1, a, C, dx, fv, rfl, e3, ca.c, ca.n, by rw [e5.len]; exact hl, ?_⟩
    have ndx : dx ≠ a := fun q => by rw [q, e3] at e4; cases e4
    obtain ⟨w2, s2⟩ := w1.chg (d' := .oi C (putFP f p fs)) (l := a) (o := .ins C dx (putF f v fv)) hd h1 (by rw [e1]; exact List.mem_cons_self) ⟨a, dx, _, e1, rfl, upd_same, by rw [upd_ne ndx]; exact e4, e5.put r1⟩
    exact n _ σ B1 _ G1 q1 w2 (s1.trans s2) .refl
  · exact q1.elim⟩
theorem ds_setF {i : Nat} {tpos : Pos} (ho : PE X o (tVar i)) (he : DE false X e te de) (hs : swapsWith e (some (.Attribute o f tpos)) pos.line X.env = pure false := by rfl) : DS pn X (.Assign [.Attribute o f tpos] e pos) (sFld X.K (tVar i) te f) (dSetF X.K i f de) := ⟨ps_fld ho he.pe hs, snd_setF he.sd⟩

/-! ### i.f = e, the first one of this attribute -/
theorem putF_new {f : Str} {v : V} : ∀ {fs : List (Str × V)}, fs.lookup f = none → putF f v fs = fs ++ [(f, v)]
  | [], _ => rfl
  | (g, x) :: r, h => by
    rw [List.lookup] at h
    split at h
    · cases h
    · rename_i hg
      have hne : ¬ g = f := fun e => by rw [e] at hg; simp at hg
      rw [putF, if_neg hne, putF_new h]; rfl
theorem RpF.append {p : P} {f : Str} {v : V} (hp : Rp K B p v) : ∀ {fs : List (Str × P)} {fv : List (Str × V)}, RpF K B fs fv → RpF K B (fs ++ [(f, p)]) (fv ++ [(f, v)])
  | [], _, e => by rw [show _ = [] from e]; exact ⟨v, [], rfl, hp, rfl⟩
  | (g, x) :: fs, _, ⟨u, r, e, h1, h2⟩ => by
    subst e
    exact ⟨u, r ++ [(f, v)], rfl, h1, RpF.append hp h2⟩
def dSetN (K : PySem.W.Frag) (i : Nat) (f : Str) (de : dE) : dS := fun Dd env => de env fun p e => match e[i]? with
  | some (some (.oi C fs)) => ClsA K C f ∧ fs.lookup f = none ∧ fs.length < 1000 ∧ Dd.nx (e.set i (some (.oi C (fs ++ [(f, p)]))))
  | _ => False
theorem snd_setN {i : Nat} (h : SndE m K te de) : SndS pn K (sFld K (tVar i) te f) (dSetN K i f de) := ⟨fun {B H σ env G Dd D} w q n r k1 k2 => h.run w q fun p e v B1 H1 G1 q1 w1 r1 s1 u1 => by
  change (match e[i]? with | some (some (.oi C fs)) => ClsA K C f ∧ fs.lookup f = none ∧ fs.length < 1000 ∧ Dd.nx (e.set i (some (.oi C (fs ++ [(f, p)])))) | _ => False) at q1
  split at q1
  · rename_i C fs hd
    obtain ⟨ca, hn, hl, q1⟩ := q1
    obtain ⟨v0, h1, a, dx, fv, e1, rfl, e3, e4, e5⟩ := w1.sl i _ hd
    refine ⟨.ref a, h1, a, C, dx, fv, rfl, e3, ca.c, ca.n, by rw [e5.len]; exact hl, ?_⟩
    have ndx : dx ≠ a := fun q => by rw [q, e3] at e4; cases e4
    rw [putF_new (e5.nolook hn)]
    obtain ⟨w2, s2⟩ := w1.chg (d' := .oi C (fs ++ [(f, p)])) (l := a) (o := .ins C dx (fv ++ [(f, v)])) hd h1 (by rw [e1]; exact List.mem_cons_self) ⟨a, dx, _, e1, rfl, upd_same, by rw [upd_ne ndx]; exact e4, e5.append r1⟩
    exact n _ σ B1 _ G1 q1 w2 (s1.trans s2) .refl
  · exact q1.elim⟩
theorem ds_setN {i : Nat} {tpos : Pos} (ho : PE X o (tVar i)) (he : DE false X e te de) (hs : swapsWith e (some (.Attribute o f tpos)) pos.line X.env = pure false := by rfl) : DS pn X (.Assign [.Attribute o f tpos] e pos) (sFld X.K (tVar i) te f) (dSetN X.K i f de) := ⟨ps_fld ho he.pe hs, snd_setN he.sd⟩

/-! ### a call with plain arguments changes nothing that was there -/
theorem plain_wd {H : Hp} {ps : List P} {vs : List V} (ex : Ex B H) (r : RpA K B ps vs) : Wd0 K B H (vs.map some) ((ps.map D.sh).map some) (fun _ => []) where
  ex := ex
  sl := fun i d e => by
    rw [List.getElem?_map, List.getElem?_map] at e
    cases hp : ps[i]? with
    | none => rw [hp] at e; cases e
    | some p =>
      rw [hp] at e
      cases e
      obtain ⟨v, h1, h2⟩ := r.get hp
      exact ⟨v, by rw [List.getElem?_map, h1]; rfl, rfl, h2⟩
  no := fun _ _ => rfl
  nd := fun _ => List.nodup_nil
  dj := fun _ _ _ h => absurd h List.not_mem_nil
  nb := fun _ _ h => absurd h List.not_mem_nil
  len := by rw [List.length_map, List.length_map, List.length_map, r.length]
theorem callP {fs : FSp} {ps : List P} {vs : List V} {H : Hp} {QD : D → List D → Prop} {Q : VK} {E : XK} (ex : Ex B H) (r : RpA K B ps vs) (h : fs (ps.map D.sh) QD)
    (k : ∀ d ds v F B' H', QD d ds → RpD K B' H' d v F → F.Nodup → (∀ a ∈ F, B' a = none) → (∀ a ∈ F, H a = none) → Gr B H B' H' → Q v H') : spD K fs vs H Q E := by
  refine ⟨B, _, _, _, plain_wd ex r, h, fun d ds v F B2 H2 G2 q2 w2 o2 s2 => ?_⟩
  have nm : ∀ (x : Addr) (i : Nat), x ∉ (fun _ => [] : Fp) i := fun _ _ => List.not_mem_nil
  refine k d ds v F B2 H2 q2 o2.rp o2.nd o2.nb (fun a ha => ?_) ⟨s2.ex, fun x o hx => s2.kp x o hx (nm x), w2.ex, fun x o hx hn => s2.bs x o hx hn (nm x)⟩
  rcases o2.nw a ha with ⟨j, hj⟩ | hn
  · cases hj
  · exact hn
/-- what a call of fs gives, plain -/
def pcall (fs : FSp) (ps : List P) (Q : P → Prop) : Prop := fs (ps.map D.sh) fun d _ => match d with
  | .sh z => Q z
  | _ => False
theorem callPP {fs : FSp} {ps : List P} {vs : List V} {H : Hp} {QD : P → Prop} {Q : VK} {E : XK} (ex : Ex B H) (r : RpA K B ps vs) (h : pcall fs ps QD)
    (k : ∀ z v B' H', QD z → Rp K B' z v → Gr B H B' H' → Q v H') : spD K fs vs H Q E :=
  callP ex r h fun d ds v F B' H' q rp _ _ _ g => by
    cases d with
    | sh z => exact k z v B' H' q rp.2 g
    | _ => exact q.elim
/-- f(..), plain in and out -/
def dCallQ (fs : FSp) (da : dA) : dE := fun env Q => da env fun as e => match prs as with
  | some ps => pcall fs ps fun z => Q z e
  | none => False
theorem snd_callQ {fs : FSp} {E : XK} (h : SndA m K ta da) : SndE m K (tCall (spD K fs) [] E ta) (dCallQ fs da) := ⟨fun {B H σ env G QD Q} w q k => h.run w q fun as e vs B1 H1 G1 q1 w1 r1 s1 u1 => by
  change (match prs as with | some ps => pcall fs ps fun z => QD z e | none => False) at q1
  split at q1
  · rename_i ps hp
    show spD K fs (vs ++ []) H1 Q E
    rw [List.append_nil]
    exact callPP w1.ex (r1.all hp) q1 fun z v B' H' qz rz g => k z e v B' H' G1 qz (w1.gr g) rz (s1.trans g.stp) (u1.trans (.gr g))
  · exact q1.elim⟩
theorem de_call {fs : FSp} {E : XK} {e0 : Expr} (h : PA X (e0 :: es) ta → PE X a (tCall (spD X.K fs) [] E ta)) (ha : DA m X (e0 :: es) ta da) : DE m X a (tCall (spD X.K fs) [] E ta) (dCallQ fs da) := ⟨h ha.pe, snd_callQ ha.sd⟩

/-! ### o.m(..) -/
def dMeth (C : Addr) (mth : Str) (fs : FSp) (de : dE) (da : dA) : dE := fun env Q => de env fun p e => match p with
  | .ins C' fl => C' = C ∧ fl.lookup mth = none ∧ da e fun as e2 => match prs as with
    | some ps => pcall fs (.ins C' fl :: ps) fun z => Q z e2
    | none => False
  | _ => False
theorem snd_meth {C : Addr} {fs : FSp} {E : XK} (h : SndE m K te de) (g : SndA m K ta da) : SndE m K (tMeth C mth (spD K fs) [] E te ta) (dMeth C mth fs de da) := ⟨fun {B H σ env G QD Q} w q k => h.run w q fun p e v B1 H1 G1 q1 w1 r1 s1 u1 => by
  cases p with
  | ins C' fl =>
    obtain ⟨rfl, hm, q1⟩ := q1
    obtain ⟨a, dx, fv, rfl, h1, h2⟩ := id r1
    refine ⟨a, dx, fv, rfl, w1.ex a _ h1, h2.nolook hm, g.run w1 q1 fun as e2 vs B2 H2 G2 q2 w2 r2 s2 u2 => ?_⟩
    change (match prs as with | some ps => pcall fs (.ins C' fl :: ps) fun z => QD z e2 | none => False) at q2
    split at q2
    · rename_i ps hp
      rw [List.append_nil]
      exact callPP (ps := .ins C' fl :: ps) w2.ex ⟨_, vs, rfl, Rp.mono s2.ex _ r1, r2.all hp⟩ q2 fun z v B' H' qz rz gg => k z e2 v B' H' G2 qz (w2.gr gg) rz ((s1.trans s2).trans gg.stp) ((u1.trans u2).trans (.gr gg))
    · exact q2.elim
  | _ => exact q1.elim⟩
/-- a method as a caller has it -/
structure CalleeM (Pg : Program) (w : World) (K : PySem.W.Frag) (mg : Str → Option Value) (base : Heap) (k : Nat) (C : Addr) (mth : Str) (f : Addr) (fd : FuncData) (ps : List Str) (fs : FSp) : Prop where
  ok : FnOk Pg w K mg base CX0 k f fd ps (spD K fs)
  c : Cls K C
  m : Meth K C mth f
  b : Binds K fd ps []
theorem de_meth {C : Addr} {fs : FSp} {E : XK} {e0 : Expr} (h : PE X o te → PA X (e0 :: es) ta → PE X a (tMeth C mth (spD X.K fs) [] E te ta)) (ho : DE m X o te de) (ha : DA m X (e0 :: es) ta da) : DE m X a (tMeth C mth (spD X.K fs) [] E te ta) (dMeth C mth fs de da) := ⟨h ho.pe ha.pe, snd_meth ho.sd ha.sd⟩
theorem de_meth0 {C : Addr} {fs : FSp} {E : XK} (h : PE X o te → PE X a (tMeth C mth (spD X.K fs) [] E te tNil)) (ho : DE m X o te de) : DE m X a (tMeth C mth (spD X.K fs) [] E te tNil) (dMeth C mth fs de dNil) := ⟨h ho.pe, snd_meth ho.sd snd_nil⟩

/-! ### f(..), f an instance -/
def dCallO (C : Addr) (fs : FSp) (de : dE) (da : dA) : dE := fun env Q => de env fun p e => match p with
  | .ins C' fl => C' = C ∧ da e fun as e2 => match prs as with
    | some ps => pcall fs (.ins C' fl :: ps) fun z => Q z e2
    | none => False
  | _ => False
theorem snd_callO {C : Addr} {fs : FSp} {E : XK} (hK : X.K = K) (h : SndE m K te de) (g : SndA m K ta da) : SndE m K (StX.tCallO X C (fun vs H Q E => spD K fs (vs ++ []) H Q E) E te ta) (dCallO C fs de da) := ⟨fun {B H σ env G QD Q} w q k => h.run w q fun p e v B1 H1 G1 q1 w1 r1 s1 u1 => by
  cases p with
  | ins C' fl =>
    obtain ⟨rfl, q1⟩ := q1
    obtain ⟨a, dx, fv, rfl, h1, h2⟩ := id r1
    refine ⟨a, rfl, g.run w1 q1 fun as e2 vs B2 H2 G2 q2 w2 r2 s2 u2 => ?_⟩
    change (match prs as with | some ps => pcall fs (.ins C' fl :: ps) fun z => QD z e2 | none => False) at q2
    split at q2
    · rename_i ps hp
      refine ⟨.inr ⟨dx, fv, w2.ex a _ (s2.ex a _ h1)⟩, ?_⟩
      show spD K fs ((V.ref a :: vs) ++ []) H2 Q E
      rw [List.append_nil]
      exact callPP (ps := .ins C' fl :: ps) w2.ex ⟨_, vs, rfl, Rp.mono s2.ex _ r1, r2.all hp⟩ q2 fun z v B' H' qz rz gg => k z e2 v B' H' G2 qz (w2.gr gg) rz ((s1.trans s2).trans gg.stp) ((u1.trans u2).trans (.gr gg))
    · exact q2.elim
  | _ => exact q1.elim⟩
theorem de_callO {C : Addr} {fs : FSp} {E : XK} {e0 fe : Expr} (h : PE X fe te → PA X (e0 :: es) ta → PE X a (StX.tCallO X C (fun vs H Q E => spD X.K fs (vs ++ []) H Q E) E te ta)) (ho : DE m X fe te de) (ha : DA m X (e0 :: es) ta da) :
    DE m X a (StX.tCallO X C (fun vs H Q E => spD X.K fs (vs ++ []) H Q E) E te ta) (dCallO C fs de da) := ⟨h ho.pe ha.pe, snd_callO rfl ho.sd ha.sd⟩

/-! ### C(..) -/
def dMake (C : Addr) (fs : FSp) (da : dA) : dE := fun env Q => da env fun as e => match prs as with
  | some ps => fs (.oi C [] :: ps.map D.sh) fun d ds => match d, ds with
    | .sh .non, .oi C' fl :: _ => Q (.ins C' fl) e
    | _, _ => False
  | none => False
theorem make_wd {H : Hp} {ps : List P} {vs : List V} {C x dx : Addr} (ex : Ex B H) (hx : H x = none) (hd : H dx = none) (ne : dx ≠ x) (r : RpA K B ps vs) :
    Wd0 K B (upd (upd H dx (.own x)) x (.ins C dx [])) ((V.ref x :: vs).map some) ((D.oi C [] :: ps.map D.sh).map some) (fun i => if i = 0 then [x, dx] else []) where
  ex := fun a o h => by rw [upd_ne (ne_of_none (ex a o h) hx), upd_ne (ne_of_none (ex a o h) hd)]; exact ex a o h
  sl := fun i d e => by
    cases i with
    | zero =>
      cases e
      exact ⟨.ref x, rfl, x, dx, [], rfl, rfl, upd_same, by rw [upd_ne ne, upd_same], rfl⟩
    | succ i =>
      rw [List.map_cons, List.getElem?_cons_succ, List.getElem?_map, List.getElem?_map] at e
      cases hp : ps[i]? with
      | none => rw [hp] at e; cases e
      | some p =>
        rw [hp] at e
        cases e
        obtain ⟨v, h1, h2⟩ := r.get hp
        exact ⟨v, by rw [List.map_cons, List.getElem?_cons_succ, List.getElem?_map, h1]; rfl, by rw [if_neg (Nat.succ_ne_zero i)], h2⟩
  no := fun i h => by
    cases i with
    | zero => exact absurd rfl (h _)
    | succ i => rfl
  nd := fun i => by
    split
    · exact List.nodup_cons.mpr ⟨fun h => ne (List.mem_singleton.mp h).symm, List.nodup_cons.mpr ⟨List.not_mem_nil, List.nodup_nil⟩⟩
    · exact List.nodup_nil
  dj := fun i j a h1 h2 => by
    split at h1
    · split at h2
      · rename_i e1 e2; rw [e1, e2]
      · cases h2
    · cases h1
  nb := fun i a h => by
    split at h
    · rcases List.mem_cons.mp h with h | h
      · rw [h]; exact ex.back hx
      · rw [List.mem_singleton.mp h]; exact ex.back hd
    · cases h
  len := by rw [List.length_map, List.length_map, List.length_cons, List.length_cons, List.length_map, r.length]
theorem snd_make {C : Addr} {fs : FSp} {E : XK} (h : SndA m K ta da) : SndE m K (tMake C (spD K fs) [] E ta) (dMake C fs da) := ⟨fun {B H σ env G QD Q} w q k => h.run w q fun as e vs B1 H1 G1 q1 w1 r1 s1 u1 => by
  change (match prs as with | some ps => fs (.oi C [] :: ps.map D.sh) (fun d ds => match d, ds with | .sh .non, .oi C' fl :: _ => QD (.ins C' fl) e | _, _ => False) | none => False) at q1
  split at q1
  · rename_i ps hp
    intro x dx hx hd ne
    rw [List.append_nil]
    refine ⟨B1, _, _, _, make_wd w1.ex hx hd ne (r1.all hp), q1, fun d ds v F B2 H2 G2 q2 w2 o2 s2 => ?_⟩
    split at q2
    · rename_i C' fl rest
      refine ⟨o2.rp.2, ?_⟩
      obtain ⟨v0, h0, a, dx', fv, e1, e2, e3, e4, e5⟩ := w2.sl 0 _ rfl
      have ev : V.ref x = v0 := Option.some.inj (Option.some.inj h0)
      rw [← ev] at e2
      cases e2
      -- plain from here on
      have nb : ∀ a ∈ G2 0, B2 a = none := fun a ha => w2.nb 0 a ha
      have fr := frz_gr w2.ex nb
      have hne : ∀ {a : Addr} {o : HO}, H1 a = some o → a ≠ x ∧ a ≠ dx := fun ha => ⟨ne_of_none ha hx, ne_of_none ha hd⟩
      have up : ∀ {a : Addr} {o : HO}, H1 a = some o → upd (upd H1 dx (.own x)) x (.ins C dx []) a = some o := fun ha => by rw [upd_ne (hne ha).1, upd_ne (hne ha).2]; exact ha
      have nG : ∀ {a : Addr} {o : HO}, H1 a = some o → ∀ i, a ∉ (fun i => if i = 0 then [x, dx] else [] : Fp) i := fun {a o} ha i hi => by
        change a ∈ (if i = 0 then [x, dx] else []) at hi
        split at hi
        · rcases List.mem_cons.mp hi with hi | hi
          · exact (hne ha).1 hi
          · exact (hne ha).2 (List.mem_singleton.mp hi)
        · cases hi
      have nF : ∀ {a : Addr} {o : HO}, H1 a = some o → a ∉ G2 0 := fun {a o} ha hi => by
        rcases s2.fp 0 a hi with ⟨j, hj⟩ | hn
        · exact nG ha j hj
        · rw [up ha] at hn; cases hn
      have g : Gr B1 H1 (frzB B2 H2 (G2 0)) H2 := ⟨s2.ex.trans fr.1, fun a o ha => s2.kp a o (up ha) (nG ha), fr.2, fun a o ha hn => by
        unfold frzB
        rw [if_neg (nF ha)]
        exact s2.bs a o (up ha) hn (nG ha)⟩
      refine k _ e _ _ H2 G1 q2 (w1.gr g) ?_ (s1.trans g.stp) (u1.trans (.gr g))
      refine ⟨x, dx', fv, rfl, ?_, RpF.mono fr.1 fl e5⟩
      unfold frzB
      rw [if_pos (by rw [e1]; exact List.mem_cons_self)]
      exact e3
    · exact q2.elim
  · exact q1.elim⟩
/-- a class as a caller has it -/
structure CalleeC (Pg : Program) (w : World) (K : PySem.W.Frag) (mg : Str → Option Value) (base : Heap) (k : Nat) (x : Str) (C f : Addr) (fd : FuncData) (ps : List Str) (fs : FSp) : Prop where
  ok : FnOk Pg w K mg base CX0 k f fd ps (spD K fs)
  m : Mk K C f
  g : mg x = some (.ref C)
  b : Binds K fd ps []
theorem de_make {C : Addr} {fs : FSp} {E : XK} {e0 : Expr} (h : PA X (e0 :: es) ta → PE X a (tMake C (spD X.K fs) [] E ta)) (ha : DA m X (e0 :: es) ta da) : DE m X a (tMake C (spD X.K fs) [] E ta) (dMake C fs da) := ⟨h ha.pe, snd_make ha.sd⟩

/-! ### isinstance of an own class -/
theorem kit_self (K : PySem.W.Frag) (c : Addr) : PySem.W.kitOne K (.ref c) (.ref c) = some true := by
  unfold PySem.W.kitOne
  rw [if_pos (beq_self_eq_true _)]
def dIsiO (K : PySem.W.Frag) : List P → (P → Prop) → Prop
  | [.ins C _, .ob C'], Q => C' = C ∧ C8.InsC K C ∧ Q (.bl true)
  | _, _ => False
theorem cs_isiO : CbS K (fun xs H Q => ∃ C a dx fs, xs = [.ref a, .ref C] ∧ H a = some (.ins C dx fs) ∧ C8.InsC K C ∧ Q (.bl true) H) (dIsiO K) := ⟨fun {B H xs ps QD Q} e r q k => by
  unfold dIsiO at q
  split at q
  · rename_i C fs C'
    obtain ⟨rfl, hi, q⟩ := q
    obtain ⟨v, u, rfl, r1, r2⟩ := two_rp r
    obtain ⟨a, dx, fv, rfl, h1, h2⟩ := r1
    rw [show u = V.ref C' from r2]
    exact ⟨C', a, dx, fv, rfl, e a _ h1, hi, k _ B H _ q rfl (.refl e)⟩
  · exact q.elim⟩
theorem call_isO : CallR X (.builtin "isinstance") (fun xs H Q => ∃ C a dx fs, xs = [.ref a, .ref C] ∧ H a = some (.ins C dx fs) ∧ C8.InsC X.K C ∧ Q (.bl true) H) := by
  intro pins s σ H xs us Q I r h
  obtain ⟨C, a, dx, fs, rfl, ha, c, q⟩ := h
  exact C8.call_isC c pins s σ H _ us Q I r ⟨a, dx, fs, rfl, ha, q⟩

/-! ### operators of an own class -/
/-- x op y: two instances of the class at C -/
def rOwnB (K : PySem.W.Frag) (C : Addr) (sp : Sp) (E : XK) : R2 := fun x y H Q => ∃ a dx vs b dy ws, x = .ref a ∧ y = .ref b ∧ H a = some (.ins C dx vs) ∧ H b = some (.ins C dy ws) ∧ sp [x, y] H Q E
def dOwnB (C : Addr) (fs : FSp) : P → P → (P → Prop) → Prop := fun p q Q => match p, q with
  | .ins C1 f1, .ins C2 f2 => C1 = C ∧ C2 = C ∧ pcall fs [.ins C1 f1, .ins C2 f2] Q
  | _, _ => False
theorem os_ownB {C : Addr} {fs : FSp} {E : XK} : OpS K (rOwnB K C (fun vs H Q E => spD K fs (vs ++ []) H Q E) E) (dOwnB C fs) := ⟨fun {B H x y p q QD Q} ex rx ry r k => by
  unfold dOwnB at r
  split at r
  · rename_i C1 f1 C2 f2
    obtain ⟨rfl, rfl, r⟩ := r
    obtain ⟨a, dx, fv, rfl, h1, h2⟩ := id rx
    obtain ⟨b, dy, gv, rfl, g1, g2⟩ := id ry
    exact ⟨a, dx, fv, b, dy, gv, rfl, rfl, ex a _ h1, ex b _ g1, callPP (ps := [_, _]) ex ⟨_, _, rfl, rx, _, _, rfl, ry, rfl⟩ r fun z v B' H' qz rz g => k v B' H' z qz rz g⟩
  · exact r.elim⟩
/-- the operators' facts of a class -/
structure OwnF (K : PySem.W.Frag) (C g : Addr) (nm : Str) : Prop where
  at_ : PySem.W.findIn K (.ref C) nm = some (some (.ref g))
  fn : PySem.W.isFn K (.ref g) = true
section
variable {CX : CXT} {C g : Addr} {k : Nat} {sp : Sp} {E : XK}
theorem op_ownB {op : Operator} (F : OwnF X.K C g (PySem.dunder op.info.2)) (hc : PySem.W.selfFirst X.K C = true) (f : FnR X.prog X.w X.K X.mg X.base CX k g sp) (hr : Room k X.A) (hx : Passes CX X E) : OpR X (binaryOp op) (rOwnB X.K C sp E) := by
  intro pins s σ H x y v u Q I rx ry h
  obtain ⟨a, dx, vs, b, dy, ws, rfl, rfl, ha, hb, q⟩ := h
  cases (show v = Value.ref a from rx)
  cases (show u = Value.ref b from ry)
  obtain ⟨mA, O, _⟩ := ins_get I.hok ha
  obtain ⟨od, J, _⟩ := O.look
  obtain ⟨mB, O', _⟩ := ins_get I.hok hb
  obtain ⟨od', J', _⟩ := O'.look
  obtain ⟨m, hF⟩ := I.fr
  refine PySem.W.binop_K (op := op) hF I.ok.mod.kin J J'.type hc F.at_ F.fn ?_
  refine wpAny_mono (wpAny_call (run_fnR (us := [.ref a, .ref b]) (vs := [.ref a, .ref b]) f hr hx I (.cons rfl (.cons rfl .nil)) q)) (fun w s' z => ?_) fun _ _ x => x
  obtain ⟨z', H', I', rz, qz⟩ := z
  exact SlX.cmpback rz ⟨z', H', I', rz, qz⟩
theorem op_ownE {op : CmpOp} (hop : ∀ a b, compareOp op a b = richCompare op a b) (F : OwnF X.K C g (cmpInfo op).2.1) (f : FnR X.prog X.w X.K X.mg X.base CX k g sp) (hn : PySem.W.notFirst X.K C (.ref C) = true)
    (hr : Room k X.A) (hx : Passes CX X E) : OpR X (compareOp op) (rOwnB X.K C sp E) := by
  intro pins s σ H x y v u Q I rx ry h
  obtain ⟨a, dx, vs, b, dy, ws, rfl, rfl, ha, hb, q⟩ := h
  cases (show v = Value.ref a from rx)
  cases (show u = Value.ref b from ry)
  obtain ⟨mA, O, _⟩ := ins_get I.hok ha
  obtain ⟨od, J, _⟩ := O.look
  obtain ⟨mB, O', _⟩ := ins_get I.hok hb
  obtain ⟨od', J', _⟩ := O'.look
  obtain ⟨m, hF⟩ := I.fr
  rw [hop]
  refine PySem.W.cmp_K (op := op) (tb := .ref C) hr.units0 hF I.ok.mod.kin J J'.type hn F.at_ F.fn ?_
  refine wpAny_mono (wpAny_call (run_fnR (us := [.ref a, .ref b]) (vs := [.ref a, .ref b]) f hr hx I (.cons rfl (.cons rfl .nil)) q)) (fun w s' z => ?_) fun _ _ x => x
  obtain ⟨z', H', I', rz, qz⟩ := z
  exact SlX.cmpback rz ⟨z', H', I', rz, qz⟩
end
/-! ### list + list, min, max -/
def dCat2 : P → P → (D → Prop) → Prop := fun p q Q => match p, q with
  | .lst xs, .lst ys => xs.length + ys.length ≤ sizeLine ∧ Q (.ol (xs ++ ys))
  | _, _ => False
theorem oo_cat : OpO K rCat dCat2 := ⟨fun {B H x y p q QD Q} e rx ry r k => by
  unfold dCat2 at r
  split at r
  · rename_i xs ys
    obtain ⟨a, vs, rfl, h1, h2⟩ := rx
    obtain ⟨b, us, rfl, g1, g2⟩ := ry
    refine ⟨a, b, vs, us, rfl, rfl, e a _ h1, e b _ g1, by rw [h2.length, g2.length]; exact r.1, fun p hp => ?_⟩
    have g : Gr B H B (upd H p (.lst (vs ++ us))) := ⟨Ex.refl _, fun a u k => by rw [upd_ne (ne_of_none k hp)]; exact k, fun a u k => by rw [upd_ne (ne_of_none (e a u k) hp)]; exact e a u k, fun a u k n => n⟩
    exact k (.ref p) B _ (.ol (xs ++ ys)) [p] r.2 ⟨p, _, rfl, rfl, upd_same, h2.append g2⟩ (by simp) (fun a ha => by rw [List.mem_singleton.mp ha]; exact e.back hp) (fun a ha => by rw [List.mem_singleton.mp ha]; exact hp) g
  · exact r.elim⟩
def dMin2 : List P → (P → Prop) → Prop
  | [.int i, .int j], Q => Q (.int (if j < i then j else i))
  | _, _ => False
theorem cs_min2 : CbS K (fun xs H Q => ∃ i j, xs = [.int i, .int j] ∧ Q (.int (if j < i then j else i)) H) dMin2 := ⟨fun {B H xs ps QD Q} e r q k => by
  unfold dMin2 at q
  split at q
  · obtain ⟨v, u, rfl, rfl, rfl⟩ := two_rp r
    exact ⟨_, _, rfl, k _ B H _ q rfl (.refl e)⟩
  · exact q.elim⟩
def dMax2 : List P → (P → Prop) → Prop
  | [.int i, .int j], Q => Q (.int (if j > i then j else i))
  | _, _ => False
theorem cs_max2 : CbS K (fun xs H Q => ∃ i j, xs = [.int i, .int j] ∧ Q (.int (if j > i then j else i)) H) dMax2 := ⟨fun {B H xs ps QD Q} e r q k => by
  unfold dMax2 at q
  split at q
  · obtain ⟨v, u, rfl, rfl, rfl⟩ := two_rp r
    exact ⟨_, _, rfl, k _ B H _ q rfl (.refl e)⟩
  · exact q.elim⟩
structure CalleeO (Pg : Program) (w : World) (K : PySem.W.Frag) (mg : Str → Option Value) (base : Heap) (k : Nat) (C : Addr) (f : Addr) (fd : FuncData) (ps : List Str) (fs : FSp) : Prop where
  ok : FnOk Pg w K mg base CX0 k f fd ps (spD K fs)
  c : StX.CallO K C f
  b : Binds K fd ps []
structure CalleeP (Pg : Program) (w : World) (K : PySem.W.Frag) (mg : Str → Option Value) (base : Heap) (k : Nat) (C : Addr) (nm : Str) (f : Addr) (fd : FuncData) (ps : List Str) (fs : FSp) : Prop where
  ok : FnOk Pg w K mg base CX0 k f fd ps (spD K fs)
  o : OwnF K C f nm
  b : Binds K fd ps []
/-! ### a, b = x, y -/
def dPar (i j : Nat) (da : dA) : dS := fun Dd env => da env fun as e => match prs as with
  | some [p, q] => inE i e = true ∧ inE j e = true ∧ Dd.nx ((e.set i (some (.sh p))).set j (some (.sh q)))
  | _ => False
theorem snd_par {i j : Nat} (hi : i ∉ pn) (hj : j ∉ pn) (h : SndA m K ta da) : SndS pn K (tPar i j ta) (dPar i j da) := ⟨fun {B H σ env G Dd D} w q n r k1 k2 => h.run w q fun as e vs B1 H1 G1 q1 w1 r1 s1 u1 => by
  change (match prs as with | some [p, q] => inE i e = true ∧ inE j e = true ∧ Dd.nx ((e.set i (some (.sh p))).set j (some (.sh q))) | _ => False) at q1
  split at q1
  · rename_i p q' hp
    obtain ⟨h1, h2, q1⟩ := q1
    obtain ⟨v, u, rfl, rv, ru⟩ := two_rp (r1.all hp)
    refine ⟨v, u, rfl, ?_⟩
    have w2 := w1.putS (inE_lt h1) rv
    have w3 := w2.putS (i := j) (by rw [List.length_set]; exact inE_lt h2) ru
    have s2 := (s1.trans (stp_put (i := i) (F := []) (fun _ h => absurd h List.not_mem_nil))).trans (stp_put (i := j) (F := []) (fun _ h => absurd h List.not_mem_nil))
    exact n _ _ B1 H1 _ q1 w3 s2 (Pin.trans (Pin.set hi) (Pin.set hj))
  · exact q1.elim⟩
theorem ds_par {i j : Nat} {st : Stmt} {e0 e1 : Expr} (h : PA X [e0, e1] ta → PS X st (tPar i j ta)) (ha : DA false X [e0, e1] ta da) (hi : i ∉ pn := by decide) (hj : j ∉ pn := by decide) : DS pn X st (tPar i j ta) (dPar i j da) := ⟨h ha.pe, snd_par hi hj ha.sd⟩
/-- what is never reached -/
theorem ds_never {st : Stmt} : DS pn X st (fun _ _ _ => False) (fun _ _ => False) := ⟨⟨fun pins s σ H D I h => h.elim⟩, ⟨fun w q n r k1 k2 => q.elim⟩⟩
theorem de_never : DE m X e (fun _ _ _ => False) (fun _ _ => False) := ⟨⟨fun pins s σ H Q I h => h.elim⟩, ⟨fun w q k => q.elim⟩⟩
theorem dt_never : DT m X e (fun _ _ _ => False) (fun _ _ => False) := ⟨⟨fun pins s σ H Q I h => h.elim⟩, ⟨fun w q k => q.elim⟩⟩
end
end DL
set_option Elab.async false
set_option linter.all false
set_option maxRecDepth 100000
set_option maxHeartbeats 2000000
/-! lcm, all, max of a list, n & 1, b is True, an own instance and an int, enumerate of any sequence -/
namespace DL
open PySem PySem.Spec L2
variable [Rf]
section
variable {K : PySem.W.Frag} {X : Cx}
/-! ### math.lcm -/
def rLcm : List V → Hp → VK → Prop := fun vs H Q => ∃ a b : Nat, vs = [.int a, .int b] ∧ (a < 1073741824 ∧ b < 1073741824) ∧ Q (.int ((a.lcm b : Nat) : Int)) H
theorem lcm_small {a b : Nat} (ha : a < 1073741824) (hb : b < 1073741824) : a.lcm b < 2 ^ 64 := by
  have h1 : a.lcm b ≤ a * b := PySem.W.mc_lcm_le a b
  have h2 : a * b ≤ 1073741824 * 1073741824 := Nat.mul_le_mul (Nat.le_of_lt ha) (Nat.le_of_lt hb)
  have h3 : 1073741824 * 1073741824 < 2 ^ 64 := by decide
  omega
theorem cr_lcm : CallR X (.builtin "math.lcm") rLcm := by
  intro pins s σ H vs us Q I r h
  obtain ⟨a, b, rfl, ⟨ha, hb⟩, q⟩ := h
  obtain ⟨t, u, rfl⟩ := Vals.int2 r
  have e : (((Nat.lcm 1 (a : Int).natAbs).lcm (b : Int).natAbs : Nat) : Int) = ((a.lcm b : Nat) : Int) := by
    rw [PySem.W.mc_lcm_one, Int.natAbs_natCast, Int.natAbs_natCast]
  refine PySem.W.mg_lcm_v (c := ((a.lcm b : Nat) : Int)) (by rw [Int.natAbs_natCast]; exact Nat.lt_trans ha (by decide)) (by rw [Int.natAbs_natCast]; exact Nat.lt_trans hb (by decide)) e ?_ ⟨.int _, H, I.tok _, ⟨_, rfl⟩, q⟩
  rw [Int.natAbs_natCast]
  have h := lcm_small ha hb
  by_cases h0 : a.lcm b = 0
  · rw [h0]; decide +kernel
  · exact Nat.lt_trans ((Nat.log2_lt h0).mpr h) (by decide +kernel)
def dLcm : List P → (P → Prop) → Prop
  | [.int a, .int b], Q => (0 ≤ a ∧ a < 1073741824) ∧ (0 ≤ b ∧ b < 1073741824) ∧ Q (.int ((a.toNat.lcm b.toNat : Nat) : Int))
  | _, _ => False
theorem cs_lcm : CbS K rLcm dLcm := ⟨fun {B H xs ps QD Q} e r q k => by
  unfold dLcm at q
  split at q
  · rename_i a b
    obtain ⟨⟨a0, a1⟩, ⟨b0, b1⟩, q⟩ := q
    obtain ⟨v, u, rfl, rfl, rfl⟩ := two_rp r
    obtain ⟨a, rfl⟩ := Int.eq_ofNat_of_zero_le a0
    obtain ⟨b, rfl⟩ := Int.eq_ofNat_of_zero_le b0
    exact ⟨a, b, rfl, ⟨by omega, by omega⟩, k _ B H _ q rfl (.refl e)⟩
  · exact q.elim⟩
/-! ### all(..) -/
def boolsP : List P → Option (List Bool)
  | [] => some []
  | .bl b :: ps => (boolsP ps).map (b :: ·)
  | _ :: _ => none
theorem bools_rp {B : Hp} : ∀ {ps : List P} {vs : List V} {ns : List Bool}, RpA K B ps vs → boolsP ps = some ns → vs = ns.map V.bl
  | [], _, _, h, e => by cases e; exact h
  | .bl i :: ps, _, ns, ⟨v, r, e1, e2, e3⟩, e => by
    unfold boolsP at e
    cases h : boolsP ps with
    | none => rw [h] at e; cases e
    | some ms =>
      rw [h] at e
      cases Option.some.inj e
      rw [e1, bools_rp e3 h, show v = V.bl i from e2]
      rfl
  | .non :: _, _, _, _, e => by cases e
  | .int _ :: _, _, _, _, e => by cases e
  | .str _ :: _, _, _, _, e => by cases e
  | .ob _ :: _, _, _, _, e => by cases e
  | .ty _ :: _, _, _, _, e => by cases e
  | .lst _ :: _, _, _, _, e => by cases e
  | .rol _ :: _, _, _, _, e => by cases e
  | .tup _ :: _, _, _, _, e => by cases e
  | .ins _ _ :: _, _, _, _, e => by cases e
theorem bools_map (ns : List Bool) : boolsP (ns.map P.bl) = some ns := by
  induction ns with
  | nil => rfl
  | cons n ns ih => show (boolsP (ns.map P.bl)).map (n :: ·) = _; rw [ih]; rfl
def dAll (ps : List P) (Q : P → Prop) : Prop := match ps with
  | [p] => (match plst p with
    | some xs => (match boolsP xs with
      | some ns => Q (.bl (ns.all id))
      | none => False)
    | none => False)
  | _ => False
theorem cs_all : CbS K (rAll K) dAll := ⟨fun {B H xs ps QD Q} e r q k => by
  unfold dAll at q
  split at q
  · rename_i p
    split at q
    · rename_i ys hp
      split at q
      · rename_i ns hn
        obtain ⟨v, rfl, rv⟩ := one_rp r
        obtain ⟨a, vs, rfl, h1, h2⟩ := plst_rp rv hp
        rw [bools_rp h2 hn] at h1
        exact ⟨a, ns, rfl, e.sqL h1, k _ B H _ q rfl (.refl e)⟩
      · exact q.elim
    · exact q.elim
  · exact q.elim⟩
/-! ### max(list) -/
def dMaxL (ps : List P) (Q : P → Prop) : Prop := match ps with
  | [p] => (match plst p with
    | some xs => (match intsP xs with
      | some ns => 0 < ns.length ∧ ∀ m, m ∈ ns → (∀ y, y ∈ ns → y ≤ m) → Q (.int m)
      | none => False)
    | none => False)
  | _ => False
theorem cs_maxL : CbS K (rMax K) dMaxL := ⟨fun {B H xs ps QD Q} e r q k => by
  unfold dMaxL at q
  split at q
  · rename_i p
    split at q
    · rename_i ys hp
      split at q
      · rename_i ns hn
        obtain ⟨v, rfl, rv⟩ := one_rp r
        obtain ⟨a, vs, rfl, h1, h2⟩ := plst_rp rv hp
        rw [ints_rp h2 hn] at h1
        exact ⟨a, ns, rfl, e.sqL h1, q.1, fun m h3 h4 => k _ B H _ (q.2 m h3 h4) rfl (.refl e)⟩
      · exact q.elim
    · exact q.elim
  · exact q.elim⟩
/-! ### n & 1, b is True -/
def dOdd : P → P → (P → Prop) → Prop
  | .int i, .int j, Q => (0 ≤ i ∧ j = 1) ∧ Q (.int (i % 2))
  | _, _, _ => False
theorem os_odd : OpS K (fun x y H Q => ∃ n : Nat, x = .int (n : Int) ∧ y = .int 1 ∧ Q (.int ((n % 2 : Nat) : Int)) H) dOdd := ⟨fun {B H x y p q QD Q} e rx ry r k => by
  unfold dOdd at r
  split at r
  · rename_i i j
    obtain ⟨⟨h0, rfl⟩, r⟩ := r
    obtain ⟨n, rfl⟩ := Int.eq_ofNat_of_zero_le h0
    refine ⟨n, rx, ry, k _ B H _ r ?_ (.refl e)⟩
    show V.int _ = V.int _
    congr 1
  · exact r.elim⟩
def dIsB : P → P → (P → Prop) → Prop
  | .bl a, .bl b, Q => Q (.bl (decide (a = b)))
  | _, _, _ => False
theorem os_isB : OpS K (fun x y H Q => ∃ a b, x = .bl a ∧ y = .bl b ∧ Q (.bl (decide (a = b))) H) dIsB := ⟨fun {B H x y p q QD Q} e rx ry r k => by
  unfold dIsB at r
  split at r
  · exact ⟨_, _, rx, ry, k _ B H _ r rfl (.refl e)⟩
  · exact r.elim⟩
def dNotB : P → P → (P → Prop) → Prop
  | .bl a, .bl b, Q => Q (.bl (!decide (a = b)))
  | _, _, _ => False
theorem os_notB : OpS K (fun x y H Q => ∃ a b, x = .bl a ∧ y = .bl b ∧ Q (.bl (!decide (a = b))) H) dNotB := ⟨fun {B H x y p q QD Q} e rx ry r k => by
  unfold dNotB at r
  split at r
  · exact ⟨_, _, rx, ry, k _ B H _ r rfl (.refl e)⟩
  · exact r.elim⟩
/-! ### an own instance and an int -/
def rOwnI (K : PySem.W.Frag) (C : Addr) (sp : Sp) (E : XK) : R2 := fun x y H Q => ∃ a dx vs n, x = .ref a ∧ y = .int n ∧ H a = some (.ins C dx vs) ∧ sp [x, y] H Q E
def dOwnI (C : Addr) (fs : FSp) : P → P → (P → Prop) → Prop := fun p q Q => match p, q with
  | .ins C1 f1, .int n => C1 = C ∧ pcall fs [.ins C1 f1, .int n] Q
  | _, _ => False
theorem os_ownI {C : Addr} {fs : FSp} {E : XK} : OpS K (rOwnI K C (fun vs H Q E => spD K fs (vs ++ []) H Q E) E) (dOwnI C fs) := ⟨fun {B H x y p q QD Q} ex rx ry r k => by
  unfold dOwnI at r
  split at r
  · rename_i C1 f1 n
    obtain ⟨rfl, r⟩ := r
    obtain ⟨a, dx, fv, rfl, h1, h2⟩ := id rx
    cases (show y = V.int n from ry)
    exact ⟨a, dx, fv, n, rfl, rfl, ex a _ h1, callPP (ps := [_, _]) ex ⟨_, _, rfl, rx, _, _, rfl, ry, rfl⟩ r fun z v B' H' qz rz g => k v B' H' z qz rz g⟩
  · exact r.elim⟩
/-- what the right side's int tells of the operator -/
structure OwnI (K : PySem.W.Frag) (C : Addr) (nm rn : Str) : Prop where
  hr : PySem.W.findIn K (.ref C) rn = some none
  h1 : ∃ fo, PySem.W.findIn K (.type "int") nm = some fo
  h2 : ∃ ro, PySem.W.findIn K (.type "int") rn = some ro
  hs : PySem.W.subIn K (.type "int") (.ref C) = some false
theorem op_ownI {CX : CXT} {op : Operator} {C g : Addr} {k : Nat} {sp : Sp} {E : XK} (F : OwnF X.K C g (PySem.dunder op.info.2)) (J : OwnI X.K C (PySem.dunder op.info.2) (PySem.dunderR op.info.2)) (hc : PySem.W.selfFirst X.K C = true) (f : FnR X.prog X.w X.K X.mg X.base CX k g sp) (hr : Room k X.A) (hx : Passes CX X E) : OpR X (binaryOp op) (rOwnI X.K C sp E) := by
  intro pins s σ H x y v u Q I rx ry h
  obtain ⟨a, dx, vs, n, rfl, rfl, ha, q⟩ := h
  cases (show v = Value.ref a from rx)
  obtain ⟨t, rfl⟩ := ry
  obtain ⟨mA, O, _⟩ := ins_get I.hok ha
  obtain ⟨od, IA, _⟩ := O.look
  obtain ⟨m, hF⟩ := I.fr
  obtain ⟨fo, h1⟩ := J.h1
  obtain ⟨ro, h2⟩ := J.h2
  refine PySem.W.ksp_binT (op := op) (T := "int") hF I.ok.mod.kin IA rfl hc F.at_ F.fn J.hr (.inl rfl) h1 h2 J.hs ?_
  refine wpAny_mono (wpAny_call (run_fnR (us := [.ref a, .int n t]) (vs := [.ref a, .int n]) f hr hx I (.cons rfl (.cons ⟨t, rfl⟩ .nil)) q)) (fun w s' z => ?_) fun _ _ x => x
  obtain ⟨z', H', I', rz, qz⟩ := z
  exact SlX.cmpback rz ⟨z', H', I', rz, qz⟩
end
/-! ### enumerate -/
theorem meets_enum1 {v : Value} {o : Obj} {H : Heap → Prop} (B : Begins v o H) :
    Meets (Builtin.«enumerate.__new__» ⟨[.type "enumerate", v], []⟩) (fun _ R s => H s.heap ∧
      R (.ok (.ret (.ref (s.heap.push o).objs.size))) { s with heap := (s.heap.push o).push { cls := .type "enumerate", data := .fields #[.none, .bool false, .ref s.heap.objs.size, rawInt 0, .none, .none] } }) :=
  .of_wp fun prog w A R s h => by
    obtain ⟨hp, g, d, tk, os⟩ := s; obtain ⟨h1, h⟩ := h
    have hsub := sub_enumerate
    have q1 : ∀ {A' : Around} {E : Value → Shared → Prop} {Q : Value → Shared → Prop}, Q (.ref hp.objs.size) ⟨hp.push o, g, d, tk, os⟩ → wpAny (model prog w) A' (pyIter v) Q E ⟨hp, g, d, tk, os⟩ :=
      fun q => B.iter prog w _ _ ⟨hp, g, d, tk, os⟩ _ h1 q
    wp_walk using q1
    refine wpAny_stack_any fun st => wpAny_pure ?_
    split
    · rename_i c _ _ _ _ _
      cases (c == Value.type "enumerate")
      · wp_walk using q1
        exact ⟨_, rfl, h⟩
      · wp_walk using q1
        exact ⟨_, rfl, h⟩
    · wp_walk using q1
      exact ⟨_, rfl, h⟩
theorem enum1_begins {prog : Program} {w : World} {A : Around} {E : Value → Shared → Prop} {s : Shared} {v : Value} {o : Obj} {H : Heap → Prop} {Q : Value → Shared → Prop} (B : Begins v o H) (h1 : H s.heap)
    (h : ∀ h', IsEnum h' (s.heap.objs.size + 1) s.heap.objs.size 0 .none → h'.get? s.heap.objs.size = some o → h'.objs.size = s.heap.objs.size + 2 →
      (∀ b o, s.heap.get? b = some o → h'.get? b = some o) → Q (.ref (s.heap.objs.size + 1)) { s with heap := h' }) :
    wpAny (model prog w) A (call (.type "enumerate") [v]) Q E s := by
  refine callType_new F.called_enumerate (by decide) (F.typeCall_enumerate_1 _) (F.newCall_enumerate_1 _) (fun obj => F.args_object_init_2 obj _) F.entry_enumerate_new
    (meets_enum1 B) ⟨h1, ?_⟩
  have hz : (s.heap.push o).objs.size = s.heap.objs.size + 1 := Heap.size_push ..
  show _ ∧ _
  rw [hz]
  have he : IsEnum ((s.heap.push o).push { cls := .type "enumerate", data := .fields #[.none, .bool false, .ref s.heap.objs.size, rawInt 0, .none, .none] }) (s.heap.objs.size + 1) s.heap.objs.size 0 .none := by
    have := Heap.get?_push_size (s.heap.push o) (o := { cls := .type "enumerate", data := .fields #[.none, .bool false, .ref s.heap.objs.size, rawInt 0, .none, .none] }) rfl
    rw [hz] at this; exact this
  refine ⟨⟨_, he, rfl⟩, h _ he (Heap.get?_push_of_some _ (Heap.get?_push_size _ B.free)) (by rw [Heap.size_push, hz]) fun b o x => Heap.get?_push_of_some _ (Heap.get?_push_of_some _ x)⟩
def IteG (K : PySem.W.Frag) (x : Src) : It :=
  ⟨fun i H => ∃ (xs : List V) (y : V), x.Has K H xs ∧ xs[i]? = some y,
   fun i H v H' => ∃ T y, v = .ref T ∧ H T = none ∧ H' = upd H T (.tup [.int (i : Nat), y]) ∧ ∀ xs, x.Has K H xs → xs[i]? = some y,
   fun i H => ∃ xs : List V, x.Has K H xs ∧ xs.length = i⟩
theorem turn_enumG {P : Program} {w : World} {K : PySem.W.Frag} {elts : List Expr} {kk : Nat} {tpos : Pos} {x : Src} {N : Addr} (ha : ∀ c ∈ x.addr, c < N) :
    Turn P w K (.Tuple elts kk tpos) (IteG K x) [N + 1, N] (N + 1) (fun i h => (∃ old, IsEnum h (N + 1) N ((i : Nat) : Int) old) ∧ x.At h N i) where
  mem := by simp
  obj := fun i h st b hb => by
    obtain ⟨⟨old, he⟩, hi⟩ := st
    have e' : b = N + 1 ∨ b = N := by simpa using hb
    rcases e' with z | z
    · rw [z]; exact ⟨_, he, fun v q => nomatch q⟩
    · rw [z]; exact hi.obj
  keep := fun i h h' st k => by
    obtain ⟨⟨old, he⟩, hi⟩ := st
    exact ⟨⟨old, k _ (by simp) _ he⟩, hi.keep fun o q => k N (by simp) o q⟩
  item := by
    intro X hP hw hK hc i pins s σ H E I hf st hg
    subst hP hw hK
    obtain ⟨⟨old, he⟩, hit⟩ := st
    obtain ⟨xs, y, hq, hx⟩ := hg
    have hh : X.A.in1.handled = none := I.ok.hd hc
    obtain ⟨P1, S1, D1, s1, k1, r1⟩ := src_draws I hh hq hit fun c hm => Nat.ne_of_lt (ha c hm)
    have hel : N + 1 < s.heap.objs.size := Heap.lt_size he
    have hi1 := (List.getElem?_eq_some_iff.mp hx).1
    refine wpAny_pyNext_enum_itemD D1 he s1 hi1 (Nat.succ_ne_self N) (fun hm => ?_) fun u h' tk p1 ho h1' hT hsz hk => ?_
    · rcases List.mem_cons.mp hm with e | hm
      · exact Nat.succ_ne_self N e
      · exact absurd (ha _ hm) (Nat.not_lt.mpr (Nat.le_succ N))
    obtain ⟨y1, e1, ru1⟩ := r1 i u p1
    rw [hx] at e1; cases e1
    refine ⟨_, rfl, wpAny_letOwnedTupleGo_enum (s := { s with heap := h', toks := tk + 1 }) ho fun h'' he' sb => ?_⟩
    have hT2 : h''.get? s.heap.objs.size = some { cls := .type "tuple", data := .seq #[.int i tk, u] } := (sb.2 _ (Nat.ne_of_gt hel)).trans hT
    have new : ObjOk X.prog X.w (upd H s.heap.objs.size (.tup [.int (i : Nat), y])) h'' s.heap.objs.size (.tup [.int (i : Nat), y]) :=
      ⟨by show 2 ≤ sizeLine; decide, [.int i tk, u], .cons ⟨_, rfl⟩ (.cons ru1 .nil), ⟨_, hT2, rfl, _, rfl⟩⟩
    have I1 : Inv X pins σ (upd H s.heap.objs.size (.tup [.int (i : Nat), y])) { s with heap := h'', toks := tk + 1 } :=
      I.turnedNew (ch := [N + 1, N]) (fun b ob hb q => (sb.2 b (fun z => hb (by simp [z]))).trans (hk b ob (fun z => hb (by simp [z])) (fun z => hb (by simp [z])) q)) hf (Nat.le_refl _) new
    refine ⟨.ref s.heap.objs.size, _, I1, rfl, ⟨_, y, rfl, I.hok.fresh (Nat.le_refl _), rfl, fun l hl => by rw [src_inj I hl hq]; exact hx⟩, ⟨⟨u, ?_⟩, (k1 _ _ h1').keep fun o q => (sb.2 N (Ne.symm (Nat.succ_ne_self N))).trans q⟩, fun b hb => ?_⟩
    · have e1 : ((i + 1 : Nat) : Int) = (i : Int) + 1 := by omega
      rw [e1]; exact he'
    · have hb' : b < s.heap.objs.size := by
        have e' : b = N + 1 ∨ b = N := by simpa using hb
        rcases e' with z | z
        · rw [z]; exact hel
        · rw [z]; exact Nat.lt_of_succ_lt hel
      rw [upd_ne (Nat.ne_of_lt hb')]
      exact (hf b hb).1
  done := by
    intro X hP hw hK hc i pins s σ H E I hf st hg
    subst hP hw hK
    obtain ⟨⟨old, he⟩, hit⟩ := st
    obtain ⟨xs, hq, rfl⟩ := hg
    have hh : X.A.in1.handled = none := I.ok.hd hc
    obtain ⟨P1, S1, D1, s1, k1, r1⟩ := src_draws I hh hq hit fun c hm => Nat.ne_of_lt (ha c hm)
    exact wpAny_pyNext_enum_endD D1 he s1 fun h' hk => ⟨rfl, I.turnedL (t' := s.toks) (ch := [N + 1, N]) (fun c o hb q => hk c o (fun q' => hb (by simp [q'])) q) hf⟩
  self := fun A i s Q E st h => let ⟨⟨_, he⟩, _⟩ := st; wpAny_pyIter_enum he h
def iEnumG (K : PySem.W.Frag) (ta : TA) : TI := fun σ H R => ta σ H fun vs H1 => ∃ (x : Src) (xs : List V), vs = [x.v] ∧ x.Has K H1 xs ∧ R (IteG K x) H1
theorem pi_enumG {X : Cx} {e : Expr} {ta : TA} {p pos tpos : Pos} {elts : List Expr} {kk : Nat} (hg : Gl X "enumerate") (hm : X.mg "enumerate" = none) (ha : PA X [e] ta) (hs : starEach [e] X.env = [(false, eval e X.env)] := by rfl) :
    PI X (.Tuple elts kk tpos) (.Call (.Name "enumerate" p) [e] [] pos) (iEnumG X.K ta) := by
  refine ⟨fun pins s σ H R I h => ?_⟩
  refine PyProof.Rows.Call_ (ld_blt I hg hm PyProof.Rows.boot_enumerate (PyProof.Rows.callWith_type1 (thn (ha.run pos pins s σ H _ I h) fun us s1 ⟨vs, H1, I1, r1, q1⟩ => ?_) hs rfl))
  obtain ⟨x, xs, ex, hq, q⟩ := q1
  subst ex
  cases r1 with
  | cons r rr =>
    cases rr
    obtain ⟨o1, Hh1, B1, g1, l1, a1⟩ := src_begins I1 hq r
    refine enum1_begins B1 g1 fun h' he hit hsz hk => wpAny_pyIter_enum he ?_
    have I2 : Inv X pins σ H1 { s1 with heap := h' } := I1.kept (t' := s1.toks) hk
    refine ⟨s1.heap.objs.size + 1, [s1.heap.objs.size + 1, s1.heap.objs.size], _, _, H1, rfl, I2, turn_enumG l1, ⟨⟨.none, he⟩, a1 _ _ hit⟩, fun b hb => ?_, q⟩
    have e' : b = s1.heap.objs.size + 1 ∨ b = s1.heap.objs.size := by simpa using hb
    have hle : s1.heap.objs.size ≤ b := by
      rcases e' with z | z
      · rw [z]; exact Nat.le_add_right _ _
      · rw [z]; exact Nat.le_refl _
    exact I1.fpOk hle (I1.hok.fresh hle)
def enumP : Nat → List P → List P
  | _, [] => []
  | k, p :: ps => .tup [.int (k : Int), p] :: enumP (k + 1) ps
theorem enumP_get : ∀ {ps : List P} {k i : Nat} {r : P}, (enumP k ps)[i]? = some r → ∃ p, ps[i]? = some p ∧ r = .tup [.int ((k + i : Nat) : Int), p]
  | [], _, _, _, h => by simp [enumP] at h
  | p :: ps, k, 0, r, h => by cases h; exact ⟨p, rfl, rfl⟩
  | p :: ps, k, i + 1, r, h => by
    obtain ⟨q, h1, h2⟩ := enumP_get (ps := ps) (k := k + 1) (i := i) h
    exact ⟨q, h1, by rw [h2, show k + 1 + i = k + (i + 1) by omega]⟩
theorem enumP_len : ∀ (ps : List P) (k : Nat), (enumP k ps).length = ps.length
  | [], _ => rfl
  | p :: ps, k => by show (enumP (k + 1) ps).length + 1 = _; rw [enumP_len]; rfl
section
variable {K : PySem.W.Frag} {X : Cx} {m : Bool} {ta : TA} {da : dA} {e : Expr}
theorem itok_enum {B0 : Hp} {x : Src} {ps : List P} {vs : List V} (h1 : x.Has K B0 vs) (r1 : RpA K B0 ps vs) : ItOk K (IteG K x) B0 (enumP 0 ps) := fun B H i e1 e2 hle => by
  have g1 := h1.up (e1.trans e2)
  have l1 := r1.length
  have l3 := enumP_len ps 0
  refine ⟨fun p hp => ?_, fun hge => ⟨vs, g1, by omega⟩⟩
  obtain ⟨p1, k1, rfl⟩ := enumP_get hp
  obtain ⟨v1, w1, z1⟩ := r1.get k1
  refine ⟨⟨vs, v1, g1, w1⟩, fun z H2 hz => ?_⟩
  obtain ⟨T, a, rfl, hT, rfl, f1⟩ := hz
  have := f1 vs g1
  rw [w1] at this; cases this
  have g := gr_new (o := .tup [.int (i : Nat), v1]) e2 hT
  exact ⟨_, g, T, [.int (i : Nat), v1], rfl, SqT.of upd_same, .int (i : Nat), [v1], rfl, by rw [Nat.zero_add]; rfl, v1, [], rfl, Rp.mono (e1.trans g.b) _ z1, rfl⟩
def enumQ (as : List AR) (f : List P → Prop) : Prop := match as with
  | [.inl p] => (match pseq p with
    | some ps => f (enumP 0 ps)
    | none => False)
  | _ => False
def diEn (da : dA) : dI := fun env Q => da env fun as e => enumQ as fun ps => Q ps e
theorem snd_ien (h : SndA m K ta da) : SndI m K (iEnumG K ta) (diEn da) := ⟨fun {B H σ env G QD R} w q k => h.run w q fun as e vs B1 H1 G1 q1 w1 r1 s1 u1 => by
  change enumQ as fun ps => QD ps e at q1
  unfold enumQ at q1
  split at q1
  · rename_i p
    split at q1
    · rename_i ps hp
      obtain ⟨v, l, rfl, z1, z3⟩ := r1
      cases (show l = [] from z3)
      obtain ⟨x, vs, rfl, f1, f2⟩ := pseq_src z1 hp
      exact ⟨x, vs, rfl, f1.up w1.ex, k _ e B1 H1 G1 _ q1 w1 s1 u1 (itok_enum f1 f2)⟩
    · exact q1.elim
  · exact q1.elim⟩
theorem di_enum {p pos tpos : Pos} {elts : List Expr} {kk : Nat} (hg : Gl X "enumerate") (hm : X.mg "enumerate" = none) (ha : DA m X [e] ta da) (hs : starEach [e] X.env = [(false, eval e X.env)] := by rfl) :
    DI m X (.Tuple elts kk tpos) (.Call (.Name "enumerate" p) [e] [] pos) (iEnumG X.K ta) (diEn da) := ⟨pi_enumG hg hm ha.pe hs, snd_ien ha.sd⟩
end
end DL
set_option Elab.async false
set_option linter.all false
set_option maxRecDepth 100000
namespace DL
open PySem PySem.Spec L2
/-! ### errors: what is raised, over data -/
/-- an own error with one field -/
structure Xn where
  C : Addr
  f : Str
  p : P
abbrev FXp := List D → (Xn → Prop) → Prop
/-- the way out is open to what RD says -/
def HE [Rf] (K : PySem.W.Frag) (RD : Xn → Prop) (E : XK) : Prop := ∀ (x : Xn) (dd : Addr) (v : V) (B H : Hp), RD x → Ex Rf.R B → Ex B H → B dd = none → H dd = some (.xd [(x.f, v)]) → Rp K B x.p v → E (.ref x.C) (some dd) H
theorem HE.no [Rf] {K : PySem.W.Frag} {E : XK} : HE K (fun _ => False) E := fun _ _ _ _ _ h => h.elim
def spR (K : PySem.W.Frag) (fx : FXp) : Sp := fun vs H _ E => ∃ B ds G RD, Wd0 K B H (vs.map some) (ds.map some) G ∧ fx ds RD ∧ @HE ⟨B⟩ K RD E
/-- it ends, or an error leaves -/
def spX (K : PySem.W.Frag) (fs : FSp) (fx : FXp) : Sp := fun vs H Q E => spD K fs vs H Q E ∨ spR K fx vs H Q E
section
variable {P' : Program} {w' : World} {K : PySem.W.Frag} {mg : Str → Option Value} {base : Heap}
/-- a def that may raise keeps its promise over data -/
theorem Fun.okDX {x qual : Str} {st : Stmt} {f : Addr} {fd : FuncData} {N ps : List Str} {k : Nat} {fs : FSp} {fx : FXp} (pn : List Nat) (F : L2.Fun K x qual st f fd) (S : FnScope N ps (defScope st))
    (len : ∀ ds QD, fs ds QD → ds.length = ps.length ∧ lentOk pn 0 ds = true) (lenX : ∀ ds RD, fx ds RD → ds.length = ps.length)
    (hbody : ∀ [Rf] (cdv : Value) (A : Around) (outer : List PySem.Env) (s : Shared) (H : Hp) (E : XK) (RD : Xn → Prop), HE K RD E → Room k (A.deeper (PyProof.Rows.envOfC qual (defScope st) s.heap.objs.size f cdv)) →
      ∃ ts dS', DSs pn (cxOf (L2.CX P' w') P' w' K mg base N qual (defScope st) f cdv A outer s H E) (defBody st) ts dS' ∧
        (∀ ds QD, fs ds QD → dS' { nx := fun env => pn.all (has env) = true ∧ QD (.sh .non) (back pn env 0 ds), rt := fun d env => pn.all (has env) = true ∧ QD d (back pn env 0 ds) } (startE N ds)) ∧
        (∀ ds, fx ds RD → dS' { nx := fun _ => False, rt := fun _ _ => False } (startE N ds))) :
    FnOk P' w' K mg base (L2.CX P' w') (k + 1) f fd ps (spX K fs fx) := by
  refine F.okX S (fun vs H Q E h => ?_) (fun cdv A outer s H vs Q E hr h => ?_)
  · rcases h with ⟨B, ds, G, QD, w, h, _⟩ | ⟨B, ds, G, RD, w, h, _⟩
    · have := w.len
      rw [List.length_map, List.length_map] at this
      rw [← this]
      exact (len ds QD h).1
    · have := w.len
      rw [List.length_map, List.length_map] at this
      rw [← this]
      exact lenX ds RD h
  · rcases h with ⟨B, ds, G, QD, w, h, q⟩ | ⟨B, ds, G, RD, w, h, he⟩
    · obtain ⟨ts, dS', hd, hr', _⟩ := hbody cdv A outer s H E (fun _ => False) HE.no hr
      have hl := (len ds QD h).2
      refine ⟨ts, hd.pe, hd.sd.run (D := { nx := fun _ H' => Q .non H', rt := Q }) (Wd.start (N := N) w (rf0_ex B)) (hr' ds QD h) ?_ ?_ (fun _ _ _ _ _ h => h.elim) (fun _ _ _ _ _ h => h.elim)⟩
      · intro env' σ' B' H' G' hq wq sq pq
        have wb := Wd.back w sq.ex wq pq hl hq.1
        exact q _ _ .non [] B' H' _ hq.2 wb ⟨⟨rfl, rfl⟩, List.nodup_nil, fun _ h => absurd h List.not_mem_nil, fun _ h => absurd h List.not_mem_nil, fun _ h => absurd h List.not_mem_nil⟩
          (sq.cut fun i a ha => by
            change a ∈ (if pn.contains i ∧ i < ds.length then G' i else []) at ha
            split at ha
            · exact ha
            · cases ha)
      · intro d env' σ' v F B' H' G' hq wq oq sq pq
        have wb := Wd.back w sq.ex wq pq hl hq.1
        refine q _ _ v F B' H' _ hq.2 wb ⟨oq.rp, oq.nd, oq.nb, oq.nw, fun a ha i hi => ?_⟩ (sq.cut fun i a ha => ?_)
        · change a ∈ (if pn.contains i ∧ i < ds.length then G' i else []) at hi
          split at hi
          · exact oq.ap a ha i hi
          · cases hi
        · change a ∈ (if pn.contains i ∧ i < ds.length then G' i else []) at ha
          split at ha
          · exact ha
          · cases ha
    · letI : Rf := ⟨B⟩
      obtain ⟨ts, dS', hd, _, hr'⟩ := hbody cdv A outer s H E RD he hr
      refine ⟨ts, hd.pe, hd.sd.run (D := { nx := fun _ H' => Q .non H', rt := Q }) (Wd.start (N := N) w (Ex.refl B)) (hr' ds h) ?_ ?_ (fun _ _ _ _ _ h => h.elim) (fun _ _ _ _ _ h => h.elim)⟩
      · intro env' σ' B' H' G' hq
        exact hq.elim
      · intro d env' σ' v F B' H' G' hq
        exact hq.elim
/-- what never raises here needs no way out -/
theorem FnOkX.plain {f : Addr} {fd : FuncData} {ps : List Str} {k : Nat} {fs : FSp} {fx : FXp} (F : FnOk P' w' K mg base (L2.CX P' w') k f fd ps (spX K fs fx)) : FnOk P' w' K mg base CX0 k f fd ps (spD K fs) :=
  ⟨fun vs H Q E h => F.len vs H Q E (.inl h), fun A outer s H args us vs Q E hr he hb hv hs =>
    codeAny_mono (F.run A outer s H args us vs Q (fun _ _ _ => False) hr he hb hv (.inl hs)) fun r s' hq => by
      cases r with
      | error e =>
        obtain ⟨_, _, _, _, _, _, _, _, _, _, _, _, z⟩ := hq
        exact z.elim
      | ok fl => cases fl <;> exact hq⟩
end
section
variable [Rf] {m : Bool} {pn : List Nat} {K : PySem.W.Frag} {te : TE} {de : dE} {ta : TA} {da : dA} {X : Cx} {a e : Expr} {es : List Expr} {pos : Pos} {E : XK} {RD : Xn → Prop}
/-! ### raise C(e), C's __init__ keeping e under f -/
/-- what such an __init__ does -/
def spErr (K : PySem.W.Frag) (C : Addr) (f : Str) : Sp := fun vs H Q _ => ∃ (x : Addr) (v : V), vs = [.ref x, v] ∧ OexC K C ∧ PySem.W.findIn K (.ref C) f = some none ∧ H x = some (exo x C none) ∧
  ∀ dx, H dx = none → dx ≠ x → Q .non (upd (upd H dx (exd dx [(f, v)])) x (exo x C (some dx)))
abbrev tErr (K : PySem.W.Frag) (C : Addr) (f : Str) (E : XK) (ta : TA) : TS := fun _ σ H => tMkO C (spErr K C f) [] ta σ H fun cls d H' => E cls d H'
def errQ (C : Addr) (f : Str) (RD : Xn → Prop) (as : List AR) : Prop := match as with
  | [.inl p] => RD ⟨C, f, p⟩
  | _ => False
def dErr (C : Addr) (f : Str) (RD : Xn → Prop) (da : dA) : dS := fun _ env => da env fun as _ => errQ C f RD as
theorem snd_err {C : Addr} {f : Str} (hE : HE K RD E) (T : OexC K C) (hf : PySem.W.findIn K (.ref C) f = some none) (h : SndA m K ta da) : SndS pn K (tErr K C f E ta) (dErr C f RD da) := ⟨fun {B H σ env G Dd D} w q n r k1 k2 => h.run w q fun as e vs B1 H1 G1 q1 w1 r1 s1 u1 => by
  change errQ C f RD as at q1
  unfold errQ at q1
  split at q1
  · rename_i p
    obtain ⟨v, l, rfl, z1, z2⟩ := r1
    cases (show l = [] from z2)
    refine ⟨Nat.le_of_ble_eq_true rfl, fun x hx => ⟨x, v, rfl, T, hf, upd_same, fun dx hd ne => ?_⟩⟩
    have hdx : H1 dx = none := by rw [upd_ne ne] at hd; exact hd
    refine ⟨rfl, dx, [(f, v)], upd_same, by rw [upd_ne ne]; exact upd_same, hdx, ?_⟩
    refine hE ⟨C, f, p⟩ dx v B1 _ q1 w1.rf (fun b o hb => ?_) (w1.ex.back hdx) upd_same z1
    have hb1 := w1.ex b o hb
    have nx := ne_of_none hb1 hx
    have nd := ne_of_none hb1 hdx
    rw [upd_ne nd, del_ne nx, upd_ne nx, upd_ne nd, upd_ne nx]
    exact hb1
  · exact q1.elim⟩
/-! ### f(..) that may raise: what it raises leaves -/
abbrev WO (E : XK) : WX := fun cls d _ H => E cls d H
def dCallX (fs : FSp) (fx : FXp) (RD : Xn → Prop) (da : dA) : dE := fun env Q => da env fun as e => match prs as with
  | some ps => pcall fs ps (fun z => Q z e) ∨ fx (ps.map D.sh) RD
  | none => False
theorem raise_sp {fx : FXp} {ps : List P} {vs : List V} {B H : Hp} {Q : VK} (hE : HE K RD E) (w : Ex Rf.R B) (ex : Ex B H) (r : RpA K B ps vs) (h : fx (ps.map D.sh) RD) : spR K fx vs H Q E :=
  ⟨H, _, _, RD, plain_wd (Ex.refl H) (RpA.mono ex ps r), h, fun x dd v B2 H2 hx e1 e2 hn hd rp => hE x dd v B2 H2 hx ((w.trans ex).trans e1) e2 hn hd rp⟩
theorem snd_callX {fs : FSp} {fx : FXp} (hE : HE K RD E) (h : SndA m K ta da) : SndE m K (tCallS (spX K fs fx) (WE (WO E)) ta) (dCallX fs fx RD da) := ⟨fun {B H σ env G QD Q} w q k => h.run w q fun as e vs B1 H1 G1 q1 w1 r1 s1 u1 => by
  change (match prs as with | some ps => pcall fs ps (fun z => QD z e) ∨ fx (ps.map D.sh) RD | none => False) at q1
  split at q1
  · rename_i ps hp
    rcases q1 with q1 | q1
    · exact .inl (callPP w1.ex (r1.all hp) q1 fun z v B' H' qz rz gg => k z e v B' H' G1 qz (w1.gr gg) rz (s1.trans gg.stp) (u1.trans (.gr gg)))
    · exact .inr (raise_sp hE w1.rf w1.ex (r1.all hp) q1)
  · exact q1.elim⟩
theorem ds_err {C : Addr} {f : Str} {st : Stmt} (h : PA X [e] ta → PS X st (tErr X.K C f E ta)) (hE : HE X.K RD E) (T : OexC X.K C) (hf : PySem.W.findIn X.K (.ref C) f = some none) (ha : DA false X [e] ta da) : DS pn X st (tErr X.K C f E ta) (dErr C f RD da) := ⟨h ha.pe, snd_err hE T hf ha.sd⟩
theorem de_callX {fs : FSp} {fx : FXp} {e0 : Expr} (h : PA X (e0 :: es) ta → PE X a (tCallS (spX X.K fs fx) (WE (WO E)) ta)) (hE : HE X.K RD E) (ha : DA m X (e0 :: es) ta da) : DE m X a (tCallS (spX X.K fs fx) (WE (WO E)) ta) (dCallX fs fx RD da) := ⟨h ha.pe, snd_callX hE ha.sd⟩
end
end DL
set_option Elab.async false
set_option linter.all false
set_option maxRecDepth 100000
namespace DL
open PySem PySem.Spec L2
/-! ### what may raise, in a try: the way out knows the slots -/
section
variable {X : Cx} {CT : CXT} {k : Nat} {C g : Addr} {gd : FuncData} {prm : List Str} {sp : Sp} {Eσ : St → XK} {nm : Str} {p1 p2 : Pos} {a0 fx0 : Expr} {as0 : List Expr} {tf : TE} {ta : TA}
theorem make_at {pins : List (Addr × Obj)} {σ : St} {H : Hp} {s : Shared} {Q : VK} {us : List Value} {vs : List V} (cm : Mk X.K C g) (ok : FnOk X.prog X.w X.K X.mg X.base CT k g gd prm sp) (room : Room (k + 1) X.A) (bn : Binds X.K gd prm []) (pass : PassesAt CT X σ (Eσ σ))
    (iv : Inv X pins σ H s) (rel : Vals vs us) (hsp : ∀ x dx, H x = none → H dx = none → dx ≠ x → sp (V.ref x :: vs) (upd (upd H dx (.own x)) x (.ins C dx [])) (fun v H2 => v = .non ∧ Q (.ref x) H2) (Eσ σ)) :
    wpAny (model X.prog X.w) X.A (call (.ref C) us) (EP X pins σ Q) X.xe s := by
  have n0 := iv.hok.fresh (Nat.le_refl s.heap.objs.size)
  have n1 := iv.hok.fresh (Nat.le_succ s.heap.objs.size)
  have start := hsp _ _ n1 n0 (Nat.ne_of_lt (Nat.lt_succ_self _))
  have iv2 := Inv.made (C := C) iv
  have rel2 : Vals (V.ref (s.heap.objs.size + 1) :: vs) (Value.ref (s.heap.objs.size + 1) :: us) := .cons rfl rel
  have many : (Value.ref (s.heap.objs.size + 1) :: us).length = prm.length := (rel2.length).symm.trans (ok.len _ _ _ _ start)
  have bound := bn _ (Value.ref (s.heap.objs.size + 1) :: us) iv2.kIn (by rw [List.append_nil]; exact many)
  rw [List.append_nil] at bound
  refine wpAny_call (make_map (f := g) iv.kIn cm.makes cm.init (beq_iff_eq.mp cm.fn) (codeAny_mono (ok.run _ X.stack _ _ _ _ _ _ (Eσ σ) (room.make C us []) (iv2.env0.make C us []) bound rel2 start) fun res s2 out => ?_))
  cases res with
  | error u => exact pass pins _ _ u s2 iv2 out
  | ok fl =>
    cases fl with
    | ret u =>
      obtain ⟨v, H3, iv3, rv, ev, q3⟩ := iv2.after out
      subst ev
      exact ⟨rv, ⟨V.ref (s.heap.objs.size + 1), H3, iv3, rfl, q3⟩⟩
    | _ => exact out.elim
def tMakeS (C : Addr) (sp : Sp) (Eσ : St → XK) (ta : TA) : TE := fun σ H Q => ta σ H fun vs H1 => ∀ x dx, H1 x = none → H1 dx = none → dx ≠ x →
  sp (V.ref x :: vs) (upd (upd H1 dx (.own x)) x (.ins C dx [])) (fun v H2 => v = .non ∧ Q (.ref x) H2) (Eσ σ)
theorem pe_makeAt (cm : Mk X.K C g) (ok : FnOk X.prog X.w X.K X.mg X.base CT k g gd prm sp) (room : Room (k + 1) X.A) (gl : Gl X nm) (at_ : X.mg nm = some (.ref C)) (bn : Binds X.K gd prm []) (pass : ∀ σ, PassesAt CT X σ (Eσ σ)) (ha : PA X (a0 :: as0) ta)
    (hd : (nm == ("__debug__" : Str)) = false := by decide) (he : starEach (a0 :: as0) X.env = (false, eval a0 X.env) :: starEach as0 X.env := by rfl) (hp : (backTo p2 (starEach as0 X.env)).any (·.1) = false := by rfl) :
    PE X (.Call (.Name nm p1) (a0 :: as0) [] p2) (tMakeS C sp Eσ ta) :=
  ⟨fun pins s σ H Q iv h => wpAny_Call_Name_kw (ld_glob iv gl at_ (PySem.W.callWith_K (h₀ := X.base) iv.ok.mod.kin cm.kp (thn (ha.run p2 pins s σ H _ iv h) fun us s1 ⟨vs, H1, iv1, rel, q⟩ => ⟨iv1.kIn, make_at cm ok room bn (pass σ) iv1 rel q⟩) he hp) hd)⟩
theorem raw_at {pins : List (Addr × Obj)} {σ : St} {H : Hp} {s : Shared} {Q : VK} {us : List Value} {vs : List V} (ok : FnR X.prog X.w X.K X.mg X.base CT k g sp) (room : Room k X.A) (pass : PassesAt CT X σ (Eσ σ)) (iv : Inv X pins σ H s) (rel : Vals vs us) (hsp : sp vs H Q (Eσ σ)) :
    codeAny (model X.prog X.w) X.A (.call (.ref g) ⟨us, []⟩) (fun res s2 => match res with | .ok (.ret u) => EP X pins σ Q u s2 | .ok _ => False | .error u => X.xe u s2) s :=
  codeAny_mono (ok X.A X.stack s H us vs Q (Eσ σ) room iv.env0 rel hsp) fun res s2 out => by
    cases res with
    | error u => exact pass pins H s u s2 iv out
    | ok fl =>
      cases fl with
      | ret u => exact iv.after out
      | _ => exact out.elim
def tCallOS (C : Addr) (sp : Sp) (Eσ : St → XK) (tf : TE) (ta : TA) : TE := fun σ H Q => tf σ H fun y H1 => ∃ a, y = V.ref a ∧ ta σ H1 fun vs H2 => (∃ dx fl, H2 a = some (.ins C dx fl)) ∧ sp (V.ref a :: vs) H2 Q (Eσ σ)
theorem pe_callOAt (hf : PE X fx0 tf) (co : StX.CallO X.K C g) (ok : FnR X.prog X.w X.K X.mg X.base CT k g sp) (room : Room k X.A) (pass : ∀ σ, PassesAt CT X σ (Eσ σ)) (ha : PA X (a0 :: as0) ta)
    (ht : eval (.Call fx0 (a0 :: as0) [] p2) X.env = (do callWith p2 (← eval fx0 X.env) [] (backTo p2 (starEach (a0 :: as0) X.env)) (backToKw p2 (keywordEach [] X.env))) := by rfl)
    (he : starEach (a0 :: as0) X.env = (false, eval a0 X.env) :: starEach as0 X.env := by rfl) (hp : (backTo p2 (starEach as0 X.env)).any (·.1) = false := by rfl) : PE X (.Call fx0 (a0 :: as0) [] p2) (tCallOS C sp Eσ tf ta) :=
  ⟨fun pins s σ H Q iv h => PyProof.Rows.Call_ (thn (hf.run pins s σ H _ iv h) fun u s1 ⟨y, H1, iv1, ry, x, ey, q⟩ => by
    subst ey
    obtain rfl : u = Value.ref x := ry
    refine StX.callO_with (thn (ha.run p2 pins s1 σ H1 _ iv1 q) fun us s2 ⟨vs, H2, iv2, rel, hi, q2⟩ => ?_) he hp
    obtain ⟨dx, fl, hi⟩ := hi
    obtain ⟨ox, od, J, hd⟩ := StX.insC_at iv2 (.inr ⟨dx, fl, hi⟩)
    exact ⟨⟨C, ox, od, J, hd⟩, wpAny_call (PySem.W.kco_code iv2.kIn J hd co.at_ co.fn co.fi (raw_at (us := .ref x :: us) (vs := V.ref x :: vs) ok room (pass σ) iv2 (.cons rfl rel) q2))⟩) ht⟩
end
/-! ### a call that may raise, read as it is: it ends, or it raises -/
section
variable [Rf] {pn : List Nat} {K : PySem.W.Frag} {te : TE} {de : dE} {ta : TA} {da : dA} {X : Cx} {fs : FSp} {fx : FXp} {C : Addr}
structure CX1 (K : PySem.W.Frag) (tc : (St → XK) → TE) (rd : Env → (P → Prop) → (Xn → Prop) → Prop) : Prop where
  run : ∀ {B H : Hp} {σ : St} {env : Env} {G : Fp} {QN : P → Prop} {QX : Xn → Prop} {Q : VK} {E : St → XK}, Wd K B H σ env G → rd env QN QX →
    (∀ z v B' H', QN z → Rp K B' z v → Gr B H B' H' → Q v H') →
    (∀ x dd v B' H', QX x → Ex H B' → Ex B' H' → B' dd = none → H' dd = some (.xd [(x.f, v)]) → Rp K B' x.p v → E σ (.ref x.C) (some dd) H') → tc E σ H Q
def cxQ (fs : FSp) (fx : FXp) (QN : P → Prop) (QX : Xn → Prop) (as : List AR) : Prop := match prs as with
  | some ps => pcall fs ps QN ∨ fx (ps.map D.sh) QX
  | none => False
def cxCall (fs : FSp) (fx : FXp) (da : dA) : Env → (P → Prop) → (Xn → Prop) → Prop := fun env QN QX => da env fun as _ => cxQ fs fx QN QX as
theorem cx_call (h : SndA true K ta da) : CX1 K (fun E => tCallS (spX K fs fx) E ta) (cxCall fs fx da) := ⟨fun {B H σ env G QN QX Q E} w q kn kx => h.run w q fun as e vs B1 H1 G1 q1 w1 r1 s1 u1 => by
  obtain ⟨_, _, g⟩ := u1 rfl
  unfold cxQ at q1
  split at q1
  · rename_i ps hp
    rcases q1 with q1 | q1
    · exact .inl (callPP w1.ex (r1.all hp) q1 fun z v B' H' qz rz gg => kn z v B' H' qz rz (g.trans gg))
    · exact .inr ⟨H1, _, _, QX, plain_wd (Ex.refl H1) (RpA.mono w1.ex ps (r1.all hp)), q1, fun x dd v B2 H2 hx e1 e2 hn hd rp => kx x dd v B2 H2 hx (g.h.trans e1) e2 hn hd rp⟩
  · exact q1.elim⟩
/-- C(..) ends, over data -/
theorem make_sp {fs : FSp} {C : Addr} {ps : List P} {vs : List V} {B H : Hp} {QN : P → Prop} {Q : VK} {E : XK} (ex : Ex B H) (r : RpA K B ps vs)
    (q1 : fs (.oi C [] :: ps.map D.sh) fun d ds => match d, ds with | .sh .non, .oi C' fl :: _ => QN (.ins C' fl) | _, _ => False)
    (k : ∀ z v B' H', QN z → Rp K B' z v → Gr B H B' H' → Q v H') {x dx : Addr} (hx : H x = none) (hd : H dx = none) (ne : dx ≠ x) :
    spD K fs (V.ref x :: vs) (upd (upd H dx (.own x)) x (.ins C dx [])) (fun v H2 => v = .non ∧ Q (.ref x) H2) E := by
  refine ⟨B, _, _, _, make_wd ex hx hd ne r, q1, fun d ds v F B2 H2 G2 q2 w2 o2 s2 => ?_⟩
  split at q2
  · rename_i C' fl rest
    refine ⟨o2.rp.2, ?_⟩
    obtain ⟨v0, h0, a, dx', fv, e1, e2, e3, e4, e5⟩ := w2.sl 0 _ rfl
    have ev : V.ref x = v0 := Option.some.inj (Option.some.inj h0)
    rw [← ev] at e2
    cases e2
    -- plain from here on
    have nb : ∀ a ∈ G2 0, B2 a = none := fun a ha => w2.nb 0 a ha
    have fr := frz_gr w2.ex nb
    have hne : ∀ {a : Addr} {o : HO}, H a = some o → a ≠ x ∧ a ≠ dx := fun ha => ⟨ne_of_none ha hx, ne_of_none ha hd⟩
    have up : ∀ {a : Addr} {o : HO}, H a = some o → upd (upd H dx (.own x)) x (.ins C dx []) a = some o := fun ha => by rw [upd_ne (hne ha).1, upd_ne (hne ha).2]; exact ha
    have nG : ∀ {a : Addr} {o : HO}, H a = some o → ∀ i, a ∉ (fun i => if i = 0 then [x, dx] else [] : Fp) i := fun {a o} ha i hi => by
      change a ∈ (if i = 0 then [x, dx] else []) at hi
      split at hi
      · rcases List.mem_cons.mp hi with hi | hi
        · exact (hne ha).1 hi
        · exact (hne ha).2 (List.mem_singleton.mp hi)
      · cases hi
    have nF : ∀ {a : Addr} {o : HO}, H a = some o → a ∉ G2 0 := fun {a o} ha hi => by
      rcases s2.fp 0 a hi with ⟨j, hj⟩ | hn
      · exact nG ha j hj
      · rw [up ha] at hn; cases hn
    have g : Gr B H (frzB B2 H2 (G2 0)) H2 := ⟨s2.ex.trans fr.1, fun a o ha => s2.kp a o (up ha) (nG ha), fr.2, fun a o ha hn => by
      unfold frzB
      rw [if_neg (nF ha)]
      exact s2.bs a o (up ha) hn (nG ha)⟩
    refine k _ _ _ H2 q2 ?_ g
    refine ⟨x, dx', fv, rfl, ?_, RpF.mono fr.1 fl e5⟩
    unfold frzB
    rw [if_pos (by rw [e1]; exact List.mem_cons_self)]
    exact e3
  · exact q2.elim
def mkQ (C : Addr) (fs : FSp) (fx : FXp) (QN : P → Prop) (QX : Xn → Prop) (as : List AR) : Prop := match prs as with
  | some ps => (fs (.oi C [] :: ps.map D.sh) fun d ds => match d, ds with | .sh .non, .oi C' fl :: _ => QN (.ins C' fl) | _, _ => False) ∨ fx (.oi C [] :: ps.map D.sh) QX
  | none => False
def cxMake (C : Addr) (fs : FSp) (fx : FXp) (da : dA) : Env → (P → Prop) → (Xn → Prop) → Prop := fun env QN QX => da env fun as _ => mkQ C fs fx QN QX as
theorem cx_make (h : SndA true K ta da) : CX1 K (fun E => tMakeS C (spX K fs fx) E ta) (cxMake C fs fx da) := ⟨fun {B H σ env G QN QX Q E} w q kn kx => h.run w q fun as e vs B1 H1 G1 q1 w1 r1 s1 u1 => by
  obtain ⟨_, _, g⟩ := u1 rfl
  unfold mkQ at q1
  split at q1
  · rename_i ps hp
    rcases q1 with q1 | q1
    · exact fun x dx hx hd ne => .inl (make_sp w1.ex (r1.all hp) q1 (fun z v B' H' qz rz gg => kn z v B' H' qz rz (g.trans gg)) hx hd ne)
    · exact fun x dx hx hd ne => .inr ⟨H1, _, _, QX, make_wd (Ex.refl H1) hx hd ne (RpA.mono w1.ex ps (r1.all hp)), q1, fun x dd v B2 H2 hx e1 e2 hn hd rp => kx x dd v B2 H2 hx (g.h.trans e1) e2 hn hd rp⟩
  · exact q1.elim⟩
def coQ (fs : FSp) (fx : FXp) (C : Addr) (fl : List (Str × P)) (QN : P → Prop) (QX : Xn → Prop) (as : List AR) : Prop := match prs as with
  | some ps => pcall fs (.ins C fl :: ps) QN ∨ fx ((P.ins C fl :: ps).map D.sh) QX
  | none => False
def coP (C : Addr) (fs : FSp) (fx : FXp) (da : dA) (QN : P → Prop) (QX : Xn → Prop) (p : P) (e : Env) : Prop := match p with
  | .ins C' fl => C' = C ∧ da e fun as _ => coQ fs fx C fl QN QX as
  | _ => False
def cxCallO (C : Addr) (fs : FSp) (fx : FXp) (de : dE) (da : dA) : Env → (P → Prop) → (Xn → Prop) → Prop := fun env QN QX => de env fun p e => coP C fs fx da QN QX p e
theorem cx_callO (h : SndE true K te de) (ga : SndA true K ta da) : CX1 K (fun E => tCallOS C (fun vs H Q E => spX K fs fx (vs ++ []) H Q E) E te ta) (cxCallO C fs fx de da) := ⟨fun {B H σ env G QN QX Q E} w q kn kx => h.run w q fun p e v B1 H1 G1 q1 w1 r1 s1 u1 => by
  obtain ⟨_, _, g⟩ := u1 rfl
  cases p with
  | ins C' fl =>
    obtain ⟨rfl, q1⟩ := q1
    obtain ⟨a, dx, fv, rfl, h1, h2⟩ := id r1
    refine ⟨a, rfl, ga.run w1 q1 fun as e2 vs B2 H2 G2 q2 w2 r2 s2 u2 => ?_⟩
    obtain ⟨_, _, g2⟩ := u2 rfl
    have g12 := g.trans g2
    unfold coQ at q2
    split at q2
    · rename_i ps hp
      refine ⟨⟨dx, fv, w2.ex a _ (s2.ex a _ h1)⟩, ?_⟩
      show spX K fs fx ((V.ref a :: vs) ++ []) H2 Q (E σ)
      rw [List.append_nil]
      have rr : RpA K B2 (P.ins C' fl :: ps) (V.ref a :: vs) := ⟨_, vs, rfl, Rp.mono s2.ex _ r1, r2.all hp⟩
      rcases q2 with q2 | q2
      · exact .inl (callPP (ps := .ins C' fl :: ps) w2.ex rr q2 fun z v B' H' qz rz gg => kn z v B' H' qz rz (g12.trans gg))
      · exact .inr ⟨H2, _, _, QX, plain_wd (Ex.refl H2) (RpA.mono w2.ex _ rr), q2, fun x dd v B3 H3 hx e1 e2 hn hd rp => kx x dd v B3 H3 hx (g12.h.trans e1) e2 hn hd rp⟩
    · exact q2.elim
  | _ => exact q1.elim⟩
/-! ### try: a call .. except C as n: .. -/
end
section
variable {pn : List Nat} {K : PySem.W.Frag}
theorem wd_w {R1 R2 : Rf} (h : Ex R1.R R2.R) {B H : Hp} {σ : St} {env : Env} {G : Fp} (w : @Wd R2 K B H σ env G) : @Wd R1 K B H σ env G := @Wd.mk R1 K B H σ env G (@Wd.toWd0 R2 K B H σ env G w) (h.trans (@Wd.rf R2 K B H σ env G w))
theorem nx_w {R1 R2 : Rf} (h : Ex R1.R R2.R) {B H : Hp} {G : Fp} {σ : St} {nd : Env → Prop} {n : St → Hp → Prop} (a : @Nx R1 K pn B H G σ nd n) : @Nx R2 K pn B H G σ nd n :=
  fun env' σ' B' H' G' q w s p => a env' σ' B' H' G' q (wd_w h w) s p
theorem rt_w {R1 R2 : Rf} (h : Ex R1.R R2.R) {B H : Hp} {G : Fp} {σ : St} {rd : D → Env → Prop} {r : VK} (a : @Rt R1 K pn B H G σ rd r) : @Rt R2 K pn B H G σ rd r :=
  fun d env' σ' v F B' H' G' q w o s p => a d env' σ' v F B' H' G' q (wd_w h w) o s p
theorem run_w {R1 R2 : Rf} (h : Ex R1.R R2.R) {ts : TS} {ds : dS} (a : @SndS R2 pn K ts ds) {B H : Hp} {σ : St} {env : Env} {G : Fp} {Dd : dEnds} {D : Ends} (w : Wd0 K B H σ env G) (up : Ex R2.R B) (q : ds Dd env)
    (n : @Nx R1 K pn B H G σ Dd.nx D.nx) (r : @Rt R1 K pn B H G σ Dd.rt D.rt) (k1 : @Nx R1 K pn B H G σ Dd.bk D.bk) (k2 : @Nx R1 K pn B H G σ Dd.ct D.ct) : ts D σ H :=
  @SndS.run R2 pn K ts ds a B H σ env G Dd D (@Wd.mk R2 K B H σ env G w up) q (nx_w h n) (rt_w h r) (nx_w h k1) (nx_w h k2)
end
section
variable [rI : Rf] {pn : List Nat} {K : PySem.W.Frag} {te : TE} {de : dE} {ta : TA} {da : dA} {X : Cx} {fs : FSp} {fx : FXp} {C : Addr}
theorem nx_none {i : Nat} (hp : i ∉ pn) {B H : Hp} {G : Fp} {σ : St} {nd : Env → Prop} {n : St → Hp → Prop} (a : Nx K pn B H G σ nd n) : Nx K pn B H G σ (fun e => nd (e.set i none)) (fun σ' H' => n (σ'.set i none) H') :=
  fun env' σ' B' H' G' q w s p => a _ _ B' H' _ q ((w.drop i).setN fun d e => by
      rcases Nat.lt_or_ge i env'.length with hl | hl
      · rw [List.getElem?_set_self hl] at e; cases e
      · rw [List.getElem?_eq_none (by rw [List.length_set]; exact hl)] at e; cases e)
    (s.trans (stp_put fun _ h => absurd h List.not_mem_nil)) (p.trans (Pin.set hp))
/-- a value that is no object -/
def atomP : P → Prop
  | .non => True
  | .bl _ => True
  | .int _ => True
  | .str _ => True
  | _ => False
theorem atom_rp {p : P} {v : V} {B : Hp} (h : atomP p) (r : Rp K B p v) (B' : Hp) : Rp K B' p v := by
  cases p <;> first | exact r | exact h.elim
/-- what is asked of an error in the suite's view: its dict stands -/
abbrev rfX (x : Xn) (dd : Addr) (v : V) (r : Rf) : Rf := ⟨upd r.R dd (.xd [(x.f, v)])⟩
def tryX (K : PySem.W.Frag) (c : Value) (i : Nat) (dsu : Addr → Xn → dS) (RD : Xn → Prop) (Dd : dEnds) (env : Env) (x : Xn) : Prop :=
  atomP x.p ∧ ((PySem.W.exmOne K (.ref x.C) c = some true ∧ inE i env = true ∧ ∀ a, dsu a x { nx := fun e => Dd.nx (e.set i none), rt := Dd.rt, bk := fun e => Dd.bk (e.set i none), ct := fun e => Dd.ct (e.set i none) } (env.set i (some (.sh (.ob a))))) ∨
    (PySem.W.exmOne K (.ref x.C) c = some false ∧ RD x))
def dTry (K : PySem.W.Frag) (c : Value) (i : Nat) (rd : Env → (P → Prop) → (Xn → Prop) → Prop) (dsu : Addr → Xn → dS) (RD : Xn → Prop) : dS := fun Dd env => rd env (fun _ => Dd.nx env) (tryX K c i dsu RD Dd env)
theorem snd_try {c : Value} {i : Nat} {tc : (St → XK) → TE} {rd : Env → (P → Prop) → (Xn → Prop) → Prop} {ts : Addr → Value → Option Addr → TS} {dsu : Addr → Xn → dS} {RD : Xn → Prop} {E : XK} (hE : HE K RD E) (hp : i ∉ pn) (hc : CX1 K tc rd)
    (hsu : ∀ (a : Addr) (x : Xn) (dd : Addr) (v : V) (r : Rf), (∀ B, Rp K B x.p v) → r.R dd = none → @SndS (rfX x dd v r) pn K (ts a (.ref x.C) (some dd)) (dsu a x)) :
    SndS pn K (fun D σ H => tDrop (tc (WE (wAs K c i ts (WO E) D))) D σ H) (dTry K c i rd dsu RD) := ⟨fun {B H σ env G Dd D} w q n r k1 k2 => by
  refine hc.run w q (fun z v B' H' qz rz gg => n env σ B' H' G qz (w.gr gg) gg.stp .refl) fun x dd v B' H' qx e1 e2 hn hd rp => ?_
  obtain ⟨hat, ⟨hm, hi, hs⟩ | ⟨hm, hr⟩⟩ := qx
  · refine ⟨true, hm, fun _ a ha => ?_, fun h => by cases h⟩
    have hH : H dd = none := e1.back hn
    have hB : B dd = none := w.ex.back hH
    have hR : Rf.R dd = none := w.rf.back hB
    have g : Gr B H (upd B dd (.xd [(x.f, v)])) H' := ⟨fun b o h => by rw [upd_ne (ne_of_none h hB)]; exact h, e1.trans e2, fun b o h => by
      by_cases e : b = dd
      · subst e; rw [upd_same] at h; cases h; exact hd
      · rw [upd_ne e] at h; exact e2 b o (e1 b o (w.ex b o h)), fun b o h hb => by rw [upd_ne (ne_of_none h hH)]; exact hb⟩
    have w2 := w.gr g
    have hi' := inE_lt hi
    have s4 : Stp B H G (upd B dd (.xd [(x.f, v)])) H' (fun j => if j = i then [] else G j) := g.stp.trans (stp_put fun _ h => absurd h List.not_mem_nil)
    have p4 : Pin pn σ (σ.set i (some (V.ref a))) := Pin.set hp
    have up : Ex Rf.R (upd Rf.R dd (.xd [(x.f, v)])) := fun b o h => by rw [upd_ne (ne_of_none h hR)]; exact h
    have w4 := w2.putS (p := .ob a) (v := V.ref a) hi' rfl
    have up2 : Ex (upd Rf.R dd (.xd [(x.f, v)])) (upd B dd (.xd [(x.f, v)])) := fun b o h => by
      by_cases e : b = dd
      · subst e
        rw [upd_same] at h ⊢; exact h
      · rw [upd_ne e] at h ⊢; exact w.rf b o h
    exact run_w (R1 := rI) (R2 := rfX x dd v rI) up (hsu a x dd v rI (fun B => atom_rp hat rp B) hR) w4.toWd0 up2 (hs a) (nx_none hp (n.at s4 p4)) (r.at s4 p4) (nx_none hp (k1.at s4 p4)) (nx_none hp (k2.at s4 p4))
  · exact ⟨false, hm, fun h => (by cases h), fun _ => hE x dd v B' H' hr (w.rf.trans (w.ex.trans e1)) e2 hn hd rp⟩⟩
end
section
variable {K : PySem.W.Frag} {te : TE} {de : dE}
/-- n.f, n the error in hand -/
def dXf (a : Addr) (x : Xn) (f : Str) (de : dE) : dE := fun env Q => de env fun p e => (match p with | .ob b => b = a | _ => False) ∧ f = x.f ∧ Q x.p e
theorem snd_xf {m : Bool} {a dd : Addr} {x : Xn} {v : V} {f : Str} {r : Rf} (hv : ∀ B, Rp K B x.p v) (h : @SndE (rfX x dd v r) m K te de) : @SndE (rfX x dd v r) m K (tXf a (.ref x.C) (some dd) x.C f te) (dXf a x f de) := by
  letI : Rf := rfX x dd v r
  exact ⟨fun {B H σ env G QD Q} w q k => h.run w q fun p e u B1 H1 G1 q1 w1 r1 s1 u1 => by
    obtain ⟨hp, hf, q1⟩ := q1
    subst hf
    cases p with
    | ob b =>
      subst hp
      refine ⟨r1, rfl, dd, [(x.f, v)], v, rfl, w1.ex dd _ (w1.rf dd _ upd_same), ?_, k x.p e v B1 H1 G1 q1 w1 (hv B1) s1 u1⟩
      rw [List.lookup, beq_self_eq_true]
    | _ => exact hp.elim⟩
end
end DL
set_option Elab.async false
set_option linter.all false
set_option maxRecDepth 100000
namespace DL
open PySem PySem.Spec L2
/-! ### isinstance of an error that has a dict -/
abbrev rIsD (K : PySem.W.Frag) (cls : Value) (d : Option Addr) (a : Addr) : List V → Hp → VK → Prop := fun xs H Q => ∃ (D dd : Addr) (c : V) (cv : Value) (b : Bool) (fs : List (Str × V)),
  cls = .ref D ∧ d = some dd ∧ ExcC K D ∧ xs = [.ref a, c] ∧ (∀ u, RelV c u → u = cv) ∧ H dd = some (.xd fs) ∧ PySem.W.kitOne K (.ref D) cv = some b ∧ Q (.bl b) H
theorem call_isD {X : Cx} {a : Addr} {oe : Obj} {cls : Value} {d : Option Addr} {pn : List (Addr × Obj)} (hz : Zc cls d oe) (hf : ∃ vs, oe.data = .fields vs) : CallR (X.suite a ((a, oe) :: pn)) (.builtin "isinstance") (rIsD X.K cls d a) := by
  intro pins s σ H xs us Q iv rel h
  obtain ⟨D, dd, c, cv, b, fs, rfl, rfl, E, rfl, hcv, hdd, kit, q⟩ := h
  cases rel with
  | cons rx rr =>
    cases rr with
    | cons rt rr =>
      cases rr
      cases rx
      have ec := hcv _ rt
      subst ec
      obtain ⟨here, _⟩ := iv.pin (a, oe) (List.mem_append.mpr (.inl List.mem_cons_self))
      have ob : ObjOk X.prog X.w H s.heap dd (.xd fs) := iv.hok dd _ hdd
      obtain ⟨mA, hns, hr⟩ := ob
      obtain ⟨od, ho, _⟩ := lookIn_ns hns
      obtain ⟨vs, hv⟩ := hf
      have J : PySem.W.InstAt s.heap a oe D (some od) := ⟨here, hz.1, by unfold PySem.W.notCls; rw [hv] <;> rfl, by rw [hz.2]; exact ho⟩
      have hcl : (PySem.W.clsIn X.K D).isSome = true := by obtain ⟨cd, hc, _⟩ := PySem.W.any_some E.hd; rw [hc]; rfl
      exact PySem.W.kia_one (PySem.W.kitx_exc hcl E.hg E.hk E.hs E.ha E.hn E.ht E.hm) iv.kIn J kit (fun z => nomatch z) fun tk => ⟨.bl b, H, iv.kept (t' := tk) fun _ _ z => z, rfl, q⟩
/-! ### in an except suite: the error in hand -/
section
variable {m : Bool} {pn : List Nat} {X : Cx} {te : TE} {de : dE} {ta : TA} {da : dA} {e e0 : Expr} {es : List Expr} {pos : Pos} {a dd C : Addr} {oe : Obj} {cls : Value} {d : Option Addr} {pins : List (Addr × Obj)} {x : Xn} {v : V} {r : Rf} {f : Str}
def isOb (a : Addr) (p : P) : Prop := match p with
  | .ob b => b = a
  | _ => False
def dXe (cls : Value) (d : Option Addr) (a dd C : Addr) (x : Xn) (f : Str) (de : dE) : dE := fun env Q => de env fun p e => isOb a p ∧ cls = .ref C ∧ x.C = C ∧ d = some dd ∧ f = x.f ∧ Q x.p e
theorem de_xe (T : XfC X.K C) (hno : PySem.W.findIn X.K (.ref C) f = some none) (hz : Zc cls d oe) (hf : ∃ vs, oe.data = .fields vs) (hv : ∀ B, Rp X.K B x.p v) (h : @DE (rfX x dd v r) m (X.suite a ((a, oe) :: pins)) e te de)
    (hb : attributeBase e f X.env (eval e X.env) = eval e X.env := by rfl) : @DE (rfX x dd v r) m (X.suite a ((a, oe) :: pins)) (.Attribute e f pos) (tXf a cls d C f te) (dXe cls d a dd C x f de) := by
  letI : Rf := rfX x dd v r
  refine ⟨pe_xf T hno hz hf h.pe hb, ⟨fun {B H σ env G QD Q} w q k => h.sd.run w q fun p e u B1 H1 G1 q1 w1 r1 s1 u1 => ?_⟩⟩
  obtain ⟨hp, hc, hC, hd, hf, q1⟩ := q1
  subst hf
  cases p with
  | ob b =>
    cases (show b = a from hp)
    refine ⟨r1, hc, dd, [(x.f, v)], v, hd, w1.ex dd _ (w1.rf dd _ upd_same), ?_, k x.p e v B1 H1 G1 q1 w1 (hv B1) s1 u1⟩
    rw [List.lookup, beq_self_eq_true]
  | _ => exact hp.elim
def clsV (p : P) : Option Value := match p with
  | .ob b => some (.ref b)
  | .ty n => some (.type n)
  | _ => none
def isdQ (K : PySem.W.Frag) (cls : Value) (d : Option Addr) (a dd : Addr) (x : Xn) (Q : P → Env → Prop) (as : List AR) (e : Env) : Prop := match as with
  | [.inl p, .inl c] => isOb a p ∧ cls = .ref x.C ∧ d = some dd ∧ ExcC K x.C ∧ ∃ cv k, clsV c = some cv ∧ PySem.W.kitOne K (.ref x.C) cv = some k ∧ Q (.bl k) e
  | _ => False
def dIsd (K : PySem.W.Frag) (cls : Value) (d : Option Addr) (a dd : Addr) (x : Xn) (da : dA) : dE := fun env Q => da env fun as e => isdQ K cls d a dd x Q as e
theorem de_isd (h : PA (X.suite a ((a, oe) :: pins)) (e0 :: es) ta → PE (X.suite a ((a, oe) :: pins)) e (tCB (rIsD X.K cls d a) ta)) (ha : @DA (rfX x dd v r) m (X.suite a ((a, oe) :: pins)) (e0 :: es) ta da) :
    @DE (rfX x dd v r) m (X.suite a ((a, oe) :: pins)) e (tCB (rIsD X.K cls d a) ta) (dIsd X.K cls d a dd x da) := by
  letI : Rf := rfX x dd v r
  refine ⟨h ha.pe, ⟨fun {B H σ env G QD Q} w q k => ha.sd.run w q fun as e vs B1 H1 G1 q1 w1 r1 s1 u1 => ?_⟩⟩
  unfold isdQ at q1
  split at q1
  · rename_i p c
    obtain ⟨hp, hc, hd, E, cv, b, hcv, kit, q1⟩ := q1
    obtain ⟨v1, l1, rfl, z1, v2, l2, rfl, z2, z3⟩ := r1
    cases (show l2 = [] from z3)
    cases p with
    | ob b1 =>
      have z1 : v1 = V.ref a := by rw [← show b1 = a from hp]; exact z1
      subst z1
      refine ⟨x.C, dd, v2, cv, b, [(x.f, v)], hc, hd, E, rfl, fun u hu => ?_, w1.ex dd _ (w1.rf dd _ upd_same), kit, k (.bl b) e (.bl b) B1 H1 G1 q1 w1 rfl s1 u1⟩
      cases c with
      | ob b2 =>
        cases hcv
        cases (show v2 = V.ref b2 from z2)
        exact hu
      | ty n =>
        cases hcv
        cases (show v2 = V.ty n from z2)
        exact hu
      | _ => cases hcv
    | _ => exact hp.elim
  · exact q1.elim
/-! ### the statement -/
theorem dss_pe {R : Rf} {X : Cx} {st : List Stmt} {ts : TS} {ds : dS} (h : @DSs R pn X st ts ds) : PSs X st ts := @DSs.pe R pn X st ts ds h
theorem dss_run {R : Rf} {X : Cx} {K : PySem.W.Frag} {st : List Stmt} {ts : TS} {ds1 ds2 : dS} (h : @DSs R pn X st ts ds1) (hK : X.K = K) (g : ∀ Dd env, ds2 Dd env → ds1 Dd env) : @SndS R pn K ts ds2 := by
  letI := R
  subst hK
  exact ⟨fun w q n r k1 k2 => h.sd.run w (g _ _ q) n r k1 k2⟩
theorem ds_try [rI : Rf] {c : Value} {i : Nat} {tc : (St → XK) → TE} {rd : Env → (P → Prop) → (Xn → Prop) → Prop} {ts : Addr → Value → Option Addr → TS} {dsu : Addr → Value → Option Addr → Xn → Addr → dS} {RD : Xn → Prop} {E : XK} {st : Stmt} {suite : List Stmt}
    (hE : HE X.K RD E) (hp : i ∉ pn) (hc : CX1 X.K tc rd)
    (hps : (∀ (a : Addr) (oe : Obj) (cls : Value) (d : Option Addr) (pins : List (Addr × Obj)), Zc cls d oe → (∃ vs, oe.data = .fields vs) → PSs (X.suite a ((a, oe) :: pins)) suite (ts a cls d)) → PS X st (fun D σ H => tDrop (tc (WE (wAs X.K c i ts (WO E) D))) D σ H))
    (hsu : ∀ (a : Addr) (oe : Obj) (cls : Value) (d : Option Addr) (pins : List (Addr × Obj)) (x : Xn) (dd : Addr) (v : V) (r : Rf), Zc cls d oe → (∃ vs, oe.data = .fields vs) → (∀ B, Rp X.K B x.p v) → @DSs (rfX x dd v r) pn (X.suite a ((a, oe) :: pins)) suite (ts a cls d) (dsu a cls d x dd)) :
    DS pn X st (fun D σ H => tDrop (tc (WE (wAs X.K c i ts (WO E) D))) D σ H) (dTry X.K c i rd (fun a x Dd env => ∀ dd, dsu a (.ref x.C) (some dd) x dd Dd env) RD) :=
  ⟨hps fun a oe cls d pins hz hf => dss_pe (hsu a oe cls d pins ⟨0, "", .non⟩ 0 .non rf0 hz hf (fun _ => rfl)),
   snd_try hE hp hc fun a x dd v r hv _ => dss_run (K := X.K) (hsu a { cls := .ref x.C, dict := some dd, data := .fields #[] } (.ref x.C) (some dd) [] x dd v r ⟨rfl, rfl⟩ ⟨_, rfl⟩ hv) rfl fun Dd env q => q dd⟩
/-- the call that a try holds -/
def tryCall : Stmt → Expr
  | .Try (.Expr e _ :: _) _ _ _ _ => e
  | _ => .Constant .none 0 ⟨0, 0, 0, 0⟩
def callArgs : Expr → List Expr
  | .Call _ es _ _ => es
  | _ => []
def callFn : Expr → Expr
  | .Call g _ _ _ => g
  | e => e
section
variable [rI : Rf] {c : Value} {i : Nat} {ts : Addr → Value → Option Addr → TS} {dsu : Addr → Value → Option Addr → Xn → Addr → dS} {RD : Xn → Prop} {E : XK} {st : Stmt} {suite : List Stmt} {fs : FSp} {fx : FXp}
abbrev Suite (X : Cx) (suite : List Stmt) (ts : Addr → Value → Option Addr → TS) : Prop := ∀ (a : Addr) (oe : Obj) (cls : Value) (d : Option Addr) (pins : List (Addr × Obj)), Zc cls d oe → (∃ vs, oe.data = .fields vs) → PSs (X.suite a ((a, oe) :: pins)) suite (ts a cls d)
abbrev SuiteD (pn : List Nat) (X : Cx) (suite : List Stmt) (ts : Addr → Value → Option Addr → TS) (dsu : Addr → Value → Option Addr → Xn → Addr → dS) : Prop := ∀ (a : Addr) (oe : Obj) (cls : Value) (d : Option Addr) (pins : List (Addr × Obj)) (x : Xn) (dd : Addr) (v : V) (r : Rf), Zc cls d oe → (∃ vs, oe.data = .fields vs) → (∀ B, Rp X.K B x.p v) → @DSs (rfX x dd v r) pn (X.suite a ((a, oe) :: pins)) suite (ts a cls d) (dsu a cls d x dd)
theorem ds_tryC (hE : HE X.K RD E) (hp : i ∉ pn) (ha : DA true X (callArgs (tryCall st)) ta da) (hps : Suite X suite ts → PS X st (fun D σ H => tDrop (tMakeS C (spX X.K fs fx) (WE (wAs X.K c i ts (WO E) D)) ta) D σ H)) (hsu : SuiteD pn X suite ts dsu) :
    DS pn X st (fun D σ H => tDrop (tMakeS C (spX X.K fs fx) (WE (wAs X.K c i ts (WO E) D)) ta) D σ H) (dTry X.K c i (cxMake C fs fx da) (fun a x Dd env => ∀ dd, dsu a (.ref x.C) (some dd) x dd Dd env) RD) := ds_try hE hp (cx_make ha.sd) hps hsu
theorem ds_tryF (hE : HE X.K RD E) (hp : i ∉ pn) (ha : DA true X (callArgs (tryCall st)) ta da) (hps : Suite X suite ts → PS X st (fun D σ H => tDrop (tCallS (spX X.K fs fx) (WE (wAs X.K c i ts (WO E) D)) ta) D σ H)) (hsu : SuiteD pn X suite ts dsu) :
    DS pn X st (fun D σ H => tDrop (tCallS (spX X.K fs fx) (WE (wAs X.K c i ts (WO E) D)) ta) D σ H) (dTry X.K c i (cxCall fs fx da) (fun a x Dd env => ∀ dd, dsu a (.ref x.C) (some dd) x dd Dd env) RD) := ds_try hE hp (cx_call ha.sd) hps hsu
theorem ds_tryO (hE : HE X.K RD E) (hp : i ∉ pn) (hf : DE true X (callFn (tryCall st)) te de) (ha : DA true X (callArgs (tryCall st)) ta da)
    (hps : Suite X suite ts → PS X st (fun D σ H => tDrop (tCallOS C (fun vs H Q E => spX X.K fs fx (vs ++ []) H Q E) (WE (wAs X.K c i ts (WO E) D)) te ta) D σ H)) (hsu : SuiteD pn X suite ts dsu) :
    DS pn X st (fun D σ H => tDrop (tCallOS C (fun vs H Q E => spX X.K fs fx (vs ++ []) H Q E) (WE (wAs X.K c i ts (WO E) D)) te ta) D σ H) (dTry X.K c i (cxCallO C fs fx de da) (fun a x Dd env => ∀ dd, dsu a (.ref x.C) (some dd) x dd Dd env) RD) :=
  ds_try (tc := fun E' => tCallOS C (fun vs H Q E => spX X.K fs fx (vs ++ []) H Q E) E' te ta) hE hp (cx_callO hf.sd ha.sd) hps hsu
end
end
/-! ### the classes of errors, as a raise and a suite have them -/
structure ErrT (K : PySem.W.Frag) (mg : Str → Option Value) (n : Str) (C fI : Addr) (f : Str) : Prop where
  mg : mg n = some (.ref C)
  ox : OexC K C
  no : PySem.W.findIn K (.ref C) f = some none
  ini : PySem.W.findIn K (.ref C) "__init__" = some (some (.ref fI))
  fn : PySem.W.typeIn K (.ref fI) = some (.type "function")
  xf : XfC K C
  ec : ExcC K C
structure CalleeE (Pg : Program) (w : World) (K : PySem.W.Frag) (mg : Str → Option Value) (base : Heap) (k : Nat) (n : Str) (C fI : Addr) (fd : FuncData) (ps : List Str) (f : Str) : Prop where
  t : ErrT K mg n C fI f
  ok : FnOk Pg w K mg base CX0 k fI fd ps (spErr K C f)
  b : Binds K fd ps []
structure CalleeFX (Pg : Program) (w : World) (K : PySem.W.Frag) (mg : Str → Option Value) (base : Heap) (k : Nat) (f : Addr) (fd : FuncData) (ps : List Str) (fs : FSp) (fx : FXp) : Prop where
  ok : FnOk Pg w K mg base (L2.CX Pg w) k f fd ps (spX K fs fx)
theorem err_init {K : PySem.W.Frag} {C : Addr} {f : Str} {σ : St} {vs : List V} {H : Hp} {Q : VK} {E : XK} {D : Ends} (h : spErr K C f vs H Q E) (hs : σ = vs.map some) (hn : ∀ H', Q .non H' → D.nx σ H') : tOst K f (tVar 0) (tVar 1) D σ H := by
  obtain ⟨x, v, rfl, T, hf, hx, q⟩ := h
  subst hs
  exact ⟨v, rfl, .ref x, rfl, x, C, rfl, T, hf, .inl ⟨hx, fun dx hd ne => hn _ (q dx hd ne)⟩⟩
theorem kit_ref {K : PySem.W.Frag} {A C : Addr} {b : Bool} (hd : PySem.W.hasDictIn K C = true) (ht : PySem.W.typeIn K (.ref C) = some (.type "type")) (hs : PySem.W.subIn K (.ref A) (.ref C) = some b) (self : PySem.W.subIn K (.ref A) (.ref A) = some true) : PySem.W.kitOne K (.ref A) (.ref C) = some b := by
  by_cases h : A = C
  · subst h
    rw [hs] at self
    cases self
    exact kit_self K A
  · have ne : ((Value.ref A : Value) == .ref C) = false := Bool.eq_false_iff.mpr fun q => h (Value.ref.inj (beq_iff_eq.mp q))
    unfold PySem.W.kitOne
    rw [ne, if_neg Bool.false_ne_true]
    obtain ⟨cd, hc, _⟩ := PySem.W.any_some hd
    show (if ((PySem.W.clsIn K C).isSome && PySem.W.typeIn K (.ref C) == some (.type "type")) = true then PySem.W.subIn K (.ref A) (.ref C) else none) = some b
    have e2 : ((PySem.W.clsIn K C).isSome && PySem.W.typeIn K (.ref C) == some (.type "type")) = true := by rw [hc, ht] <;> rfl
    rw [if_pos e2, hs]
theorem kit_typ {K : PySem.W.Frag} {A : Addr} {T : String} {b : Bool} (hm : PySem.W.kitMeta T = true) (hs : PySem.W.subIn K (.ref A) (.type T) = some b) : PySem.W.kitOne K (.ref A) (.type T) = some b := by
  unfold PySem.W.kitOne
  rw [show ((Value.ref A : Value) == .type T) = false from rfl, if_neg Bool.false_ne_true]
  show (if PySem.W.kitMeta T = true then PySem.W.subIn K (.ref A) (.type T) else none) = some b
  rw [if_pos hm, hs]
/-! ### range(a, b, c) -/
section
variable [Rf] {m : Bool} {K : PySem.W.Frag} {ta : TA} {da : dA} {X : Cx}
def rngC (lo c : Int) (n : Nat) : List P := (List.range n).map fun (i : Nat) => P.int (lo + (i : Int) * c)
theorem rngC_len (lo c : Int) (n : Nat) : (rngC lo c n).length = n := by unfold rngC; simp
theorem rngC_get {lo c : Int} {n i : Nat} {p : P} (h : (rngC lo c n)[i]? = some p) : i < n ∧ p = .int (lo + (i : Int) * c) := by
  unfold rngC at h
  rw [List.getElem?_map] at h
  by_cases hi : i < n
  · rw [List.getElem?_range hi] at h
    cases h
    exact ⟨hi, rfl⟩
  · rw [List.getElem?_eq_none (by simpa using hi)] at h; cases h
theorem itok_rngC {B0 : Hp} {lo c : Int} {n : Nat} : ItOk K (Itc lo c n) B0 (rngC lo c n) := fun B H i e1 e2 _ => by
  refine ⟨fun p hp => ?_, fun hge => by rw [rngC_len] at hge; exact hge⟩
  obtain ⟨hi, rfl⟩ := rngC_get hp
  refine ⟨hi, fun x H2 hx => ?_⟩
  obtain ⟨rfl, rfl⟩ := hx
  exact ⟨B, .refl e2, rfl⟩
def rng3Q (as : List AR) (f : List P → Prop) : Prop := match as with
  | [.inl (.int i), .inl (.int j), .inl (.int c)] => ∃ n, RgC i j c n ∧ f (rngC i c n)
  | _ => False
def diR3 (da : dA) : dI := fun env Q => da env fun as e => rng3Q as fun ps => Q ps e
theorem snd_ir3 (h : SndA m K ta da) : SndI m K (iRng3 ta) (diR3 da) := ⟨fun {B H σ env G QD R} w q k => h.run w q fun as e vs B1 H1 G1 q1 w1 r1 s1 u1 => by
  change rng3Q as fun ps => QD ps e at q1
  unfold rng3Q at q1
  split at q1
  · rename_i i j c
    obtain ⟨v, l, rfl, z1, u, l2, rfl, z2, y, l3, rfl, z3, z4⟩ := r1
    cases (show l3 = [] from z4)
    cases (show v = V.int i from z1)
    cases (show u = V.int j from z2)
    cases (show y = V.int c from z3)
    obtain ⟨n, hn, q1⟩ := q1
    exact ⟨i, j, c, n, rfl, hn, k _ e B1 H1 G1 _ q1 w1 s1 u1 itok_rngC⟩
  · exact q1.elim⟩
theorem di_rng3 {tg c0 : Expr} {e0 e1 e2 : Expr} (h : PA X [e0, e1, e2] ta → PI X tg c0 (iRng3 ta)) (ha : DA m X [e0, e1, e2] ta da) : DI m X tg c0 (iRng3 ta) (diR3 da) := ⟨h ha.pe, snd_ir3 ha.sd⟩
end
end DL
set_option Elab.async false
set_option linter.all false
set_option maxRecDepth 100000
/-! properties; try: name = a call .. except; an own operator in a try -/
namespace DL
open PySem PySem.Spec L2
section
variable [Rf] {m : Bool} {K : PySem.W.Frag} {te : TE} {de : dE} {X : Cx} {o : Expr} {f : Str} {pos : Pos}
/-! ### e.f, f a property -/
def dProp (C : Addr) (fs : FSp) (de : dE) : dE := fun env Q => de env fun p e => match p with
  | .ins C' fl => C' = C ∧ pcall fs [.ins C' fl] fun z => Q z e
  | _ => False
theorem snd_prop {C : Addr} {fs : FSp} {E : XK} (h : SndE m K te de) : SndE m K (tProp C (spD K fs) [] E te) (dProp C fs de) := ⟨fun {B H σ env G QD Q} w q k => h.run w q fun p e v B1 H1 G1 q1 w1 r1 s1 u1 => by
  cases p with
  | ins C' fl =>
    obtain ⟨rfl, q1⟩ := q1
    obtain ⟨a, dx, fv, rfl, h1, h2⟩ := id r1
    exact ⟨a, dx, fv, rfl, w1.ex a _ h1, callPP (ps := [.ins C' fl]) w1.ex ⟨_, [], rfl, r1, rfl⟩ q1 fun z v B' H' qz rz gg => k z e v B' H' G1 qz (w1.gr gg) rz (s1.trans gg.stp) (u1.trans (.gr gg))⟩
  | _ => exact q1.elim⟩
structure CalleeT (Pg : Program) (w : World) (K : PySem.W.Frag) (mg : Str → Option Value) (base : Heap) (k : Nat) (C : Addr) (nm : Str) (f : Addr) (fd : FuncData) (ps : List Str) (fs : FSp) : Prop where
  ok : FnOk Pg w K mg base CX0 k f fd ps (spD K fs)
  c : Cls K C
  p : ∃ p, PropOf K C nm p f
  b : Binds K fd ps []
theorem de_prop {C : Addr} {fs : FSp} {E : XK} (h : PE X o te → PE X (.Attribute o f pos) (tProp C (spD X.K fs) [] E te)) (ho : DE m X o te de) : DE m X (.Attribute o f pos) (tProp C (spD X.K fs) [] E te) (dProp C fs de) := ⟨h ho.pe, snd_prop ho.sd⟩
end
/-! ### an own operator, an int on the right, in a try -/
section
variable {X : Cx} {CT : CXT} {k : Nat} {C g : Addr} {sp : Sp} {Eσ : St → XK} {a b : Expr} {ta tb : TE} {pos : Pos} {op : Operator}
theorem opI_at {pins : List (Addr × Obj)} {σ : St} {H : Hp} {s : Shared} {Q : VK} {x y : V} {v u : Value} (F : OwnF X.K C g (PySem.dunder op.info.2)) (J : OwnI X.K C (PySem.dunder op.info.2) (PySem.dunderR op.info.2)) (hc : PySem.W.selfFirst X.K C = true)
    (ok : FnR X.prog X.w X.K X.mg X.base CT k g sp) (room : Room k X.A) (pass : PassesAt CT X σ (Eσ σ)) (I : Inv X pins σ H s) (rx : RelV x v) (ry : RelV y u) (h : ∃ a dx vs n, x = .ref a ∧ y = .int n ∧ H a = some (.ins C dx vs) ∧ sp [x, y] H Q (Eσ σ)) :
    wpAny (model X.prog X.w) X.A (binaryOp op v u) (EP X pins σ Q) X.xe s := by
  obtain ⟨a, dx, vs, n, rfl, rfl, ha, q⟩ := h
  cases (show v = Value.ref a from rx)
  obtain ⟨t, rfl⟩ := ry
  obtain ⟨mA, O, _⟩ := ins_get I.hok ha
  obtain ⟨od, IA, _⟩ := O.look
  obtain ⟨m, hF⟩ := I.fr
  obtain ⟨fo, h1⟩ := J.h1
  obtain ⟨ro, h2⟩ := J.h2
  refine PySem.W.ksp_binT (op := op) (T := "int") hF I.ok.mod.kin IA rfl hc F.at_ F.fn J.hr (.inl rfl) h1 h2 J.hs ?_
  refine wpAny_mono (wpAny_call (raw_at (us := [.ref a, .int n t]) (vs := [.ref a, .int n]) ok room pass I (.cons rfl (.cons ⟨t, rfl⟩ .nil)) q)) (fun w s' z => ?_) fun _ _ x => x
  obtain ⟨z', H', I', rz, qz⟩ := z
  exact SlX.cmpback rz ⟨z', H', I', rz, qz⟩
def tOpIS (C : Addr) (sp : Sp) (Eσ : St → XK) (te tb : TE) : TE := fun σ H Q => te σ H fun x H1 => tb σ H1 fun y H2 => ∃ a dx vs n, x = V.ref a ∧ y = V.int n ∧ H2 a = some (.ins C dx vs) ∧ sp [x, y] H2 Q (Eσ σ)
theorem pe_opIAt (F : OwnF X.K C g (PySem.dunder op.info.2)) (J : OwnI X.K C (PySem.dunder op.info.2) (PySem.dunderR op.info.2)) (hc : PySem.W.selfFirst X.K C = true)
    (ok : FnR X.prog X.w X.K X.mg X.base CT k g sp) (room : Room k X.A) (pass : ∀ σ, PassesAt CT X σ (Eσ σ)) (ha : PE X a ta) (hb : PE X b tb) : PE X (.BinOp a op b pos) (tOpIS C sp Eσ ta tb) := by
  refine ⟨fun pins s σ H Q I h => ?_⟩
  have h' : tOp (fun x y H2 Q => ∃ a dx vs n, x = V.ref a ∧ y = V.int n ∧ H2 a = some (.ins C dx vs) ∧ sp [x, y] H2 Q (Eσ σ)) ta tb σ H Q := h
  exact wpAny_BinOp (binT ha hb I h' fun v u s2 x y H2 I2 rx ry q => opI_at F J hc ok room (pass σ) I2 rx ry q)
end
section
variable [Rf] {pn : List Nat} {K : PySem.W.Frag} {te tb : TE} {de db : dE} {X : Cx} {fs : FSp} {fx : FXp} {C : Addr}
def cxoQ (C : Addr) (fs : FSp) (fx : FXp) (QN : P → Prop) (QX : Xn → Prop) (p q : P) : Prop := match p, q with
  | .ins C' fl, .int n => C' = C ∧ (pcall fs [.ins C fl, .int n] QN ∨ fx [.sh (.ins C fl), .sh (.int n)] QX)
  | _, _ => False
def cxOpI (C : Addr) (fs : FSp) (fx : FXp) (de db : dE) : Env → (P → Prop) → (Xn → Prop) → Prop := fun env QN QX => de env fun p e => db e fun q _ => cxoQ C fs fx QN QX p q
theorem cx_opI (h : SndE true K te de) (g : SndE true K tb db) : CX1 K (fun E => tOpIS C (fun vs H Q E => spX K fs fx (vs ++ []) H Q E) E te tb) (cxOpI C fs fx de db) := ⟨fun {B H σ env G QN QX Q E} w q kn kx => h.run w q fun p e v B1 H1 G1 q1 w1 r1 s1 u1 => by
  obtain ⟨_, _, g1⟩ := u1 rfl
  refine g.run w1 q1 fun q e2 u B2 H2 G2 q2 w2 r2 s2 u2 => ?_
  obtain ⟨_, _, g2⟩ := u2 rfl
  have g12 := g1.trans g2
  unfold cxoQ at q2
  split at q2
  · rename_i C' fl n
    obtain ⟨rfl, q2⟩ := q2
    have r1' := Rp.mono s2.ex _ r1
    obtain ⟨a, dx, fv, rfl, h1, h2⟩ := id r1'
    cases (show u = V.int n from r2)
    refine ⟨a, dx, fv, n, rfl, rfl, w2.ex a _ h1, ?_⟩
    show spX K fs fx ([V.ref a, V.int n] ++ []) H2 Q (E σ)
    rw [List.append_nil]
    have rr : RpA K B2 [P.ins C' fl, .int n] [V.ref a, .int n] := ⟨_, _, rfl, r1', _, [], rfl, rfl, rfl⟩
    rcases q2 with q2 | q2
    · exact .inl (callPP (ps := [.ins C' fl, .int n]) w2.ex rr q2 fun z v B' H' qz rz gg => kn z v B' H' qz rz (g12.trans gg))
    · exact .inr ⟨H2, _, _, QX, plain_wd (Ex.refl H2) (RpA.mono w2.ex _ rr), q2, fun x dd v B3 H3 hx e1 e2 hn hd rp => kx x dd v B3 H3 hx (g12.h.trans e1) e2 hn hd rp⟩
  · exact q2.elim⟩
end
/-! ### try: name = a call .. except C as n: .. -/
section
variable [rI : Rf] {pn : List Nat} {K : PySem.W.Frag} {te : TE} {de : dE} {ta : TA} {da : dA} {X : Cx} {fs : FSp} {fx : FXp} {C : Addr}
def dTryA (K : PySem.W.Frag) (c : Value) (i j : Nat) (rd : Env → (P → Prop) → (Xn → Prop) → Prop) (dsu : Addr → Xn → dS) (RD : Xn → Prop) : dS := fun Dd env => rd env (fun p => inE j env = true ∧ Dd.nx (env.set j (some (.sh p)))) (tryX K c i dsu RD Dd env)
theorem snd_tryA {c : Value} {i j : Nat} {tc : (St → XK) → TE} {rd : Env → (P → Prop) → (Xn → Prop) → Prop} {ts : Addr → Value → Option Addr → TS} {dsu : Addr → Xn → dS} {RD : Xn → Prop} {E : XK} (hE : HE K RD E) (hp : i ∉ pn) (hpj : j ∉ pn) (hc : CX1 K tc rd)
    (hsu : ∀ (a : Addr) (x : Xn) (dd : Addr) (v : V) (r : Rf), (∀ B, Rp K B x.p v) → r.R dd = none → @SndS (rfX x dd v r) pn K (ts a (.ref x.C) (some dd)) (dsu a x)) :
    SndS pn K (fun D σ H => tAsg (tc (WE (wAs K c i ts (WO E) D))) (gName j) D σ H) (dTryA K c i j rd dsu RD) := ⟨fun {B H σ env G Dd D} w q n r k1 k2 => by
  refine hc.run w q (fun z v B' H' qz rz gg => ?_) fun x dd v B' H' qx e1 e2 hn hd rp => ?_
  · obtain ⟨hj, qz⟩ := qz
    exact n _ _ B' H' _ qz ((w.gr gg).putS (inE_lt hj) rz) (gg.stp.trans (stp_put fun _ h => absurd h List.not_mem_nil)) (Pin.set hpj)
  obtain ⟨hat, ⟨hm, hi, hs⟩ | ⟨hm, hr⟩⟩ := qx
  · refine ⟨true, hm, fun _ a ha => ?_, fun h => by cases h⟩
    have hH : H dd = none := e1.back hn
    have hB : B dd = none := w.ex.back hH
    have hR : Rf.R dd = none := w.rf.back hB
    have g : Gr B H (upd B dd (.xd [(x.f, v)])) H' := ⟨fun b o h => by rw [upd_ne (ne_of_none h hB)]; exact h, e1.trans e2, fun b o h => by
      by_cases e : b = dd
      · subst e; rw [upd_same] at h; cases h; exact hd
      · rw [upd_ne e] at h; exact e2 b o (e1 b o (w.ex b o h)), fun b o h hb => by rw [upd_ne (ne_of_none h hH)]; exact hb⟩
    have w2 := w.gr g
    have hi' := inE_lt hi
    have s4 : Stp B H G (upd B dd (.xd [(x.f, v)])) H' (fun j => if j = i then [] else G j) := g.stp.trans (stp_put fun _ h => absurd h List.not_mem_nil)
    have p4 : Pin pn σ (σ.set i (some (V.ref a))) := Pin.set hp
    have up : Ex Rf.R (upd Rf.R dd (.xd [(x.f, v)])) := fun b o h => by rw [upd_ne (ne_of_none h hR)]; exact h
    have w4 := w2.putS (p := .ob a) (v := V.ref a) hi' rfl
    have up2 : Ex (upd Rf.R dd (.xd [(x.f, v)])) (upd B dd (.xd [(x.f, v)])) := fun b o h => by
      by_cases e : b = dd
      · subst e
        rw [upd_same] at h ⊢; exact h
      · rw [upd_ne e] at h ⊢; exact w.rf b o h
    exact run_w (R1 := rI) (R2 := rfX x dd v rI) up (hsu a x dd v rI (fun B => atom_rp hat rp B) hR) w4.toWd0 up2 (hs a) (nx_none hp (n.at s4 p4)) (r.at s4 p4) (nx_none hp (k1.at s4 p4)) (nx_none hp (k2.at s4 p4))
  · exact ⟨false, hm, fun h => (by cases h), fun _ => hE x dd v B' H' hr (w.rf.trans (w.ex.trans e1)) e2 hn hd rp⟩⟩
theorem ds_tryA {c : Value} {i j : Nat} {tc : (St → XK) → TE} {rd : Env → (P → Prop) → (Xn → Prop) → Prop} {ts : Addr → Value → Option Addr → TS} {dsu : Addr → Value → Option Addr → Xn → Addr → dS} {RD : Xn → Prop} {E : XK} {st : Stmt} {suite : List Stmt}
    (hE : HE X.K RD E) (hp : i ∉ pn) (hpj : j ∉ pn) (hc : CX1 X.K tc rd)
    (hps : Suite X suite ts → PS X st (fun D σ H => tAsg (tc (WE (wAs X.K c i ts (WO E) D))) (gName j) D σ H))
    (hsu : SuiteD pn X suite ts dsu) :
    DS pn X st (fun D σ H => tAsg (tc (WE (wAs X.K c i ts (WO E) D))) (gName j) D σ H) (dTryA X.K c i j rd (fun a x Dd env => ∀ dd, dsu a (.ref x.C) (some dd) x dd Dd env) RD) :=
  ⟨hps fun a oe cls d pins hz hf => dss_pe (hsu a oe cls d pins ⟨0, "", .non⟩ 0 .non rf0 hz hf (fun _ => rfl)),
   snd_tryA hE hp hpj hc fun a x dd v r hv _ => dss_run (K := X.K) (hsu a { cls := .ref x.C, dict := some dd, data := .fields #[] } (.ref x.C) (some dd) [] x dd v r ⟨rfl, rfl⟩ ⟨_, rfl⟩ hv) rfl fun Dd env q => q dd⟩
/-- the right side of the assignment that a try holds -/
def tryVal : Stmt → Expr
  | .Try (.Assign _ e _ :: _) _ _ _ _ => e
  | _ => .Constant .none 0 ⟨0, 0, 0, 0⟩
def binL : Expr → Expr
  | .BinOp a _ _ _ => a
  | e => e
def binR : Expr → Expr
  | .BinOp _ _ b _ => b
  | e => e
section
variable {tb : TE} {db : dE} {c : Value} {i j : Nat} {ts : Addr → Value → Option Addr → TS} {dsu : Addr → Value → Option Addr → Xn → Addr → dS} {RD : Xn → Prop} {E : XK} {st : Stmt} {suite : List Stmt}
theorem ds_tryAC (hE : HE X.K RD E) (hp : i ∉ pn) (hpj : j ∉ pn) (ha : DA true X (callArgs (tryVal st)) ta da) (hps : Suite X suite ts → PS X st (fun D σ H => tAsg (tMakeS C (spX X.K fs fx) (WE (wAs X.K c i ts (WO E) D)) ta) (gName j) D σ H)) (hsu : SuiteD pn X suite ts dsu) :
    DS pn X st (fun D σ H => tAsg (tMakeS C (spX X.K fs fx) (WE (wAs X.K c i ts (WO E) D)) ta) (gName j) D σ H) (dTryA X.K c i j (cxMake C fs fx da) (fun a x Dd env => ∀ dd, dsu a (.ref x.C) (some dd) x dd Dd env) RD) := ds_tryA hE hp hpj (cx_make ha.sd) hps hsu
theorem ds_tryAP (hE : HE X.K RD E) (hp : i ∉ pn) (hpj : j ∉ pn) (hl : DE true X (binL (tryVal st)) te de) (hr : DE true X (binR (tryVal st)) tb db)
    (hps : Suite X suite ts → PS X st (fun D σ H => tAsg (tOpIS C (fun vs H Q E => spX X.K fs fx (vs ++ []) H Q E) (WE (wAs X.K c i ts (WO E) D)) te tb) (gName j) D σ H)) (hsu : SuiteD pn X suite ts dsu) :
    DS pn X st (fun D σ H => tAsg (tOpIS C (fun vs H Q E => spX X.K fs fx (vs ++ []) H Q E) (WE (wAs X.K c i ts (WO E) D)) te tb) (gName j) D σ H) (dTryA X.K c i j (cxOpI C fs fx de db) (fun a x Dd env => ∀ dd, dsu a (.ref x.C) (some dd) x dd Dd env) RD) :=
  ds_tryA (tc := fun E' => tOpIS C (fun vs H Q E => spX X.K fs fx (vs ++ []) H Q E) E' te tb) hE hp hpj (cx_opI hl.sd hr.sd) hps hsu
end
end
end DL
set_option Elab.async false
set_option linter.all false
set_option maxRecDepth 100000
namespace DL
open PySem PySem.Spec PyProof.Rows L2
/-! ### defs that may be called while an error is handled -/
abbrev RoomW := L2H.RoomH
theorem roomW_of {k : Nat} {A : Around} {h : Option Value} (r : Room k A) : RoomW k (A.mark h) := ⟨r.dp, r.un⟩
theorem _root_.L2H.RoomH.units {k : Nat} {A : Around} (r : RoomW k A) : A.units + 64 < cLine := by have := r.un; omega
theorem roomW_units {k : Nat} {A : Around} (r : RoomW k A) : A.units + 64 < cLine := by have := r.un; omega
/-- as FnOk, wherever it is called from; nothing leaves by an error -/
structure FnW (Pg : Program) (w : World) (K : PySem.W.Frag) (mg : Str → Option Value) (base : Heap) (k : Nat) (f : Addr) (fd : FuncData) (prm : List Str) (sp : Sp) : Prop where
  many : ∀ vs H Q E, sp vs H Q E → vs.length = prm.length
  go : ∀ {A : Around} {outer : List PySem.Env} {s : Shared} {H : Hp} {args : Args} {us : List Value} {vs : List V} {Q : VK} {E : XK},
    RoomW k A → Env0 Pg w K mg base A outer s H → BindsTo s fd args (prm.zip us) → Vals vs us → sp vs H Q E → codeAny (model Pg w) A (.call (.ref f) args) (CR CX0 outer Pg w H s Q E) s
/-- the context of its body -/
abbrev cxW (Pg : Program) (w : World) (K : PySem.W.Frag) (mg : Str → Option Value) (base : Heap) (N : List Str) (qual : Str) (sc : Scope) (f : Addr) (cd : Value) (A : Around) (outer : List PySem.Env) (s : Shared) (H : Hp) (E : XK) : Cx :=
  { cxOf CX0 Pg w K mg base N qual sc f cd A outer s H E with calm := false, xe := fun _ _ => False }
section
variable {Pg : Program} {w : World} {K : PySem.W.Frag} {mg : Str → Option Value} {base : Heap} {N prm : List Str} {qual : Str} {sc : Scope} {f : Addr} {cd : Value} {A : Around} {outer : List PySem.Env} {s s1 : Shared} {H H0 : Hp} {E : XK}
theorem inv_cool {σ : L2.St} {h : Option Value} (I : Inv (cxOf CX0 Pg w K mg base N qual sc f cd { A with handled := h } outer s H0 E) [] σ H s1) : Inv (cxW Pg w K mg base N qual sc f cd A outer s H0 E) [] σ H s1 :=
  ⟨⟨I.ok.mod, I.ok.kind, I.ok.glob, I.ok.blt, I.ok.above, I.ok.inj, I.ok.has, I.ok.cab, (fun z => nomatch z), I.ok.frames, I.ok.stk, I.ok.exf, I.ok.bs, I.ok.bsz, I.ok.noex, I.ok.exfs, I.ok.funs, I.ok.frf⟩,
    I.os, I.bare, I.base, I.loc, I.cell, I.free, I.freeC, I.pin, I.hok, I.len⟩
theorem Fun.okW {x : Str} {st : Stmt} {fd : FuncData} {k : Nat} {fs : FSp} (pn : List Nat) (F : L2.Fun K x qual st f fd) (S : FnScope N prm (defScope st)) (len : ∀ ds QD, fs ds QD → ds.length = prm.length ∧ lentOk pn 0 ds = true)
    (hbody : ∀ (cdv : Value) (A : Around) (outer : List PySem.Env) (s : Shared) (H : Hp) (E : XK), RoomW k (A.deeper (envOfC qual (defScope st) s.heap.objs.size f cdv)) →
      ∃ ts dS', DSs pn (cxW Pg w K mg base N qual (defScope st) f cdv A outer s H E) (defBody st) ts dS' ∧ ∀ ds QD, fs ds QD →
        dS' { nx := fun env => pn.all (has env) = true ∧ QD (.sh .non) (back pn env 0 ds), rt := fun d env => pn.all (has env) = true ∧ QD d (back pn env 0 ds) } (startE N ds)) :
    FnW Pg w K mg base (k + 1) f fd prm (spD K fs) := by
  have many : ∀ vs H Q E, spD K fs vs H Q E → vs.length = prm.length := fun vs H Q E ⟨B, ds, G, QD, wd, h, _⟩ => by
    have e := wd.len
    rw [List.length_map, List.length_map] at e
    rw [← e]
    exact (len ds QD h).1
  refine ⟨many, fun {A outer s H args us vs Q E} room e0 hb rel hsp => ?_⟩
  obtain ⟨oc, od, kV, doc, pm, an, cdv, ct, osl, rfl, lk, hcd⟩ := F.ex
  have nl := many _ _ _ _ hsp
  have kx : K.In s.heap := e0.mod.kin.keeps fun b o z => (e0.bs b o z).1
  have lim : s.heap.NoLimit := e0.mod.nolimit.keeps fun b o z => (e0.bs b o z).1
  have kinds : ∀ y ∈ prm.zip us, (defScope st).names.lookup y.1 = some .local ∨ ((defScope st).names.lookup y.1 = some .cell ∧ ((cellsFrom (s.heap.objs.size + 1) (defScope st).names []).lookup y.1).isSome = true) := by
    rintro ⟨n, v⟩ hy
    rcases S.par n (List.of_mem_zip hy).1 with z | z
    · left; exact z
    · right; exact ⟨z, PySem.W.cellsFrom_some _ _ _ (.inl z)⟩
  refine codeAny_call_function room.depth (kx _ _ lk) rfl S.co S.gen rfl (PySem.W.codeRec_of kx hcd) (hb _ _ _ _ ?_)
  refine wpAny_newFunctionEnv_cells S.kind kinds fun env he s1 xs => ?_
  subst he
  refine ⟨lim.keeps xs.toInCall.keep, codeAny_func ?_⟩
  obtain ⟨ts, dS', hd, run⟩ := hbody cdv A outer s H E (room.deeper _)
  have I0 : Inv (cxOf CX0 Pg w K mg base N qual (defScope st) f cdv { A with handled := none } outer s H E) [] (L2.start N vs) H s1 :=
    inv_start S rfl ⟨e0.frames, e0.mod, e0.bs, e0.bsz, e0.funs, e0.frf, e0.hok, e0.bare⟩ nl rel xs
  have I := inv_cool (A := A) I0
  obtain ⟨B, ds, G, QD, wd, h, q⟩ := hsp
  have hl := (len ds QD h).2
  have body : ts { nx := fun _ H' => Q .non H', rt := Q } (L2.start N vs) H := by
    refine hd.sd.run (D := { nx := fun _ H' => Q .non H', rt := Q }) (Wd.start (N := N) wd (rf0_ex B)) (run ds QD h) ?_ ?_ (fun _ _ _ _ _ h => h.elim) (fun _ _ _ _ _ h => h.elim)
    · intro env' σ' B' H' G' hq wq sq pq
      have wb := Wd.back wd sq.ex wq pq hl hq.1
      refine q _ _ .non [] B' H' _ hq.2 wb ⟨⟨rfl, rfl⟩, List.nodup_nil, fun _ h => absurd h List.not_mem_nil, fun _ h => absurd h List.not_mem_nil, fun _ h => absurd h List.not_mem_nil⟩ (sq.cut fun i a ha => ?_)
      change a ∈ (if pn.contains i ∧ i < ds.length then G' i else []) at ha
      split at ha
      · exact ha
      · cases ha
    · intro d env' σ' v F B' H' G' hq wq oq sq pq
      have wb := Wd.back wd sq.ex wq pq hl hq.1
      refine q _ _ v F B' H' _ hq.2 wb ⟨oq.rp, oq.nd, oq.nb, oq.nw, fun a ha i hi => ?_⟩ (sq.cut fun i a ha => ?_)
      · change a ∈ (if pn.contains i ∧ i < ds.length then G' i else []) at hi
        split at hi
        · exact oq.ap a ha i hi
        · cases hi
      · change a ∈ (if pn.contains i ∧ i < ds.length then G' i else []) at ha
        split at ha
        · exact ha
        · cases ha
  have over : ∀ {σ' : L2.St} {H' : Hp} {v : V} {u : Value} {s' : Shared}, Inv (cxW Pg w K mg base N qual (defScope st) f cdv A outer s H E) [] σ' H' s' → RelV v u → Q v H' → CE outer Pg w H s Q u s' :=
    fun J rv qv => ⟨_, _, J.os, J.bare, J.base, J.hok, rv, qv⟩
  refine wpAny_mono (hd.pe.run [] s1 _ H _ I body) (fun fl s' hs => ?_) fun e s' hs => hs.elim
  cases fl with
  | ret u => obtain ⟨v, σ', H', J, rv, qv⟩ := hs; exact over J rv qv
  | next => obtain ⟨σ', H', J, qv⟩ := hs; exact over (v := .non) (u := .none) J rfl qv
  | brk => obtain ⟨_, _, _, z⟩ := hs; exact z.elim
  | cont => obtain ⟨_, _, _, z⟩ := hs; exact z.elim
end
structure CalleeW (Pg : Program) (w : World) (K : PySem.W.Frag) (mg : Str → Option Value) (base : Heap) (k : Nat) (x : Str) (f : Addr) (fd : FuncData) (ps : List Str) (fs : FSp) : Prop where
  ok : FnW Pg w K mg base k f fd ps (spD K fs)
  g : mg x = some (.ref f)
  kp : PySem.W.keepIn K (.ref f) = true
  b : Binds K fd ps []
section
variable {X : Cx} {k : Nat} {f : Addr} {fd : FuncData} {prm : List Str} {sp : Sp} {E : XK} {x : Str} {p1 p2 : Pos} {a0 : Expr} {as0 : List Expr} {ta : TA}
theorem go_w {pins : List (Addr × Obj)} {σ : L2.St} {H : Hp} {s : Shared} {Q : VK} {us : List Value} {vs : List V} (F : FnW X.prog X.w X.K X.mg X.base k f fd prm sp) (room : RoomW k X.A) (bn : Binds X.K fd prm []) (iv : Inv X pins σ H s) (rel : Vals vs us) (hsp : sp vs H Q E) :
    wpAny (model X.prog X.w) X.A (call (.ref f) us) (EP X pins σ Q) X.xe s := by
  have many : us.length = prm.length := (rel.length).symm.trans (F.many _ _ _ _ hsp)
  have bound := bn s us iv.kIn (by rw [List.append_nil]; exact many)
  rw [List.append_nil] at bound
  refine wpAny_call (codeAny_mono (F.go room iv.env0 bound rel hsp) fun res s2 out => ?_)
  cases res with
  | error u => exact out.elim
  | ok fl =>
    cases fl with
    | ret u => exact iv.after out
    | _ => exact out.elim
theorem pe_callW (F : FnW X.prog X.w X.K X.mg X.base k f fd prm sp) (room : RoomW k X.A) (gl : Gl X x) (at_ : X.mg x = some (.ref f)) (kp : PySem.W.keepIn X.K (.ref f) = true) (bn : Binds X.K fd prm []) (ha : PA X (a0 :: as0) ta)
    (hd : (x == ("__debug__" : Str)) = false := by decide) (he : starEach (a0 :: as0) X.env = (false, eval a0 X.env) :: starEach as0 X.env := by rfl) (hp : (backTo p2 (starEach as0 X.env)).any (·.1) = false := by rfl) :
    PE X (.Call (.Name x p1) (a0 :: as0) [] p2) (tCall sp [] E ta) :=
  ⟨fun pins s σ H Q iv h => wpAny_Call_Name_kw (ld_glob iv gl at_ (PySem.W.callWith_K (h₀ := X.base) iv.ok.mod.kin kp (thn (ha.run p2 pins s σ H _ iv h) fun us s1 ⟨vs, H1, iv1, rel, q⟩ => ⟨iv1.kIn, go_w F room bn iv1 rel (show sp vs H1 Q E by have z : sp (vs ++ []) H1 Q E := q; rw [List.append_nil] at z; exact z)⟩) he hp) hd)⟩
end
section
variable {m : Bool} {X : Cx} {e e0 : Expr} {es : List Expr} {ta : TA} {da : dA} {a dd : Addr} {oe : Obj} {pins : List (Addr × Obj)} {x : Xn} {v : V} {r : Rf} {fs : FSp}
/-- such a call within an except suite -/
theorem do_callW (h : PA (X.suite a ((a, oe) :: pins)) (e0 :: es) ta → PE (X.suite a ((a, oe) :: pins)) e (tCall (spD X.K fs) [] (fun _ _ _ => False) ta)) (ha : @DA (rfX x dd v r) m (X.suite a ((a, oe) :: pins)) (e0 :: es) ta da) :
    @DO (rfX x dd v r) m (X.suite a ((a, oe) :: pins)) e (tCall (spD X.K fs) [] (fun _ _ _ => False) ta) (dCallP fs da) := by
  letI : Rf := rfX x dd v r
  exact do_callP (X := X.suite a ((a, oe) :: pins)) h ha
/-- a value's truth, within an except suite -/
theorem dt_truW {te : TE} {de : dE} (h : @DE (rfX x dd v r) m (X.suite a ((a, oe) :: pins)) e te de) (he : ∀ whole, isTrue e (X.suite a ((a, oe) :: pins)).env whole = (do let v ← whole; standAt e.pos; holding [v] (truthy v)) := by intro _; rfl) :
    @DT (rfX x dd v r) m (X.suite a ((a, oe) :: pins)) e (fun σ H Q => te σ H fun x H' => ∃ k, TruV X.K x H' k ∧ Q k H') (dTru de) := by
  letI : Rf := rfX x dd v r
  exact dt_tru (X := X.suite a ((a, oe) :: pins)) h he
end
end DL
set_option Elab.async false
set_option linter.all false
set_option maxRecDepth 100000
/-! append to an own list of own lists that is looked at no more -/
namespace DL
open PySem PySem.Spec L2
section
variable [Rf] {pn : List Nat} {K : PySem.W.Frag} {te : TE} {de : dE} {X : Cx} {e : Expr} {pos : Pos}
theorem Wd.dropU {B H : Hp} {σ : L2.St} {env : Env} {G : Fp} {i : Nat} {d : D} {l : Addr} {o : HO} (w : Wd K B H σ env G) (hd : env[i]? = some (some d)) (hl : l ∈ G i) :
    Wd K B (upd H l o) σ (env.set i none) (fun j => if j = i then [] else G j) ∧ Stp B H G B (upd H l o) (fun j => if j = i then [] else G j) := by
  have nB : B l = none := w.nb i l hl
  have w2 := w.drop i
  refine ⟨⟨⟨fun a u h => ?_, fun j d2 h => ?_, w2.no, w2.nd, w2.dj, w2.nb, w2.len⟩, w2.rf⟩, ⟨Ex.refl _, fun a u h n => ?_, fun j a h => ?_, fun _ _ _ h _ => h, fun a u h => ?_⟩⟩
  · rw [upd_ne (ne_of_none h nB)]; exact w.ex a u h
  · obtain ⟨v', h1, h2⟩ := w2.sl j d2 h
    refine ⟨v', h1, RpD.mono (Ex.refl B) h2 fun a ha u hu => ?_⟩
    split at ha
    · cases ha
    · rename_i nj
      rw [upd_ne fun q => nj (w.dj i j a (by rw [q]; exact hl) ha).symm]
      exact hu
  · rw [upd_ne fun q => n i (by rw [q]; exact hl)]; exact h
  · split at h
    · cases h
    · exact .inl ⟨j, h⟩
  · by_cases q : a = l
    · rw [q, upd_same]; exact ⟨_, rfl⟩
    · rw [upd_ne q]; exact ⟨_, h⟩
def dAppX (i : Nat) (de : dE) : dS := fun Dd env => match env[i]? with
  | some (some (.oll _)) => de env fun p e => match e[i]? with
    | some (some (.oll pss)) => pss.length < sizeLine ∧ Dd.nx (e.set i none)
    | _ => False
  | _ => False
theorem snd_appX {i : Nat} (h : SndE m K te de) : SndS pn K (tDrop (tBM K "list" rAppend (tVar i) (tCons te tNil))) (dAppX i de) := ⟨fun {B H σ env G Dd D} w q n r k1 k2 => by
  unfold dAppX at q
  split at q
  · rename_i ps0 hd
    obtain ⟨v, h1, a0, vs0, f1, rfl, h4, _⟩ := w.sl i _ hd
    refine ⟨.ref a0, h1, .inl ⟨rfl, _, SqL.of h4⟩, ?_⟩
    refine h.run w q fun p e v2 B1 H1 G1 q1 w1 r1 s1 _ => ?_
    change (match e[i]? with | some (some (.oll pss)) => pss.length < sizeLine ∧ Dd.nx (e.set i none) | _ => False) at q1
    split at q1
    · rename_i pss hd1
      obtain ⟨v3, g1, a1, as, g2, g3, g4, g5, _⟩ := w1.sl i _ hd1
      rw [h1] at g1
      cases g1
      cases g3
      refine ⟨a0, as.map V.ref, v2, rfl, rfl, g4, by rw [List.length_map, g5]; exact q1.1, ?_⟩
      obtain ⟨w2, s2⟩ := w1.dropU (o := .lst (as.map V.ref ++ [v2])) hd1 (l := a0) (by rw [g2]; exact List.mem_cons_self)
      exact n _ σ B1 _ _ q1.2 w2 (s1.trans s2) .refl
    · exact q1.elim
  · exact q.elim⟩
theorem ds_appX {i : Nat} {o : Expr} {apos cpos : Pos} (h : PA X [e] (tCons te tNil) → PE X (.Call (.Attribute o "append" apos) [e] [] cpos) (tBM X.K "list" rAppend (tVar i) (tCons te tNil))) (he : DE false X e te de)
    (hs : swapsWith (.Call (.Attribute o "append" apos) [e] [] cpos) none pos.line X.env = pure false := by rfl) (hs2 : starEach [e] X.env = (false, eval e X.env) :: starEach [] X.env := by rfl) :
    DS pn X (.Expr (.Call (.Attribute o "append" apos) [e] [] cpos) pos) (tDrop (tBM X.K "list" rAppend (tVar i) (tCons te tNil))) (dAppX i de) := ⟨ps_expr (h (pa_cons he.pe pa_nil hs2)) hs, snd_appX he.sd⟩
end
end DL
set_option Elab.async false
set_option linter.all false
set_option maxRecDepth 100000
/-! min of a list of pairs of ints, min of a list of ints -/
namespace DL
open PySem PySem.Spec PyProof.Rows L2
def pLt (p q : Int × Int) : Bool := if p.1 = q.1 then decide (p.2 < q.2) else decide (p.1 < q.1)
def pLe (p q : Int × Int) : Prop := p.1 < q.1 ∨ (p.1 = q.1 ∧ p.2 ≤ q.2)
theorem pLt_no {p q : Int × Int} (h : pLt p q = false) : pLe q p := by
  unfold pLt at h
  unfold pLe
  split at h
  · have := of_decide_eq_false h; omega
  · have := of_decide_eq_false h; omega
theorem pLt_yes {p q : Int × Int} (h : pLt p q = true) : pLe p q := by
  unfold pLt at h
  unfold pLe
  split at h
  · have := of_decide_eq_true h; omega
  · have := of_decide_eq_true h; omega
theorem pLe_trans {p q r : Int × Int} (h : pLe p q) (g : pLe q r) : pLe p r := by unfold pLe at *; omega
theorem pLe_refl (p : Int × Int) : pLe p p := by unfold pLe; omega
theorem best_le (f : Nat → Int × Int) : ∀ n, argBest (fun i j => pLt (f i) (f j)) n ≤ n ∧ ∀ j, j ≤ n → pLe (f (argBest (fun i j => pLt (f i) (f j)) n)) (f j)
  | 0 => ⟨Nat.le_refl _, fun j hj => by rw [Nat.le_zero.mp hj]; exact pLe_refl _⟩
  | n + 1 => by
    obtain ⟨h1, h2⟩ := best_le f n
    rw [argBest]
    split
    · rename_i hb
      refine ⟨Nat.le_refl _, fun j hj => ?_⟩
      rcases Nat.lt_or_ge j (n + 1) with h3 | h3
      · exact pLe_trans (pLt_yes hb) (h2 j (by omega))
      · rw [show j = n + 1 by omega]; exact pLe_refl _
    · rename_i hb
      have hb' : pLt (f (n + 1)) (f (argBest (fun i j => pLt (f i) (f j)) n)) = false := by simpa using hb
      refine ⟨by omega, fun j hj => ?_⟩
      rcases Nat.lt_or_ge j (n + 1) with h3 | h3
      · exact h2 j (by omega)
      · rw [show j = n + 1 by omega]; exact pLt_no hb'
def rMinP (K : PySem.W.Frag) : List V → Hp → VK → Prop := fun vs H Q => ∃ (a : Addr) (xs : List V) (ps : List (Int × Int)), vs = [V.ref a] ∧ SqL K H a xs ∧ xs.length = ps.length ∧
  (∀ i x, xs[i]? = some x → ∃ t, x = V.ref t ∧ SqT K H t [.int (ps.getD i (0, 0)).1, .int (ps.getD i (0, 0)).2]) ∧ 0 < ps.length ∧
  ∀ i x, xs[i]? = some x → (∀ j, j < ps.length → pLe (ps.getD i (0, 0)) (ps.getD j (0, 0))) → Q x H
theorem cr_minP {X : Cx} (hc : X.calm = true) (hu : X.A.units + 64 < cLine) : CallR X (.builtin "min") (rMinP X.K) := by
  intro pins s σ H vs us Q I r h
  obtain ⟨a, xs, ps, rfl, hs, hl2, ht, hne, q⟩ := h
  obtain ⟨its, rv, hl, _⟩ := I.list hs
  rw [Vals.ref1 r]
  have hlen := rv.length
  have tup : ∀ i (u : Value), its[i]? = some u → ∃ (t : Addr) (items : List Value), u = .ref t ∧ s.heap.IsTuple t items.toArray ∧ IntsAre items [(ps.getD i (0, 0)).1, (ps.getD i (0, 0)).2] := fun i u hu' => by
    have hi : i < xs.length := by have := (List.getElem?_eq_some_iff.mp hu').1; omega
    have hx : xs[i]? = some xs[i] := List.getElem?_eq_getElem hi
    obtain ⟨t, ex, hq⟩ := ht i _ hx
    obtain ⟨u2, h1, h2⟩ := rv.get hx
    rw [hu'] at h1
    cases h1
    rw [ex] at h2
    obtain ⟨its2, r2, p2, _⟩ := I.tuple hq
    exact ⟨t, its2, h2, p2, Vals.ints (ns := [(ps.getD i (0, 0)).1, (ps.getD i (0, 0)).2]) r2⟩
  refine call_min_walkH (iter_anyList hl.isList fun s₂ e2 st hfp hlI => ?_)
  subst e2
  refine ⟨_, _, _, _, _, _, _, s.heap, fun i j => pLt (ps.getD i (0, 0)) (ps.getD j (0, 0)), rfl, (Walks.list (A := X.A.in1) (I.ok.hd hc) _ a hlI its.toArray).toS, st, hfp, by rw [List.size_toArray]; omega, fun b o hb hm => ?_, fun b o hb => Heap.get?_push_of_some _ hb, ?_, fun v s' hP hm => ?_⟩
  · rw [List.mem_singleton.mp hm] at hb
    exact absurd (Heap.lt_size hb) (Nat.lt_irrefl _)
  · intro i j vi vj s3 Q3 E3 hk hi hj q3
    obtain ⟨t1, it1, rfl, p1, i1⟩ := tup i vi (by simpa using hi)
    obtain ⟨t2, it2, rfl, p2, i2⟩ := tup j vj (by simpa using hj)
    have p1' : s3.heap.IsTuple t1 it1.toArray := p1.at fun o e => hk t1 o e
    have p2' : s3.heap.IsTuple t2 it2.toArray := p2.at fun o e => hk t2 o e
    have l1 : it1.length = 2 := i1.length
    have l2 : it2.length = 2 := i2.length
    have at1 : ∀ k (h1 : k < it1.toArray.size), ∃ t, it1.toArray[k] = .int ([(ps.getD i (0, 0)).1, (ps.getD i (0, 0)).2].getD k 0) t := fun k h1 => PyProof.Rows.IntsAre.int_at i1 _ _ (by simp at h1; simp [h1])
    have at2 : ∀ k (h1 : k < it2.toArray.size), ∃ t, it2.toArray[k] = .int ([(ps.getD j (0, 0)).1, (ps.getD j (0, 0)).2].getD k 0) t := fun k h1 => PyProof.Rows.IntsAre.int_at i2 _ _ (by simp at h1; simp [h1])
    have e0 : X.A.in1.units ≤ X.A.units + 64 := by
      first
        | exact Nat.le_add_right _ _
        | (show X.A.units + 1 ≤ _; omega)
        | (show X.A.units + 2 ≤ _; omega)
        | (show X.A.units + 3 ≤ _; omega)
    have hu1 : X.A.in1.units < cLine := Nat.lt_of_le_of_lt e0 hu
    have R := Ob.RcOp.tuples_lt (A := X.A.in1) (s := s3) (e := fun k => decide ([(ps.getD i (0, 0)).1, (ps.getD i (0, 0)).2].getD k 0 = [(ps.getD j (0, 0)).1, (ps.getD j (0, 0)).2].getD k 0)) (r := fun k => decide ([(ps.getD i (0, 0)).1, (ps.getD i (0, 0)).2].getD k 0 < [(ps.getD j (0, 0)).1, (ps.getD j (0, 0)).2].getD k 0)) p1' p2' hu1 (fun k h1 h2 => by
      obtain ⟨t, et⟩ := at1 k h1
      obtain ⟨t', et'⟩ := at2 k h2
      rw [et, et']
      exact SeqAt.EqAt.int_int _ _ _ _) (fun k h1 h2 _ => by
      obtain ⟨t, et⟩ := at1 k h1
      obtain ⟨t', et'⟩ := at2 k h2
      rw [et, et']
      exact Ob.RcOp.lt_int _ _ _ _)
    rw [List.size_toArray, List.size_toArray, l1, l2] at R
    refine R X.prog X.w E3 Q3 ?_
    have ev : Ob.lexAt (fun k => decide ([(ps.getD i (0, 0)).1, (ps.getD i (0, 0)).2].getD k 0 = [(ps.getD j (0, 0)).1, (ps.getD j (0, 0)).2].getD k 0)) (fun k => decide ([(ps.getD i (0, 0)).1, (ps.getD i (0, 0)).2].getD k 0 < [(ps.getD j (0, 0)).1, (ps.getD j (0, 0)).2].getD k 0)) (decide (2 < 2)) 0 (min 2 2) = pLt (ps.getD i (0, 0)) (ps.getD j (0, 0)) := by
      show Ob.lexAt _ _ _ 0 2 = _
      rw [Ob.lexAt_succ, Ob.lexAt_succ, Ob.lexAt_zero]
      unfold pLt
      simp only [List.getD_cons_zero, List.getD_cons_succ, decide_eq_true_eq]
      by_cases h1 : (ps.getD i (0, 0)).1 = (ps.getD j (0, 0)).1
      · rw [if_pos h1, if_pos h1]
        by_cases h2 : (ps.getD i (0, 0)).2 = (ps.getD j (0, 0)).2
        · rw [if_pos h2, h2]; simp
        · rw [if_neg h2]
      · rw [if_neg h1, if_neg h1]
    rw [ev]
    exact q3
  · have hb := best_le (fun i => ps.getD i (0, 0)) (its.toArray.size - 1)
    rw [List.size_toArray] at hb
    have hsz : its.toArray.size = its.length := List.size_toArray
    rw [List.size_toArray] at hP
    generalize argBest (fun i j => pLt (ps.getD i (0, 0)) (ps.getD j (0, 0))) (its.length - 1) = m at hb hP
    have hP' : its[m]? = some v := by simpa using hP
    have hml : m < xs.length := by have := (List.getElem?_eq_some_iff.mp hP').1; omega
    have hx : xs[m]? = some xs[m] := List.getElem?_eq_getElem hml
    obtain ⟨u2, h1, h2⟩ := rv.get hx
    rw [hP'] at h1
    cases h1
    have I2 := I.kept (t' := s'.toks) (h' := s'.heap) fun b o eo => hm.heap b o (fun hmem => by
      rw [List.mem_singleton.mp hmem] at eo
      exact absurd (Heap.lt_size eo) (Nat.lt_irrefl _)) (Heap.get?_push_of_some _ eo)
    obtain ⟨hh, gg, dd, tt, oo⟩ := s'
    have eg : gg = s.gens := hm.gens
    have ed : dd = s.drawn := hm.drawn
    have eo : oo = s.os := hm.os
    subst eg ed eo
    exact ⟨_, H, I2, h2, q m _ hx fun j hj => hb.2 j (by omega)⟩
/-! ### min(a list of pairs), over data -/
def pair1 : P → Option (Int × Int)
  | .tup [.int a, .int b] => some (a, b)
  | _ => none
def pairP (p : Int × Int) : P := .tup [.int p.1, .int p.2]
theorem pair1_of {x : P} {q : Int × Int} (h : pair1 x = some q) : x = pairP q := by
  unfold pair1 at h
  split at h
  · cases h; rfl
  · cases h
def pairsP : List P → Option (List (Int × Int))
  | [] => some []
  | p :: ps => match pair1 p, pairsP ps with
    | some a, some b => some (a :: b)
    | _, _ => none
theorem pairs_map (ps : List (Int × Int)) : pairsP (ps.map pairP) = some ps := by
  induction ps with
  | nil => rfl
  | cons p ps ih =>
    show (match pair1 (pairP p), pairsP (ps.map pairP) with | some a, some b => some (a :: b) | _, _ => none) = _
    rw [ih]; rfl
theorem pairs_of : ∀ {xs : List P} {ps : List (Int × Int)}, pairsP xs = some ps → xs = ps.map pairP
  | [], _, h => by cases h; rfl
  | x :: xs, ps, h => by
    unfold pairsP at h
    cases h1 : pair1 x with
    | none => rw [h1] at h; cases h
    | some q =>
      cases h2 : pairsP xs with
      | none => rw [h1, h2] at h; cases h
      | some l =>
        rw [h1, h2] at h
        cases h
        rw [pairs_of h2, pair1_of h1]
        rfl
section
variable [Rf] {K : PySem.W.Frag}
def dMinP (ps : List P) (Q : P → Prop) : Prop := match ps with
  | [p] => (match plst p with
    | some xs => (match pairsP xs with
      | some prs => 0 < prs.length ∧ ∀ i, i < prs.length → (∀ j, j < prs.length → pLe (prs.getD i (0, 0)) (prs.getD j (0, 0))) → Q (pairP (prs.getD i (0, 0)))
      | none => False)
    | none => False)
  | _ => False
theorem cs_minP : CbS K (rMinP K) dMinP := ⟨fun {B H xs ps QD Q} e r q k => by
  unfold dMinP at q
  split at q
  · rename_i p
    split at q
    · rename_i ys hp
      split at q
      · rename_i prs hn
        obtain ⟨v, rfl, rv⟩ := one_rp r
        obtain ⟨a, vs, rfl, h1, h2⟩ := plst_rp rv hp
        have ey := pairs_of hn
        subst ey
        have hl : vs.length = prs.length := by rw [h2.length, List.length_map]
        have at_ : ∀ i x, vs[i]? = some x → i < prs.length ∧ Rp K B (pairP (prs.getD i (0, 0))) x := fun i x hx => by
          have hi : i < prs.length := by have := (List.getElem?_eq_some_iff.mp hx).1; omega
          have hp2 : (prs.map pairP)[i]? = some (pairP (prs.getD i (0, 0))) := by
            rw [List.getElem?_map, List.getD_eq_getElem?_getD, List.getElem?_eq_getElem hi]; rfl
          obtain ⟨u, g1, g2⟩ := h2.get hp2
          rw [hx] at g1
          cases g1
          exact ⟨hi, g2⟩
        refine ⟨a, vs, prs, rfl, e.sqL h1, hl, fun i x hx => ?_, q.1, fun i x hx hm => ?_⟩
        · obtain ⟨_, t, ws, rfl, g1, g2⟩ := at_ i x hx
          obtain ⟨v1, v2, rfl, r1, r2⟩ := two_rp g2
          cases (show v1 = V.int _ from r1)
          cases (show v2 = V.int _ from r2)
          exact ⟨t, rfl, e.sqT g1⟩
        · obtain ⟨hi, g⟩ := at_ i x hx
          exact k _ B H _ (q.2 i hi hm) g (.refl e)
      · exact q.elim
    · exact q.elim
  · exact q.elim⟩
def dMinL (ps : List P) (Q : P → Prop) : Prop := match ps with
  | [p] => (match plst p with
    | some xs => (match intsP xs with
      | some ns => 0 < ns.length ∧ ∀ m, m ∈ ns → (∀ y, y ∈ ns → m ≤ y) → Q (.int m)
      | none => False)
    | none => False)
  | _ => False
theorem cs_minL : CbS K (rMin K) dMinL := ⟨fun {B H xs ps QD Q} e r q k => by
  unfold dMinL at q
  split at q
  · rename_i p
    split at q
    · rename_i ys hp
      split at q
      · rename_i ns hn
        obtain ⟨v, rfl, rv⟩ := one_rp r
        obtain ⟨a, vs, rfl, h1, h2⟩ := plst_rp rv hp
        rw [ints_rp h2 hn] at h1
        exact ⟨a, ns, rfl, e.sqL h1, q.1, fun m h3 h4 => k _ B H _ (q.2 m h3 h4) rfl (.refl e)⟩
      · exact q.elim
    · exact q.elim
  · exact q.elim⟩
/-! ### l.index(n), l a list of ints -/
variable {m : Bool} {te : TE} {de : dE} {ta : TA} {da : dA} {X : Cx} {o e : Expr} {apos cpos : Pos}
def idxQ (p q : P) (Q : P → Prop) : Prop := match plst p, q with
  | some xs, .int n => (match intsP xs with
    | some ns => ∃ j : Nat, ns[j]? = some n ∧ (∀ k, k < j → ns[k]? ≠ some n) ∧ Q (.int (j : Nat))
    | none => False)
  | _, _ => False
def idxA (p : P) (as : List AR) (Q : P → Prop) : Prop := match prs as with
  | some [q] => idxQ p q Q
  | _ => False
def dIdx (de : dE) (da : dA) : dE := fun env Q => de env fun p e => (plst p).isSome = true ∧ da e fun as e2 => idxA p as fun z => Q z e2
theorem flat_ints (ns : List Int) : (ns.map V.int).all flatV = true := by
  induction ns with
  | nil => rfl
  | cons n ns ih => rw [List.map_cons, List.all_cons, ih]; rfl
theorem snd_idx (h : SndE m K te de) (g : SndA m K ta da) : SndE m K (tBM K "list" (rIndex K) te ta) (dIdx de da) := ⟨fun {B H σ env G QD Q} w q k => h.run w q fun p e v B1 H1 G1 q1 w1 r1 s1 u1 => by
  obtain ⟨hsome, q1⟩ := q1
  obtain ⟨xs0, hxs0⟩ := Option.isSome_iff_exists.mp hsome
  have ty : tyV K "list" v H1 := by
    obtain ⟨a, ws, rfl, h1, _⟩ := plst_rp r1 hxs0
    exact .inl ⟨rfl, ws, w1.ex.sqL h1⟩
  refine ⟨ty, g.run w1 q1 fun as e2 vs B2 H2 G2 q2 w2 r2 s2 u2 => ?_⟩
  unfold idxA at q2
  split at q2
  · rename_i q hq
    unfold idxQ at q2
    split at q2
    · rename_i xs n hp
      split at q2
      · rename_i ns hns
        obtain ⟨j, hj, hno, q2⟩ := q2
        obtain ⟨u, rfl, ru⟩ := one_rp (r2.all hq)
        cases (show u = V.int n from ru)
        obtain ⟨a, ws, rfl, h1, h2⟩ := plst_rp (Rp.mono s2.ex _ r1) hp
        rw [ints_rp h2 hns] at h1
        refine ⟨a, ns.map V.int, .int n, j, .int n, rfl, rfl, w2.ex.sqL h1, rfl, flat_ints ns, by rw [List.getElem?_map, hj]; rfl, by show decide (n = n) = true; simp, fun i z' hi hz => ?_, k _ e2 _ B2 H2 G2 q2 w2 rfl (s1.trans s2) (u1.trans u2)⟩
        rw [List.getElem?_map] at hz
        cases hk : ns[i]? with
        | none => rw [hk] at hz; cases hz
        | some b =>
          rw [hk] at hz
          cases hz
          have : b ≠ n := fun e => hno i hi (by rw [hk, e])
          show decide (b = n) = false
          exact decide_eq_false this
      · exact q2.elim
    · exact q2.elim
  · exact q2.elim⟩
theorem de_idx {e0 : Expr} (h : PE X o te → PA X [e0] ta → PE X (.Call (.Attribute o "index" apos) [e0] [] cpos) (tBM X.K "list" (rIndex X.K) te ta)) (ho : DE m X o te de) (ha : DA m X [e0] ta da) :
    DE m X (.Call (.Attribute o "index" apos) [e0] [] cpos) (tBM X.K "list" (rIndex X.K) te ta) (dIdx de da) := ⟨h ho.pe ha.pe, snd_idx ho.sd ha.sd⟩
end
end DL
set_option Elab.async false
set_option linter.all false
set_option maxRecDepth 100000
/-! chains of two comparisons, starred items, name += e, what a try may hold -/
namespace DL
open PySem PySem.Spec L2
section
variable [Rf] {m : Bool} {pn : List Nat} {K : PySem.W.Frag} {ta tb tc te : TE} {da db dc de : dE} {tA : TA} {dA0 : dA} {X : Cx} {a b c e : Expr} {es : List Expr} {p pos : Pos}
/-! ### a op b op' c -/
def isBlQ (z : P) (Q : Bool → Prop) : Prop := match z with
  | .bl c => Q c
  | _ => False
def dChain (rd rd' : P → P → (P → Prop) → Prop) (da db dc : dE) : dE := fun env Q => da env fun p e1 => db e1 fun q e2 => rd p q fun z => isBlQ z fun k => cnd k (dc e2 fun s e3 => rd' q s fun z' => Q z' e3) (Q (.bl false) e2)
theorem snd_chain {r r' : R2} {rd rd' : P → P → (P → Prop) → Prop} (hs : OpS K r rd) (hs' : OpS K r' rd') (ha : SndE m K ta da) (hb : SndE m K tb db) (hc : SndE m K tc dc) : SndE m K (tChain r r' ta tb tc) (dChain rd rd' da db dc) :=
  ⟨fun {B H σ env G QD Q} w h k => ha.run w h fun p e1 v B1 H1 G1 q1 w1 r1 s1 u1 => hb.run w1 q1 fun q e2 u B2 H2 G2 q2 w2 r2 s2 u2 =>
    hs.run w2.ex (Rp.mono s2.ex p r1) r2 q2 fun z B3 H3 pz q3 r3 g3 => by
      cases pz with
      | bl c =>
        refine ⟨c, r3, ?_⟩
        have st := (s1.trans s2).trans (g3.stp (G := G2))
        have pu := (u1.trans u2).trans (.gr g3)
        cases c with
        | false =>
          rw [if_neg Bool.false_ne_true]
          exact k _ e2 _ B3 H3 G2 (q3.2 rfl) (w2.gr g3) rfl st pu
        | true =>
          rw [if_pos rfl]
          refine hc.run (w2.gr g3) (q3.1 rfl) fun s e3 t B4 H4 G4 q4 w4 r4 s4 u4 => ?_
          exact hs'.run w4.ex (Rp.mono s4.ex q (Rp.mono g3.b q r2)) r4 q4 fun z' B5 H5 pz' q5 r5 g5 => k pz' e3 z' B5 H5 G4 q5 (w4.gr g5) r5 ((st.trans s4).trans g5.stp) ((pu.trans u4).trans (.gr g5))
      | _ => exact q3.elim⟩
theorem de_chain {op op' : CmpOp} {r r' : R2} {rd rd' : P → P → (P → Prop) → Prop} (ho : OpR X (compareOp op) r) (hs : OpS X.K r rd) (ho' : OpR X (compareOp op') r') (hs' : OpS X.K r' rd') (ha : DE m X a ta da) (hb : DE m X b tb db) (hc : DE m X c tc dc)
    (hm : lastMarks [op, op'] [b, c] = false := by with_unfolding_all rfl) : DE m X (.Compare a [op, op'] [b, c] pos) (tChain r r' ta tb tc) (dChain rd rd' da db dc) := ⟨pe_chain ho ho' ha.pe hb.pe hc.pe hm, snd_chain hs hs' ha.sd hb.sd hc.sd⟩
theorem dt_chain {op op' : CmpOp} {r r' : R2} {rd rd' : P → P → (P → Prop) → Prop} (ho : OpR X (compareOp op) r) (hs : OpS X.K r rd) (ho' : OpR X (compareOp op') r') (hs' : OpS X.K r' rd') (ha : DE m X a ta da) (hb : DE m X b tb db) (hc : DE m X c tc dc)
    (hm : lastMarks [op, op'] [b, c] = false := by with_unfolding_all rfl) : DT m X (.Compare a [op, op'] [b, c] pos) (tTest (tChain r r' ta tb tc)) (dB (dChain rd rd' da db dc)) := ⟨pt_chain ho ho' ha.pe hb.pe hc.pe hm, snd_test (snd_chain hs hs' ha.sd hb.sd hc.sd)⟩
/-! ### *e among the items -/
def pitems : P → Option (List P)
  | .lst xs => some xs
  | .rol xs => some xs
  | .tup xs => some xs
  | _ => none
theorem pitems_rp {B : Hp} {p : P} {v : V} {ps : List P} (r : Rp K B p v) (h : pitems p = some ps) : ∃ a vs, v = .ref a ∧ (SqT K B a vs ∨ SqL K B a vs) ∧ RpA K B ps vs := by
  cases p with
  | lst qs => cases h; obtain ⟨a, vs, e1, e2, e3⟩ := r; exact ⟨a, vs, e1, .inr (SqL.of e2), e3⟩
  | rol qs => cases h; obtain ⟨a, vs, e1, e2, e3⟩ := r; exact ⟨a, vs, e1, .inr e2, e3⟩
  | tup qs => cases h; obtain ⟨a, vs, e1, e2, e3⟩ := r; exact ⟨a, vs, e1, .inl e2, e3⟩
  | _ => cases h
def starQ (p : P) (f : List P → Prop) : Prop := match pitems p with
  | some ps => f ps
  | none => False
def dStar (de : dE) (dr : dA) : dA := fun env Q => de env fun p e => starQ p fun ps => dr e fun as e2 => Q (ps.map Sum.inl ++ as) e2
theorem RpX.app {B : Hp} {σ : L2.St} {as : List AR} {us : List V} : ∀ {ps : List P} {vs : List V}, RpA K B ps vs → RpX K B σ as us → RpX K B σ (ps.map Sum.inl ++ as) (vs ++ us)
  | [], _, h, g => by rw [show _ = [] from h]; exact g
  | p :: ps, _, ⟨v, r, e1, e2, e3⟩, g => by rw [e1]; exact ⟨v, r ++ us, rfl, e2, RpX.app e3 g⟩
theorem snd_star (h : SndE m K te de) (g : SndA m K tA dA0) : SndA m K (StX.tStar K te tA) (dStar de dA0) := ⟨fun w q k => h.run w q fun p e1 v B1 H1 G1 q1 w1 r1 s1 u1 => by
  unfold starQ at q1
  split at q1
  · rename_i ps hp
    obtain ⟨a, vs, rfl, h2, h3⟩ := pitems_rp r1 hp
    refine ⟨a, vs, rfl, h2.imp w1.ex.sqT w1.ex.sqL, g.run w1 q1 fun as e2 us B2 H2 G2 q2 w2 r2 s2 u2 => ?_⟩
    exact k _ e2 _ B2 H2 G2 q2 w2 (RpX.app (RpA.mono s2.ex ps h3) r2) (s1.trans s2) (u1.trans u2)
  · exact q1.elim⟩
theorem da_star (h : DE m X e te de) (g : DA m X es tA dA0) (hs : starEach (.Starred e p :: es) X.env = (true, eval e X.env) :: starEach es X.env := by rfl) : DA m X (.Starred e p :: es) (StX.tStar X.K te tA) (dStar de dA0) := ⟨StX.pa_star h.pe g.pe hs, snd_star h.sd g.sd⟩
/-! ### name += e, ints -/
def augQ (o : Option (Option D)) (p : P) (f : Int → Int → Prop) : Prop := match o, p with
  | some (some (.sh (.int i))), .int j => f i j
  | _, _ => False
def dAug (i : Nat) (g : Int → Int → Int) (de : dE) : dS := fun Dd env => augQ env[i]? (.int 0) (fun _ _ => de env fun p e => augQ env[i]? p fun x y => Dd.nx (e.set i (some (.sh (.int (g x y))))))
theorem snd_aug {i : Nat} {g : Int → Int → Int} (hp : i ∉ pn) (h : SndE true K te de) : SndS pn K (tAug i te (ipI g)) (dAug i g de) := ⟨fun {B H σ env G Dd D} w q n r k1 k2 => by
  unfold dAug augQ at q
  split at q
  · rename_i x y e0 ey
    obtain ⟨v, h1, h2⟩ := w.sl i _ e0
    cases (show v = V.int x from h2.2)
    refine ⟨_, h1, h.run w q fun p e1 u B1 H1 G1 q1 w1 r1 s1 u1 => ?_⟩
    split at q1
    · rename_i x' y' e2
      rw [e0] at e2
      cases e2
      cases (show u = V.int y' from r1)
      refine ⟨_, _, rfl, rfl, ?_⟩
      obtain ⟨rfl, rfl, gg⟩ := u1 rfl
      exact n _ _ B1 H1 _ q1 (w1.putS (env_lt e0) rfl) (s1.trans (stp_put fun _ h => absurd h List.not_mem_nil)) (Pin.set hp)
    · exact q1.elim
  · exact q.elim⟩
theorem ds_aug {i : Nat} {x : Str} {op : Operator} {g : Int → Int → Int} {p' : Pos} (hp : i ∉ pn) (h : PE X e te → PS X (.AugAssign (.Name x p') op e pos) (tAug i te (ipI g))) (he : DE true X e te de) : DS pn X (.AugAssign (.Name x p') op e pos) (tAug i te (ipI g)) (dAug i g de) := ⟨h he.pe, snd_aug hp he.sd⟩
end
/-! ### what a try holds: it goes on, or it raises while the slots stand as they stood -/
section
variable [rI : Rf] {pn : List Nat} {K : PySem.W.Frag} {te : TE} {de : dE} {ta : TA} {da : dA} {X : Cx} {tt : TT} {dt : dT}
structure CXS (pn : List Nat) (K : PySem.W.Frag) (ts : (St → XK) → TS) (rd : Env → dEnds → (Xn → Prop) → Prop) : Prop where
  run : ∀ {B H : Hp} {σ : St} {env : Env} {G : Fp} {Dd : dEnds} {D : Ends} {QX : Xn → Prop} {E : St → XK}, Wd K B H σ env G → rd env Dd QX → Nx K pn B H G σ Dd.nx D.nx → Rt K pn B H G σ Dd.rt D.rt →
    (∀ x dd v B' H', QX x → Ex H B' → Ex B' H' → B' dd = none → H' dd = some (.xd [(x.f, v)]) → Rp K B' x.p v → E σ (.ref x.C) (some dd) H') → ts E D σ H
theorem cxs_expr {tc : (St → XK) → TE} {rd : Env → (P → Prop) → (Xn → Prop) → Prop} (h : CX1 K tc rd) : CXS pn K (fun E => tDrop (tc E)) (fun env Dd QX => rd env (fun _ => Dd.nx env) QX) :=
  ⟨fun {B H σ env G Dd D QX E} w q n r k => h.run w q (fun z v B' H' qz rz gg => n env σ B' H' G qz (w.gr gg) gg.stp .refl) k⟩
theorem cxs_asg {tc : (St → XK) → TE} {rd : Env → (P → Prop) → (Xn → Prop) → Prop} {j : Nat} (hj : j ∉ pn) (h : CX1 K tc rd) : CXS pn K (fun E => tAsg (tc E) (gName j)) (fun env Dd QX => rd env (fun p => inE j env = true ∧ Dd.nx (env.set j (some (.sh p)))) QX) :=
  ⟨fun {B H σ env G Dd D QX E} w q n r k => h.run w q (fun z v B' H' qz rz gg => n _ _ B' H' _ qz.2 ((w.gr gg).putS (inE_lt qz.1) rz) (gg.stp.trans (stp_put fun _ h => absurd h List.not_mem_nil)) (Pin.set hj)) k⟩
theorem cxs_ret {tc : (St → XK) → TE} {rd : Env → (P → Prop) → (Xn → Prop) → Prop} (h : CX1 K tc rd) : CXS pn K (fun E => tRet (tc E)) (fun env Dd QX => rd env (fun p => Dd.rt (.sh p) env) QX) :=
  ⟨fun {B H σ env G Dd D QX E} w q n r k => h.run w q (fun z v B' H' qz rz gg => r _ env σ v [] B' H' G qz (w.gr gg) ⟨⟨rfl, rz⟩, List.nodup_nil, fun _ h => absurd h List.not_mem_nil, fun _ h => absurd h List.not_mem_nil, fun _ h => absurd h List.not_mem_nil⟩ gg.stp .refl) k⟩
theorem cxs_if {t1 t2 : (St → XK) → TS} {r1 r2 : Env → dEnds → (Xn → Prop) → Prop} (hc : SndT true K tt dt) (h1 : CXS pn K t1 r1) (h2 : CXS pn K t2 r2) : CXS pn K (fun E => tIfS tt (t1 E) (t2 E)) (fun env Dd QX => dt env fun c e => cnd c (r1 e Dd QX) (r2 e Dd QX)) :=
  ⟨fun {B H σ env G Dd D QX E} w q n r k => hc.run w q fun c e1 B1 H1 G1 q1 w1 s1 u1 => by
    obtain ⟨rfl, rfl, gg⟩ := u1 rfl
    have kk : ∀ x dd v B' H', QX x → Ex H1 B' → Ex B' H' → B' dd = none → H' dd = some (.xd [(x.f, v)]) → Rp K B' x.p v → E σ (.ref x.C) (some dd) H' := fun x dd v B' H' qx e1 e2 hn hd rp => k x dd v B' H' qx (gg.h.trans e1) e2 hn hd rp
    cases c with
    | true =>
      show (if true = true then t1 E D σ H1 else t2 E D σ H1)
      rw [if_pos rfl]
      exact h1.run w1 (q1.1 rfl) (n.at s1 .refl) (r.at s1 .refl) kk
    | false =>
      show (if false = true then t1 E D σ H1 else t2 E D σ H1)
      rw [if_neg Bool.false_ne_true]
      exact h2.run w1 (q1.2 rfl) (n.at s1 .refl) (r.at s1 .refl) kk⟩
def dTryS (K : PySem.W.Frag) (c : Value) (i : Nat) (rd : Env → dEnds → (Xn → Prop) → Prop) (dsu : Addr → Xn → dS) (RD : Xn → Prop) : dS := fun Dd env => rd env Dd (tryX K c i dsu RD Dd env)
theorem snd_tryS {c : Value} {i : Nat} {tc : (St → XK) → TS} {rd : Env → dEnds → (Xn → Prop) → Prop} {ts : Addr → Value → Option Addr → TS} {dsu : Addr → Xn → dS} {RD : Xn → Prop} {E : XK} (hE : HE K RD E) (hp : i ∉ pn) (hc : CXS pn K tc rd)
    (hsu : ∀ (a : Addr) (x : Xn) (dd : Addr) (v : V) (r : Rf), (∀ B, Rp K B x.p v) → r.R dd = none → @SndS (rfX x dd v r) pn K (ts a (.ref x.C) (some dd)) (dsu a x)) :
    SndS pn K (fun D σ H => tc (WE (wAs K c i ts (WO E) D)) D σ H) (dTryS K c i rd dsu RD) := ⟨fun {B H σ env G Dd D} w q n r k1 k2 => by
  refine hc.run w q n r fun x dd v B' H' qx e1 e2 hn hd rp => ?_
  obtain ⟨hat, ⟨hm, hi, hs⟩ | ⟨hm, hr⟩⟩ := qx
  · refine ⟨true, hm, fun _ a ha => ?_, fun h => by cases h⟩
    have hH : H dd = none := e1.back hn
    have hB : B dd = none := w.ex.back hH
    have hR : Rf.R dd = none := w.rf.back hB
    have g : Gr B H (upd B dd (.xd [(x.f, v)])) H' := ⟨fun b o h => by rw [upd_ne (ne_of_none h hB)]; exact h, e1.trans e2, fun b o h => by
      by_cases e : b = dd
      · subst e; rw [upd_same] at h; cases h; exact hd
      · rw [upd_ne e] at h; exact e2 b o (e1 b o (w.ex b o h)), fun b o h hb => by rw [upd_ne (ne_of_none h hH)]; exact hb⟩
    have w2 := w.gr g
    have hi' := inE_lt hi
    have s4 : Stp B H G (upd B dd (.xd [(x.f, v)])) H' (fun j => if j = i then [] else G j) := g.stp.trans (stp_put fun _ h => absurd h List.not_mem_nil)
    have p4 : Pin pn σ (σ.set i (some (V.ref a))) := Pin.set hp
    have up : Ex Rf.R (upd Rf.R dd (.xd [(x.f, v)])) := fun b o h => by rw [upd_ne (ne_of_none h hR)]; exact h
    have w4 := w2.putS (p := .ob a) (v := V.ref a) hi' rfl
    have up2 : Ex (upd Rf.R dd (.xd [(x.f, v)])) (upd B dd (.xd [(x.f, v)])) := fun b o h => by
      by_cases e : b = dd
      · subst e
        rw [upd_same] at h ⊢; exact h
      · rw [upd_ne e] at h ⊢; exact w.rf b o h
    exact run_w (R1 := rI) (R2 := rfX x dd v rI) up (hsu a x dd v rI (fun B => atom_rp hat rp B) hR) w4.toWd0 up2 (hs a) (nx_none hp (n.at s4 p4)) (r.at s4 p4) (nx_none hp (k1.at s4 p4)) (nx_none hp (k2.at s4 p4))
  · exact ⟨false, hm, fun h => (by cases h), fun _ => hE x dd v B' H' hr (w.rf.trans (w.ex.trans e1)) e2 hn hd rp⟩⟩
theorem ds_tryS {c : Value} {i : Nat} {tc : (St → XK) → TS} {rd : Env → dEnds → (Xn → Prop) → Prop} {ts : Addr → Value → Option Addr → TS} {dsu : Addr → Value → Option Addr → Xn → Addr → dS} {RD : Xn → Prop} {E : XK} {st : Stmt} {suite : List Stmt}
    (hE : HE X.K RD E) (hp : i ∉ pn) (hc : CXS pn X.K tc rd)
    (hps : Suite X suite ts → PS X st (fun D σ H => tc (WE (wAs X.K c i ts (WO E) D)) D σ H))
    (hsu : SuiteD pn X suite ts dsu) :
    DS pn X st (fun D σ H => tc (WE (wAs X.K c i ts (WO E) D)) D σ H) (dTryS X.K c i rd (fun a x Dd env => ∀ dd, dsu a (.ref x.C) (some dd) x dd Dd env) RD) :=
  ⟨hps fun a oe cls d pins hz hf => dss_pe (hsu a oe cls d pins ⟨0, "", .non⟩ 0 .non rf0 hz hf (fun _ => rfl)),
   snd_tryS hE hp hc fun a x dd v r hv _ => dss_run (K := X.K) (hsu a { cls := .ref x.C, dict := some dd, data := .fields #[] } (.ref x.C) (some dd) [] x dd v r ⟨rfl, rfl⟩ ⟨_, rfl⟩ hv) rfl fun Dd env q => q dd⟩
end
/-! ### the same with its rows -/
section
variable [rI : Rf] {pn : List Nat} {ta : TA} {da : dA} {X : Cx} {tt : TT} {dt : dT} {fs : FSp} {fx : FXp} {j i : Nat} {c0 : Expr} {st : Stmt} {s1 s2 body suite : List Stmt} {t1 t2 tc : (St → XK) → TS} {r1 r2 rd : Env → dEnds → (Xn → Prop) → Prop} {pos : Pos}
structure DXS [Rf] (pn : List Nat) (X : Cx) (st : List Stmt) (tc : (St → XK) → TS) (rd : Env → dEnds → (Xn → Prop) → Prop) : Prop where
  pe : ∀ (W : WX) (pn' : List (Addr × Obj)) (xe : Value → Shared → Prop), Takes (X.tr pn' xe) W → PassesOwn (model X.prog X.w) X.A X.env xe → PSs (X.tr pn' xe) st (tc (WE W))
  sd : CXS pn X.K tc rd
theorem dxs_if (hT : DT true X c0 tt dt) (hTr : ∀ (pn' : List (Addr × Obj)) (xe : Value → Shared → Prop), PT (X.tr pn' xe) c0 tt) (h1 : DXS pn X s1 t1 r1) (h2 : DXS pn X s2 t2 r2) :
    DXS pn X [.If c0 s1 s2 pos] (fun E => tIfS tt (t1 E) (t2 E)) (fun env Dd QX => dt env fun c e => cnd c (r1 e Dd QX) (r2 e Dd QX)) :=
  ⟨fun W pn' xe tk po => pss_one (ps_if (hTr pn' xe) (h1.pe W pn' xe tk po) (h2.pe W pn' xe tk po)), cxs_if hT.sd h1.sd h2.sd⟩
def asgVal : Stmt → Expr
  | .Assign _ e _ => e
  | _ => .Constant .none 0 ⟨0, 0, 0, 0⟩
def exprVal : Stmt → Expr
  | .Expr e _ => e
  | _ => .Constant .none 0 ⟨0, 0, 0, 0⟩
theorem dxs_asgF (hj : j ∉ pn) (ha : DA true X (callArgs (asgVal st)) ta da) (hpe : ∀ (W : WX) (pn' : List (Addr × Obj)) (xe : Value → Shared → Prop), Takes (X.tr pn' xe) W → PS (X.tr pn' xe) st (tAsg (tCallS (spX X.K fs fx) (WE W) ta) (gName j))) :
    DXS pn X [st] (fun E => tAsg (tCallS (spX X.K fs fx) E ta) (gName j)) (fun env Dd QX => cxCall fs fx da env (fun p => inE j env = true ∧ Dd.nx (env.set j (some (.sh p)))) QX) :=
  ⟨fun W pn' xe tk _ => pss_one (hpe W pn' xe tk), cxs_asg hj (cx_call ha.sd)⟩
theorem dxs_exprF (ha : DA true X (callArgs (exprVal st)) ta da) (hpe : ∀ (W : WX) (pn' : List (Addr × Obj)) (xe : Value → Shared → Prop), Takes (X.tr pn' xe) W → PS (X.tr pn' xe) st (tDrop (tCallS (spX X.K fs fx) (WE W) ta))) :
    DXS pn X [st] (fun E => tDrop (tCallS (spX X.K fs fx) E ta)) (fun env Dd QX => cxCall fs fx da env (fun _ => Dd.nx env) QX) :=
  ⟨fun W pn' xe tk _ => pss_one (hpe W pn' xe tk), cxs_expr (cx_call ha.sd)⟩
theorem ds_tryD {c : Value} {ts : Addr → Value → Option Addr → TS} {dsu : Addr → Value → Option Addr → Xn → Addr → dS} {RD : Xn → Prop} {E : XK} (hE : HE X.K RD E) (hp : i ∉ pn) (hd : DXS pn X body tc rd)
    (hps : (∀ (W : WX) (pn' : List (Addr × Obj)) (xe : Value → Shared → Prop), Takes (X.tr pn' xe) W → PassesOwn (model X.prog X.w) X.A X.env xe → PSs (X.tr pn' xe) body (tc (WE W))) → Suite X suite ts → PS X st (fun D σ H => tc (WE (wAs X.K c i ts (WO E) D)) D σ H))
    (hsu : SuiteD pn X suite ts dsu) :
    DS pn X st (fun D σ H => tc (WE (wAs X.K c i ts (WO E) D)) D σ H) (dTryS X.K c i rd (fun a x Dd env => ∀ dd, dsu a (.ref x.C) (some dd) x dd Dd env) RD) := ds_tryS hE hp hd.sd (hps hd.pe) hsu
end
/-! ### x in a list or tuple of ints, of texts -/
section
variable {K : PySem.W.Frag}
def dIn (neg : Bool) : P → P → (P → Prop) → Prop := fun p q Q => (∃ (i : Int) (zs : List Int), p = .int i ∧ pitems q = some (zs.map P.int) ∧ Q (.bl (if neg then !decide (i ∈ zs) else decide (i ∈ zs)))) ∨
  ∃ (s : Str) (ss : List Str), p = .str s ∧ pitems q = some (ss.map P.str) ∧ Q (.bl (if neg then !decide (s ∈ ss) else decide (s ∈ ss)))
theorem RpA.strs_inv {B : Hp} : ∀ {ss : List Str} {vs : List V}, RpA K B (ss.map P.str) vs → vs = ss.map V.str
  | [], _, h => h
  | s :: ss, _, ⟨v, r, e1, e2, e3⟩ => by rw [e1, RpA.strs_inv e3, show v = V.str s from e2]; rfl
theorem inVI (i : Int) : ∀ zs : List Int, inV (.int i) (zs.map V.int) = decide (i ∈ zs)
  | [] => by simp [inV]
  | z :: zs => by
    have ih := inVI i zs
    unfold inV at ih ⊢
    rw [List.map_cons, List.any_cons, ih]
    by_cases h : z = i
    · subst h
      rw [decide_eq_true (List.mem_cons_self (a := z) (l := zs))]
      have e : eqV (V.int z) (V.int z) = true := by simp [eqV]
      rw [e]; rfl
    · have e : eqV (V.int z) (V.int i) = false := by simp [eqV, h]
      rw [e, Bool.false_or]
      by_cases h2 : i ∈ zs
      · rw [decide_eq_true h2, decide_eq_true (List.mem_cons_of_mem _ h2)]
      · rw [decide_eq_false h2, decide_eq_false fun q => (List.mem_cons.mp q).elim (fun z => h z.symm) h2]
theorem inVS (i : Str) : ∀ zs : List Str, inV (.str i) (zs.map V.str) = decide (i ∈ zs)
  | [] => by simp [inV]
  | z :: zs => by
    have ih := inVS i zs
    unfold inV at ih ⊢
    rw [List.map_cons, List.any_cons, ih]
    by_cases h : z = i
    · subst h
      rw [decide_eq_true (List.mem_cons_self (a := z) (l := zs))]
      have e : eqV (V.str z) (V.str z) = true := by simp [eqV]
      rw [e]; rfl
    · have e : eqV (V.str z) (V.str i) = false := by simp [eqV, h]
      rw [e, Bool.false_or]
      by_cases h2 : i ∈ zs
      · rw [decide_eq_true h2, decide_eq_true (List.mem_cons_of_mem _ h2)]
      · rw [decide_eq_false h2, decide_eq_false fun q => (List.mem_cons.mp q).elim (fun z => h z.symm) h2]
theorem flatVI (zs : List Int) : (zs.map V.int).all flatV = true := List.all_eq_true.mpr fun v hv => by
  obtain ⟨z, _, rfl⟩ := List.mem_map.mp hv
  rfl
theorem flatVS (zs : List Str) : (zs.map V.str).all flatV = true := List.all_eq_true.mpr fun v hv => by
  obtain ⟨z, _, rfl⟩ := List.mem_map.mp hv
  rfl
theorem os_in' (neg : Bool) : OpS K (rIn K neg) (dIn neg) := ⟨fun {B H x y p q QD Q} ex r1 r2 h k => by
  rcases h with ⟨i, zs, rfl, hq, h⟩ | ⟨s, ss, rfl, hq, h⟩
  · obtain ⟨a, vs, rfl, h2, h3⟩ := pitems_rp r2 hq
    cases RpA.ints_inv h3
    cases (show x = V.int i from r1)
    refine ⟨a, _, rfl, (h2.imp ex.sqT ex.sqL).symm, rfl, flatVI zs, ?_⟩
    rw [inVI]
    exact k _ B H _ h rfl (.refl ex)
  · obtain ⟨a, vs, rfl, h2, h3⟩ := pitems_rp r2 hq
    cases RpA.strs_inv h3
    cases (show x = V.str s from r1)
    refine ⟨a, _, rfl, (h2.imp ex.sqT ex.sqL).symm, rfl, flatVS ss, ?_⟩
    rw [inVS]
    exact k _ B H _ h rfl (.refl ex)⟩
theorem os_in : OpS K (rIn K false) (dIn false) := os_in' false
theorem os_notIn : OpS K (rIn K true) (dIn true) := os_in' true
/-! ### a sign in a text -/
def dInSign (neg : Bool) : P → P → (P → Prop) → Prop := fun p q Q => match p, q with
  | .str s, .str z => ∃ c : Nat, s = ⟨#[c]⟩ ∧ Q (.bl (if neg then !decide (c ∈ z.cps.toList) else decide (c ∈ z.cps.toList)))
  | _, _ => False
theorem os_insign : OpS K (fun x y H Q => ∃ (c : Nat) (z : Str), x = .str ⟨#[c]⟩ ∧ y = .str z ∧ Q (.bl (decide (c ∈ z.cps.toList))) H) (dInSign false) := ⟨fun {B H x y p q QD Q} ex r1 r2 h k => by
  unfold dInSign at h
  split at h
  · obtain ⟨c, rfl, h⟩ := h
    exact ⟨c, _, r1, r2, k _ B H _ h rfl (.refl ex)⟩
  · exact h.elim⟩
theorem os_notinsign : OpS K (fun x y H Q => ∃ (c : Nat) (z : Str), x = .str ⟨#[c]⟩ ∧ y = .str z ∧ Q (.bl (!decide (c ∈ z.cps.toList))) H) (dInSign true) := ⟨fun {B H x y p q QD Q} ex r1 r2 h k => by
  unfold dInSign at h
  split at h
  · obtain ⟨c, rfl, h⟩ := h
    exact ⟨c, _, r1, r2, k _ B H _ h rfl (.refl ex)⟩
  · exact h.elim⟩
end
end DL
set_option Elab.async false
set_option linter.all false
set_option maxRecDepth 100000
namespace PySem.ZL
open PySem Sem
open PySem.W (kdx_alive)
/-- an iterator, its list, the list's items -/
abbrev Tri := Addr × Addr × Array Value
def Its (h : Heap) (xs : List Tri) (i : Nat) : Prop := ∀ p ∈ xs, h.IsListIter p.1 p.2.1 i ∧ h.IsList p.2.1 p.2.2
def val (i : Nat) (p : Tri) : Value := p.2.2.getD i .none
/-- what was there is still there, but for some places -/
def Kp (W : Addr → Prop) (h h' : Heap) : Prop := ∀ c o, ¬ W c → h.get? c = some o → h'.get? c = some o
theorem Kp.mono {W V : Addr → Prop} {h h' : Heap} (k : Kp W h h') (hv : ∀ c, W c → V c) : Kp V h h' := fun c o hc e => k c o (fun x => hc (hv c x)) e
theorem Kp.trans {W : Addr → Prop} {h h' h'' : Heap} (k : Kp W h h') (l : Kp W h' h'') : Kp W h h'' := fun c o hc e => l c o hc (k c o hc e)
theorem Kp.same {a : Addr} {h h' : Heap} (s : Heap.SameBut a h h') : Kp (· = a) h h' := fun c o hc e => s.extBut c o hc e
theorem Kp.list {W : Addr → Prop} {h h' : Heap} (k : Kp W h h') {l : Addr} {xs : Array Value} (hl : h.IsList l xs) (hw : ¬ W l) : h'.IsList l xs := by
  obtain ⟨o, e, r⟩ := hl
  exact ⟨o, k l o hw e, r⟩
theorem Kp.iter {W : Addr → Prop} {h h' : Heap} (k : Kp W h h') {a l : Addr} {i : Nat} (hl : h.IsListIter a l i) (hw : ¬ W a) : h'.IsListIter a l i := by
  obtain ⟨o, e, r⟩ := hl
  exact ⟨o, k a o hw e, r⟩
theorem Kp.its {W : Addr → Prop} {h h' : Heap} (k : Kp W h h') {xs : List Tri} {i : Nat} (H : Its h xs i) (hw : ∀ p ∈ xs, ¬ W p.1 ∧ ¬ W p.2.1) : Its h' xs i := fun p hp =>
  ⟨k.iter (H p hp).1 (hw p hp).1, k.list (H p hp).2 (hw p hp).2⟩
theorem val_some {i : Nat} {p : Tri} (h : i < p.2.2.size) : p.2.2[i]? = some (val i p) := by
  unfold val
  rw [Array.getD_eq_getD_getElem?, Array.getElem?_eq_getElem h]; rfl
/-- the iterators apart from each other and from the lists -/
structure Apart (xs : List Tri) : Prop where
  nd : (xs.map (·.1)).Nodup
  ls : ∀ p ∈ xs, ∀ q ∈ xs, p.2.1 ≠ q.1
theorem Apart.tail {p : Tri} {r : List Tri} (h : Apart (p :: r)) : Apart r := ⟨(List.nodup_cons.mp h.nd).2, fun a ha b hb => h.ls a (List.mem_cons_of_mem _ ha) b (List.mem_cons_of_mem _ hb)⟩
theorem Apart.ne {p : Tri} {r : List Tri} (h : Apart (p :: r)) {q : Tri} (hq : q ∈ r) : q.1 ≠ p.1 := fun e => (List.nodup_cons.mp h.nd).1 (List.mem_map.mpr ⟨q, hq, e⟩)
section
variable {prog : Program} {w : World} {A : Around} {E : Value → Shared → Prop}
abbrev Keep := Option Fin × Array Value
theorem held_loop {B : Value → Keep → Sem (ForInStep Keep)} (hB : ∀ (it : Value) (items : Array Value) (Q : ForInStep Keep → Shared → Prop) (s : Shared), wpAny (model prog w) A (Builtin.SmallTypes.nextOf it) (fun x s' => Q (.yield ⟨none, items.push x⟩) s') E s → wpAny (model prog w) A (B it ⟨none, items⟩) Q E s) {i : Nat} :
    ∀ (xs : List Tri) (items : Array Value) (s : Shared) (Q : Keep → Shared → Prop), Apart xs → Its s.heap xs i → (∀ p ∈ xs, i < p.2.2.size) →
      (∀ h', Its h' xs (i + 1) → Kp (fun c => ∃ p ∈ xs, c = p.1) s.heap h' → h'.objs.size = s.heap.objs.size → Q ⟨none, items ++ (xs.map (val i)).toArray⟩ { s with heap := h' }) →
      wpAny (model prog w) A (forIn (xs.map fun p => Value.ref p.1) (⟨none, items⟩ : Keep) B) Q E s
  | [], items, s, Q, _, _, _, hQ => by
    show wpAny _ _ (Pure.pure _) _ _ _
    refine wpAny_pure ?_
    have := hQ s.heap (fun p hp => absurd hp List.not_mem_nil) (fun c o _ e => e) rfl
    simpa using this
  | p :: r, items, s, Q, hA, hI, hS, hQ => by
    rw [List.map_cons, List.forIn_cons]
    have hp := hI p List.mem_cons_self
    refine wpAny_bind (hB _ _ _ _ (wpAny_nextOf_list_item hp.1 hp.2 (val_some (hS p List.mem_cons_self)) fun h₁ hit hs => ?_))
    have k1 : Kp (· = p.1) s.heap h₁ := Kp.same hs
    refine held_loop hB r (items.push (val i p)) { s with heap := h₁ } Q hA.tail (k1.its (fun q hq => hI q (List.mem_cons_of_mem _ hq)) fun q hq => ⟨hA.ne hq, hA.ls q (List.mem_cons_of_mem _ hq) p List.mem_cons_self⟩) (fun q hq => hS q (List.mem_cons_of_mem _ hq)) fun h' hI' hk hz => ?_
    have hkp : Kp (fun c => ∃ q ∈ p :: r, c = q.1) s.heap h' := (k1.mono fun c e => ⟨p, List.mem_cons_self, e⟩).trans (hk.mono fun c ⟨q, hq, e⟩ => ⟨q, List.mem_cons_of_mem _ hq, e⟩)
    have := hQ h' (fun q hq => ?_) hkp (hz.trans hs.1)
    · simpa using this
    · rcases List.mem_cons.mp hq with rfl | hq
      · refine ⟨hk.iter hit fun ⟨a, ha, e⟩ => hA.ne ha e.symm, ?_⟩
        refine hkp.list hp.2 fun ⟨a, ha, e⟩ => hA.ls _ List.mem_cons_self a ha e
      · exact hI' q hq
theorem held_end {B : Value → Keep → Sem (ForInStep Keep)} (hB : ∀ (it : Value) (items : Array Value) (Q : ForInStep Keep → Shared → Prop) (s : Shared), wpAny (model prog w) A (Builtin.SmallTypes.nextOf it) (fun x s' => Q (.yield ⟨none, items.push x⟩) s') E s → wpAny (model prog w) A (B it ⟨none, items⟩) Q E s) {i : Nat}
    (hh : A.handled = none) {p : Tri} {r : List Tri} {items : Array Value} {s : Shared} {Q : Keep → Shared → Prop} (hp : s.heap.IsListIter p.1 p.2.1 i ∧ s.heap.IsList p.2.1 p.2.2) (hi : i = p.2.2.size)
    (hE : ∀ h' e, Heap.ExtBut p.1 s.heap h' → (∃ o, h'.get? e = some o ∧ o.cls = .type "StopIteration") → E (.ref e) { s with heap := h' }) :
    wpAny (model prog w) A (forIn ((p :: r).map fun p => Value.ref p.1) (⟨none, items⟩ : Keep) B) Q E s := by
  rw [List.map_cons, List.forIn_cons]
  refine wpAny_bind (hB _ _ _ _ (wpAny_nextOf_list_end hh hp.1 hp.2 (Array.getElem?_eq_none (by omega)) hE))
abbrev IsTupV (h : Heap) (T : Addr) (vs : Array Value) : Prop := h.get? T = some { cls := .type "tuple", data := .seq vs }
def refs (xs : List Tri) : Array Value := (xs.map fun p => Value.ref p.1).toArray
variable {s : Shared}
theorem next_held {z TI TO T : Addr} {f : Bool} {oT : Obj} {xs : List Tri} {i : Nat} {Q : Value → Shared → Prop} (hne : xs ≠ []) (hA : Apart xs) (hzi : ∀ p ∈ xs, z ≠ p.1 ∧ z ≠ p.2.1)
    (hz : IsZipHeld s.heap z TI TO T f) (hT : s.heap.get? T = some oT) (hTI : IsTupV s.heap TI (refs xs)) (hI : Its s.heap xs i) (hS : ∀ p ∈ xs, i < p.2.2.size) (hl : xs.length ≤ 1000)
    (hQ : ∀ h', IsZipHeld h' z TI TO T true → Its h' xs (i + 1) → IsTupV h' s.heap.objs.size (xs.map (val i)).toArray → h'.objs.size = s.heap.objs.size + 1 →
      Kp (fun c => c = z ∨ ∃ p ∈ xs, c = p.1) s.heap h' → Q (.ref s.heap.objs.size) { s with heap := h' }) :
    wpAny (model prog w) A (Builtin.«zip.__next__» ⟨[.ref z], []⟩) (fun fin s' => ∃ v, fin = .done (.ret v) ∧ Q v s') E s := by
  show wpAny _ _ (field (.ref z) 2 >>= _) _ _ _
  refine wpAny_bind (wpAny_field hz rfl (x := .bool false) rfl ?_)
  show wpAny _ _ (field (.ref z) 3 >>= _) _ _ _
  refine wpAny_bind (wpAny_field hz rfl (x := .ref TI) rfl ?_)
  refine wpAny_bind (wpAny_seqItems hTI rfl ?_)
  have he : (refs xs).isEmpty = false := by
    cases xs with
    | nil => exact absurd rfl hne
    | cons p r => simp [refs]
  simp only [he, Bool.false_eq_true, if_false]
  refine wpAny_bind (wpAny_tupleHeld_zip hz hT fun h₁ hz₁ hs₁ => ?_)
  simp only [Bool.false_eq_true, if_false]
  refine wpAny_bind ?_
  rw [← Array.forIn_toList, show (refs xs).toList = xs.map (fun p => Value.ref p.1) from rfl]
  have k0 : Kp (· = z) s.heap h₁ := Kp.same hs₁
  refine held_loop (fun it items Q s h => ?_) xs #[] { s with heap := h₁ } _ hA (k0.its hI fun p hp => ⟨fun e => (hzi p hp).1 e.symm, fun e => (hzi p hp).2 e.symm⟩) hS fun h' hI' hk hz' => ?_
  · refine wpAny_bind (wpAny_holding ?_)
    show wpAny _ _ (Builtin.SmallTypes.nextOf it >>= _) _ _ _
    exact wpAny_bind (wpAny_mono h (fun x s' hq => wpAny_pure (wpAny_pure hq)) fun _ _ e => e)
  · have hlen : (#[] ++ (xs.map (val i)).toArray : Array Value).toList.length ≤ sizeLine := by simp; exact Nat.le_trans hl (by decide)
    have ea : (#[] ++ (xs.map (val i)).toArray : Array Value).toList.toArray = (xs.map (val i)).toArray := by simp
    show wpAny _ _ (newTuple _ >>= fun v => ret v) _ _ _
    refine wpAny_bind (wpAny_newTuple ?_ hlen)
    rw [ea]
    have hsz : h'.objs.size = s.heap.objs.size := hz'.trans hs₁.1
    refine wpAny_pure ⟨_, rfl, ?_⟩
    show Q (.ref h'.objs.size) _
    have hz2 : IsZipHeld h' z TI TO T true := hk _ _ (fun ⟨p, hp, e⟩ => (hzi p hp).1 e) hz₁
    have hp : IsTupV (h'.push { cls := .type "tuple", data := .seq (xs.map (val i)).toArray }) h'.objs.size (xs.map (val i)).toArray := Heap.get?_push_size _ rfl
    have hz4 : (h'.push { cls := .type "tuple", data := .seq (xs.map (val i)).toArray }).objs.size = h'.objs.size + 1 := Heap.size_push ..
    rw [hsz] at hp hz4 ⊢
    refine hQ _ (Heap.get?_push_of_some _ hz2) (fun p hp => ⟨(hI' p hp).1.at fun o e => Heap.get?_push_of_some _ e, (hI' p hp).2.push _⟩) hp hz4 fun c o hc e => Heap.get?_push_of_some _ (hk c o (fun x => hc (.inr x)) (k0 c o (fun x => hc (.inl x)) e))
theorem next_held_end {z TI TO T : Addr} {f : Bool} {oT : Obj} {p : Tri} {r : List Tri} {i : Nat} {Q : Fin → Shared → Prop} (hh : A.handled = none) (hzp : z ≠ p.1 ∧ z ≠ p.2.1)
    (hz : IsZipHeld s.heap z TI TO T f) (hT : s.heap.get? T = some oT) (hTI : IsTupV s.heap TI (refs (p :: r))) (hI : s.heap.IsListIter p.1 p.2.1 i ∧ s.heap.IsList p.2.1 p.2.2) (hi : i = p.2.2.size)
    (hE : ∀ h' e, Kp (fun c => c = z ∨ c = p.1) s.heap h' → (∃ o, h'.get? e = some o ∧ o.cls = .type "StopIteration") → E (.ref e) { s with heap := h' }) :
    wpAny (model prog w) A (Builtin.«zip.__next__» ⟨[.ref z], []⟩) Q E s := by
  show wpAny _ _ (field (.ref z) 2 >>= _) _ _ _
  refine wpAny_bind (wpAny_field hz rfl (x := .bool false) rfl ?_)
  show wpAny _ _ (field (.ref z) 3 >>= _) _ _ _
  refine wpAny_bind (wpAny_field hz rfl (x := .ref TI) rfl ?_)
  refine wpAny_bind (wpAny_seqItems hTI rfl ?_)
  have he : (refs (p :: r)).isEmpty = false := by simp [refs]
  simp only [he, Bool.false_eq_true, if_false]
  refine wpAny_bind (wpAny_tupleHeld_zip hz hT fun h₁ hz₁ hs₁ => ?_)
  simp only [Bool.false_eq_true, if_false]
  refine wpAny_bind ?_
  rw [← Array.forIn_toList, show (refs (p :: r)).toList = (p :: r).map (fun p => Value.ref p.1) from rfl]
  have k0 : Kp (· = z) s.heap h₁ := Kp.same hs₁
  refine held_end (fun it items Q s h => ?_) (s := { s with heap := h₁ }) hh ⟨k0.iter hI.1 fun e => hzp.1 e.symm, k0.list hI.2 fun e => hzp.2 e.symm⟩ hi fun h' e hk he => ?_
  · refine wpAny_bind (wpAny_holding ?_)
    show wpAny _ _ (Builtin.SmallTypes.nextOf it >>= _) _ _ _
    exact wpAny_bind (wpAny_mono h (fun x s' hq => wpAny_pure (wpAny_pure hq)) fun _ _ e => e)
  · exact hE h' e (fun c o hc x => hk c o (fun y => hc (.inr y)) (k0 c o (fun y => hc (.inl y)) x)) he
/-! ### the first turn: zip's own tuple is free -/
def sets (vs : Array Value) (k : Nat) : List Value → Array Value
  | [] => vs
  | x :: r => sets (vs.setIfInBounds k x) (k + 1) r
theorem sets_size (vs : Array Value) (k : Nat) (xs : List Value) : (sets vs k xs).size = vs.size := by
  induction xs generalizing vs k with
  | nil => rfl
  | cons x r ih => show (sets _ _ r).size = _; rw [ih]; simp
theorem sets_get (vs : Array Value) (k : Nat) (xs : List Value) (j : Nat) (hj : k + xs.length ≤ vs.size) : (sets vs k xs)[j]? = if k ≤ j ∧ j < k + xs.length then xs[j - k]? else vs[j]? := by
  induction xs generalizing vs k with
  | nil =>
    rw [if_neg (by simp)]
    rfl
  | cons x r ih =>
    rw [List.length_cons] at hj ⊢
    show (sets _ _ r)[j]? = _
    rw [ih _ _ (by simp; omega)]
    by_cases h1 : k + 1 ≤ j ∧ j < k + 1 + r.length
    · rw [if_pos h1, if_pos (by omega), show j - k = (j - (k + 1)) + 1 by omega, List.getElem?_cons_succ]
    · rw [if_neg h1]
      by_cases h2 : j = k
      · subst h2
        rw [if_pos (by omega), Nat.sub_self, List.getElem?_cons_zero]
        simp [Array.getElem?_setIfInBounds]
        omega
      · rw [if_neg (by omega)]
        rw [Array.getElem?_setIfInBounds_ne (Ne.symm h2)]
theorem sets_all (vs : Array Value) (xs : List Value) (h : vs.size = xs.length) : sets vs 0 xs = xs.toArray := by
  refine Array.ext_getElem? fun j => ?_
  rw [sets_get _ _ _ _ (by omega)]
  by_cases hj : j < xs.length
  · rw [if_pos (by omega)]; simp
  · rw [if_neg (by omega), Array.getElem?_eq_none (by omega), List.getElem?_toArray, List.getElem?_eq_none (by omega)]
theorem owned_loop {σ : Type} {TO : Addr} {i0 : σ} {B : Value × Nat → σ → Sem (ForInStep σ)}
    (hB : ∀ (it : Value) (k : Nat) (Q : ForInStep σ → Shared → Prop) (s : Shared), (∀ E', wpAny (model prog w) A (Builtin.SmallTypes.nextOf it) (fun x s' => ∃ vs, IsTupV s'.heap TO vs ∧ vs.size ≤ sizeLine ∧ ∀ h', IsTupV h' TO (vs.setIfInBounds k x) → Heap.SameBut TO s'.heap h' → Q (.yield i0) { s' with heap := h' }) E' s) → wpAny (model prog w) A (B (it, k) i0) Q E s) {i : Nat} :
    ∀ (xs : List Tri) (k : Nat) (vs : Array Value) (s : Shared) (Q : σ → Shared → Prop), Apart xs → (∀ p ∈ xs, TO ≠ p.1 ∧ TO ≠ p.2.1) → IsTupV s.heap TO vs → vs.size ≤ sizeLine → Its s.heap xs i → (∀ p ∈ xs, i < p.2.2.size) →
      (∀ h', IsTupV h' TO (sets vs k (xs.map (val i))) → Its h' xs (i + 1) → Kp (fun c => c = TO ∨ ∃ p ∈ xs, c = p.1) s.heap h' → h'.objs.size = s.heap.objs.size → Q i0 { s with heap := h' }) →
      wpAny (model prog w) A (forIn ((xs.map fun p => Value.ref p.1).zipIdx k) i0 B) Q E s
  | [], k, vs, s, Q, _, _, hT, _, _, _, hQ => by
    show wpAny _ _ (Pure.pure _) _ _ _
    exact wpAny_pure (hQ s.heap hT (fun p hp => absurd hp List.not_mem_nil) (fun c o _ e => e) rfl)
  | p :: r, k, vs, s, Q, hA, hO, hT, hv, hI, hS, hQ => by
    rw [List.map_cons, List.zipIdx_cons, List.forIn_cons]
    have hp := hI p List.mem_cons_self
    have hop := hO p List.mem_cons_self
    refine wpAny_bind (hB _ _ _ _ fun E' => wpAny_nextOf_list_item hp.1 hp.2 (val_some (hS p List.mem_cons_self)) fun h₁ hit hs => ⟨vs, hs.extBut _ _ hop.1 hT, hv, fun h₂ hT₂ hs₂ => ?_⟩)
    have k1 : Kp (fun c => c = TO ∨ c = p.1) s.heap h₂ := ((Kp.same hs).mono fun c e => .inr e).trans ((Kp.same hs₂).mono fun c e => .inl e)
    refine owned_loop hB r (k + 1) (vs.setIfInBounds k (val i p)) { s with heap := h₂ } Q hA.tail (fun q hq => hO q (List.mem_cons_of_mem _ hq)) hT₂ (by simp; exact hv) (k1.its (fun q hq => hI q (List.mem_cons_of_mem _ hq)) fun q hq => ⟨fun e => ?_, fun e => ?_⟩) (fun q hq => hS q (List.mem_cons_of_mem _ hq)) fun h' hT' hI' hk hz => ?_
    · rcases e with e | e
      · exact (hO q (List.mem_cons_of_mem _ hq)).1 e.symm
      · exact hA.ne hq e
    · rcases e with e | e
      · exact (hO q (List.mem_cons_of_mem _ hq)).2 e.symm
      · exact hA.ls q (List.mem_cons_of_mem _ hq) p List.mem_cons_self e
    · have hkp : Kp (fun c => c = TO ∨ ∃ q ∈ p :: r, c = q.1) s.heap h' := (k1.mono fun c e => e.imp id fun e => ⟨p, List.mem_cons_self, e⟩).trans (hk.mono fun c e => e.imp id fun ⟨q, hq, e⟩ => ⟨q, List.mem_cons_of_mem _ hq, e⟩)
      refine hQ h' hT' (fun q hq => ?_) hkp (hz.trans (hs₂.1.trans hs.1))
      rcases List.mem_cons.mp hq with rfl | hq
      · refine ⟨hk.iter (((Kp.same hs₂).iter hit fun e => hop.1 e.symm)) fun e => ?_, hkp.list hp.2 fun e => ?_⟩
        · rcases e with e | ⟨a, ha, e⟩
          · exact hop.1 e.symm
          · exact hA.ne ha e.symm
        · rcases e with e | ⟨a, ha, e⟩
          · exact hop.2 e.symm
          · exact hA.ls _ List.mem_cons_self a ha e
      · exact hI' q hq
theorem next_first {z TI TO : Addr} {vs : Array Value} {xs : List Tri} {i : Nat} {Q : Value → Shared → Prop} (hne : xs ≠ []) (hA : Apart xs) (hzi : ∀ p ∈ xs, z ≠ p.1 ∧ z ≠ p.2.1) (hO : ∀ p ∈ xs, TO ≠ p.1 ∧ TO ≠ p.2.1) (hzO : z ≠ TO)
    (hz : IsZip s.heap z TI TO .none) (hTI : IsTupV s.heap TI (refs xs)) (hTO : IsTupV s.heap TO vs) (hvs : vs.size = xs.length) (hI : Its s.heap xs i) (hS : ∀ p ∈ xs, i < p.2.2.size) (hl : xs.length ≤ 1000)
    (hQ : ∀ h', IsZipHeld h' z TI TO s.heap.objs.size false → Its h' xs (i + 1) → IsTupV h' s.heap.objs.size (xs.map (val i)).toArray → h'.objs.size = s.heap.objs.size + 1 →
      Kp (fun c => c = z ∨ c = TO ∨ ∃ p ∈ xs, c = p.1) s.heap h' → Q (.ref s.heap.objs.size) { s with heap := h' }) :
    wpAny (model prog w) A (Builtin.«zip.__next__» ⟨[.ref z], []⟩) (fun fin s' => ∃ v, fin = .done (.ret v) ∧ Q v s') E s := by
  show wpAny _ _ (field (.ref z) 2 >>= _) _ _ _
  refine wpAny_bind (wpAny_field hz rfl (x := .bool false) rfl ?_)
  show wpAny _ _ (field (.ref z) 3 >>= _) _ _ _
  refine wpAny_bind (wpAny_field hz rfl (x := .ref TI) rfl ?_)
  refine wpAny_bind (wpAny_seqItems hTI rfl ?_)
  have he : (refs xs).isEmpty = false := by
    cases xs with
    | nil => exact absurd rfl hne
    | cons p r => simp [refs]
  simp only [he, Bool.false_eq_true, if_false]
  refine wpAny_bind (m := Builtin.SmallTypes.ownedTupleIsFree (.ref z)) ?_
  unfold Builtin.SmallTypes.ownedTupleIsFree
  refine wpAny_bind (wpAny_field hz rfl (x := .none) rfl (wpAny_pure ?_))
  simp only [if_true]
  refine wpAny_bind (wpAny_rule ?_)
  refine wpAny_bind (wpAny_field hz rfl (x := .ref TO) rfl ?_)
  refine wpAny_bind (wpAny_setField_rec hz (by simp) fun h₁ hz₁ hs₁ => ?_)
  replace hz₁ : IsZip h₁ z TI TO .ellipsis := hz₁
  refine wpAny_bind ?_
  rw [show (refs xs).toList = xs.map (fun p => Value.ref p.1) from rfl]
  have k0 : Kp (· = z) s.heap h₁ := Kp.same hs₁
  refine owned_loop (TO := TO) (fun it k Q s h => ?_) xs 0 vs { s with heap := h₁ } _ hA hO (k0 _ _ (fun e => hzO e.symm) hTO) (by rw [hvs]; exact Nat.le_trans hl (by decide)) (k0.its hI fun p hp => ⟨fun e => (hzi p hp).1 e.symm, fun e => (hzi p hp).2 e.symm⟩) hS fun h' hT' hI' hk hz' => ?_
  · refine wpAny_bind (wpAny_onRaise ?_)
    show wpAny _ _ (Builtin.SmallTypes.nextOf it >>= _) _ _ _
    refine wpAny_bind (wpAny_mono (h _) (fun x s' hq => ?_) fun _ _ e => e)
    obtain ⟨vs', hT', hv', hq⟩ := hq
    refine wpAny_pure ?_
    refine wpAny_bind (wpAny_seqItems hT' rfl ?_)
    refine wpAny_bind (wpAny_updateSeq hT' rfl ?_ hv' (by simp; omega))
    refine wpAny_bind (wpAny_letGo (wpAny_pure (hq _ ?_ (Heap.SameBut.update ..))))
    show Heap.get? _ _ = _
    rw [Heap.get?_update_self _ hT' rfl]
    simp [Obj.mapSeq]
  · have hall : sets vs 0 (xs.map (val i)) = (xs.map (val i)).toArray := sets_all _ _ (by rw [hvs, List.length_map])
    rw [hall] at hT'
    show wpAny _ _ (seqItems? (.ref TO) >>= _) _ _ _
    refine wpAny_bind (wpAny_seqItems hT' rfl ?_)
    show wpAny _ _ (newTuple (xs.map (val i)) >>= _) _ _ _
    refine wpAny_bind (wpAny_newTuple ?_ (by rw [List.length_map]; exact Nat.le_trans hl (by decide)))
    have hsz : h'.objs.size = s.heap.objs.size := hz'.trans hs₁.1
    have hz2 : IsZip h' z TI TO .ellipsis := hk _ _ (fun e => by rcases e with e | ⟨p, hp, e⟩; exact hzO e; exact (hzi p hp).1 e) hz₁
    show wpAny _ _ (Builtin.SmallTypes.ownedTupleHandOut (.ref z) (.ref h'.objs.size) >>= _) _ _ _
    refine wpAny_bind ?_
    unfold Builtin.SmallTypes.ownedTupleHandOut
    have hz₆ : IsZip (h'.push { cls := .type "tuple", data := .seq (xs.map (val i)).toArray }) z TI TO .ellipsis := Heap.get?_push_of_some _ hz2
    refine wpAny_bind (wpAny_setField_rec hz₆ (by simp) fun h₇ hz₇ hs₇ => ?_)
    replace hz₇ : IsZip h₇ z TI TO (rawInt h'.objs.size) := hz₇
    refine wpAny_setField_rec hz₇ (by simp) fun h₈ hz₈ hs₈ => ?_
    replace hz₈ : IsZipHeld h₈ z TI TO h'.objs.size false := hz₈
    have up : ∀ c o, c ≠ z → h'.get? c = some o → h₈.get? c = some o := fun c o c1 e => hs₈.extBut _ _ c1 (hs₇.extBut _ _ c1 (Heap.get?_push_of_some _ e))
    have hzlt : z < h'.objs.size := Heap.lt_size hz2
    have hp : IsTupV h₈ h'.objs.size (xs.map (val i)).toArray := hs₈.extBut _ _ (Nat.ne_of_gt hzlt) (hs₇.extBut _ _ (Nat.ne_of_gt hzlt) (Heap.get?_push_size _ rfl))
    have hz4 : h₈.objs.size = h'.objs.size + 1 := by rw [hs₈.1, hs₇.1, Heap.size_push]
    rw [hsz] at hz₈ hp hz4
    refine wpAny_pure ⟨_, rfl, ?_⟩
    show Q (.ref h'.objs.size) _
    rw [hsz]
    refine hQ h₈ hz₈ (fun p hp => ⟨(hI' p hp).1.at fun o e => up _ o (fun x => (hzi p hp).1 x.symm) e, (hI' p hp).2.at fun o e => up _ o (fun x => (hzi p hp).2 x.symm) e⟩) hp hz4 fun c o hc e => up c o (fun x => hc (.inl x)) (hk c o (fun x => hc (.inr x)) (k0 c o (fun x => hc (.inl x)) e))
theorem pyNext_first {z TI TO : Addr} {vs : Array Value} {xs : List Tri} {i : Nat} {Q : Option Value → Shared → Prop} (hne : xs ≠ []) (hA : Apart xs) (hzi : ∀ p ∈ xs, z ≠ p.1 ∧ z ≠ p.2.1) (hO : ∀ p ∈ xs, TO ≠ p.1 ∧ TO ≠ p.2.1) (hzO : z ≠ TO)
    (hz : IsZip s.heap z TI TO .none) (hTI : IsTupV s.heap TI (refs xs)) (hTO : IsTupV s.heap TO vs) (hvs : vs.size = xs.length) (hI : Its s.heap xs i) (hS : ∀ p ∈ xs, i < p.2.2.size) (hl : xs.length ≤ 1000)
    (hQ : ∀ h', IsZipHeld h' z TI TO s.heap.objs.size false → Its h' xs (i + 1) → IsTupV h' s.heap.objs.size (xs.map (val i)).toArray → h'.objs.size = s.heap.objs.size + 1 →
      Kp (fun c => c = z ∨ c = TO ∨ ∃ p ∈ xs, c = p.1) s.heap h' → Q (some (.ref s.heap.objs.size)) { s with heap := h' }) :
    wpAny (model prog w) A (pyNext (.ref z)) Q E s := by
  have hT : s.TypeIs (.ref z) "zip" := ⟨_, hz, rfl⟩
  unfold pyNext
  exact wpAny_bind (wpAny_attempt (wpAny_callSpecial?_slot (name := Str.ofString "__next__") hT F.slot_zip_next
    (wpAny_call_entry F.slot_zip_next hT F.entry_zip_next
      (next_first hne hA hzi hO hzO hz hTI hTO hvs hI hS hl fun h' a1 a2 a3 a4 a5 => wpAny_pure (hQ h' a1 a2 a3 a4 a5)) (F.args_zip_next_1 _))))
theorem pyNext_held {z TI TO T : Addr} {f : Bool} {oT : Obj} {xs : List Tri} {i : Nat} {Q : Option Value → Shared → Prop} (hne : xs ≠ []) (hA : Apart xs) (hzi : ∀ p ∈ xs, z ≠ p.1 ∧ z ≠ p.2.1)
    (hz : IsZipHeld s.heap z TI TO T f) (hT : s.heap.get? T = some oT) (hTI : IsTupV s.heap TI (refs xs)) (hI : Its s.heap xs i) (hS : ∀ p ∈ xs, i < p.2.2.size) (hl : xs.length ≤ 1000)
    (hQ : ∀ h', IsZipHeld h' z TI TO T true → Its h' xs (i + 1) → IsTupV h' s.heap.objs.size (xs.map (val i)).toArray → h'.objs.size = s.heap.objs.size + 1 →
      Kp (fun c => c = z ∨ ∃ p ∈ xs, c = p.1) s.heap h' → Q (some (.ref s.heap.objs.size)) { s with heap := h' }) :
    wpAny (model prog w) A (pyNext (.ref z)) Q E s := by
  have hTy : s.TypeIs (.ref z) "zip" := ⟨_, hz, rfl⟩
  unfold pyNext
  exact wpAny_bind (wpAny_attempt (wpAny_callSpecial?_slot (name := Str.ofString "__next__") hTy F.slot_zip_next
    (wpAny_call_entry F.slot_zip_next hTy F.entry_zip_next
      (next_held hne hA hzi hz hT hTI hI hS hl fun h' a1 a2 a3 a4 a5 => wpAny_pure (hQ h' a1 a2 a3 a4 a5)) (F.args_zip_next_1 _))))
theorem pyNext_end {z TI TO T : Addr} {f : Bool} {oT : Obj} {p : Tri} {r : List Tri} {i : Nat} {Q : Option Value → Shared → Prop} (hh : A.handled = none) (hzp : z ≠ p.1 ∧ z ≠ p.2.1)
    (hz : IsZipHeld s.heap z TI TO T f) (hT : s.heap.get? T = some oT) (hTI : IsTupV s.heap TI (refs (p :: r))) (hI : s.heap.IsListIter p.1 p.2.1 i ∧ s.heap.IsList p.2.1 p.2.2) (hi : i = p.2.2.size)
    (hQ : ∀ h', Kp (fun c => c = z ∨ c = p.1) s.heap h' → Q none { s with heap := h' }) :
    wpAny (model prog w) A (pyNext (.ref z)) Q E s := by
  have hTy : s.TypeIs (.ref z) "zip" := ⟨_, hz, rfl⟩
  unfold pyNext
  refine wpAny_bind (wpAny_attempt (wpAny_callSpecial?_slot (name := Str.ofString "__next__") hTy F.slot_zip_next
    (wpAny_call_entry F.slot_zip_next hTy F.entry_zip_next (next_held_end hh hzp hz hT hTI hI hi fun h' e hk he => ?_) (F.args_zip_next_1 _))))
  obtain ⟨o, ho, hc⟩ := he
  refine wpAny_bind (wpAny_isInstance (T := "StopIteration") (b := true) ⟨o, ho, hc⟩ isSubtype_stop ?_)
  exact wpAny_pure (hQ _ hk)
/-! ### list(zip(..)) -/
theorem above {a b : Addr} (h : a < b) (j : Nat) : b + j ≠ a := Nat.ne_of_gt (Nat.lt_of_lt_of_le h (Nat.le_add_right _ _))
def acc (b i : Nat) : Array Value := ((List.range i).map fun j => Value.ref (b + j)).toArray
theorem acc_size (b i : Nat) : (acc b i).size = i := by simp [acc]
theorem acc_push (b i : Nat) : (acc b i).push (.ref (b + i)) = acc b (i + 1) := by
  unfold acc
  rw [List.range_succ, List.map_append]
  simp
/-- the places, apart from each other, all below b -/
structure Sp (S z TI TO b : Addr) (xs : List Tri) : Prop where
  ne : xs ≠ []
  ap : Apart xs
  few : xs.length ≤ 1000
  zi : ∀ p ∈ xs, z ≠ p.1 ∧ z ≠ p.2.1
  oi : ∀ p ∈ xs, TO ≠ p.1 ∧ TO ≠ p.2.1
  si : ∀ p ∈ xs, S ≠ p.1 ∧ S ≠ p.2.1
  ti : ∀ p ∈ xs, TI ≠ p.1
  zO : z ≠ TO
  zI : z ≠ TI
  IO : TI ≠ TO
  Sz : S ≠ z
  SI : S ≠ TI
  SO : S ≠ TO
  lz : z < b
  lO : TO < b
  lS : S < b
  li : ∀ p ∈ xs, p.1 < b
structure LI (S z TI TO b : Addr) (xs : List Tri) (i : Nat) (h : Heap) : Prop where
  sz : h.objs.size = b + i
  ls : ∃ c, h.get? S = some { cls := .type "list", dict := none, data := .seq (acc b i) c, slots := #[] }
  ti : IsTupV h TI (refs xs)
  its : Its h xs i
  zp : (i = 0 ∧ IsZip h z TI TO .none ∧ ∃ vs, vs.size = xs.length ∧ IsTupV h TO vs) ∨ (0 < i ∧ ∃ f, IsZipHeld h z TI TO b f)
  tup : ∀ j, j < i → IsTupV h (b + j) (xs.map (val j)).toArray
abbrev Wr (S z TO : Addr) (xs : List Tri) : Addr → Prop := fun c => c = S ∨ c = z ∨ c = TO ∨ ∃ p ∈ xs, c = p.1
theorem ext_loop {S z TI TO b : Addr} {xs : List Tri} {n : Nat} {res : Value} {R : Result → Shared → Prop} (hh : A.handled = none) (hsp : Sp S z TI TO b xs) (hn : n ≤ sizeLine) (hn0 : 0 < n) (hxs : ∀ p ∈ xs, p.2.2.size = n) :
    ∀ (k i : Nat) (s : Shared), n - i = k → i ≤ n → LI S z TI TO b xs i s.heap →
      (∀ h' c', h'.get? S = some { cls := .type "list", dict := none, data := .seq (acc b n) c', slots := #[] } → (∀ j, j < n → IsTupV h' (b + j) (xs.map (val j)).toArray) → Kp (Wr S z TO xs) s.heap h' → R (.ok (.ret res)) { s with heap := h' }) →
      codeAny (model prog w) A (.builtin "list.extend.loop" ⟨[.ref S, .ref z, res], []⟩) R s := by
  obtain ⟨p0, r0, rfl⟩ := List.exists_cons_of_ne_nil hsp.ne
  intro k
  induction k with
  | zero =>
    intro i s hk hi L hR
    obtain ⟨c, hls⟩ := L.ls
    have hin : i = n := by omega
    subst hin
    refine codeAny_builtin F.entry_extend_loop ?_
    rw [Around.under_plainId F.plain_extend_loop _]
    show wpAny _ A.in1 (pyNext (.ref z) >>= _) _ _ s
    obtain ⟨h0, f, hz⟩ := L.zp.resolve_left fun h => by omega
    refine wpAny_bind (pyNext_end hh (hsp.zi p0 List.mem_cons_self) hz (L.tup 0 h0) L.ti (L.its p0 List.mem_cons_self) (hxs p0 List.mem_cons_self).symm fun h' hk' => ?_)
    have up : ∀ c o, ¬ Wr S z TO (p0 :: r0) c → s.heap.get? c = some o → h'.get? c = some o := fun c o hc e => hk' c o (fun x => hc (x.elim (fun x => .inr (.inl x)) fun x => .inr (.inr (.inr ⟨p0, List.mem_cons_self, x⟩)))) e
    refine wpAny_pure (hR h' c (hk' _ _ (fun x => ?_) hls) (fun j hj => hk' _ _ (fun x => ?_) (L.tup j hj)) up)
    · rcases x with x | x
      · exact hsp.Sz x
      · exact (hsp.si p0 List.mem_cons_self).1 x
    · rcases x with x | x
      · exact above hsp.lz j x
      · exact above (hsp.li p0 List.mem_cons_self) j x
  | succ k ih =>
    intro i s hk hi L hR
    obtain ⟨c, hls⟩ := L.ls
    have hlt : i < n := by omega
    refine codeAny_builtin F.entry_extend_loop ?_
    rw [Around.under_plainId F.plain_extend_loop _]
    show wpAny _ A.in1 (pyNext (.ref z) >>= _) _ _ s
    have step : ∀ h', (∃ f, IsZipHeld h' z TI TO b f) → Its h' (p0 :: r0) (i + 1) → IsTupV h' (b + i) ((p0 :: r0).map (val i)).toArray → h'.objs.size = b + i + 1 →
        Kp (fun c => c = z ∨ c = TO ∨ ∃ p ∈ p0 :: r0, c = p.1) s.heap h' → wpAny (model prog w) A.in1 (updateSeq S (·.push (.ref (b + i))) >>= fun _ => again (.builtin "list.extend.loop" ⟨[.ref S, .ref z, res], []⟩)) (fun fin s' => match fin with | .done f => R (.ok f) s' | .again c' => c'.quiet = true ∧ codeAny (model prog w) A c' R s') (fun e s' => R (.error e) s') { s with heap := h' } := fun h' hz hI hT hsz hkp => by
      have hS' : h'.get? S = some { cls := .type "list", dict := none, data := .seq (acc b i) c, slots := #[] } := hkp _ _ (fun x => by
        rcases x with x | x | ⟨p, hp, x⟩
        · exact hsp.Sz x
        · exact hsp.SO x
        · exact (hsp.si p hp).1 x) hls
      refine wpAny_bind ?_
      refine wpAny_updateSeq hS' rfl (wpAny_pure ⟨plainId_quiet F.plain_extend_loop _, ?_⟩) (by rw [acc_size]; omega) (by show ((acc b i).push _).size ≤ _; rw [Array.size_push, acc_size]; omega)
      have k2 : Kp (· = S) h' (h'.update S (Obj.mapSeq (·.push (.ref (b + i))))) := fun c o hc e => (Heap.get?_update_other _ _ (Ne.symm hc)).trans e
      have hSb : ∀ p ∈ p0 :: r0, ¬ (p.1 = S) ∧ ¬ (p.2.1 = S) := fun p hp => ⟨fun e => (hsp.si p hp).1 e.symm, fun e => (hsp.si p hp).2 e.symm⟩
      have hz' : h'.objs.size = b + (i + 1) := hsz
      have L' : LI S z TI TO b (p0 :: r0) (i + 1) (h'.update S (Obj.mapSeq (·.push (.ref (b + i))))) := by
        refine ⟨(Heap.SameBut.update (a := S) ..).1.trans hz', ⟨_, by rw [Heap.get?_update_self _ hS' rfl]; show some _ = some _; rw [← acc_push]; rfl⟩, k2 _ _ (fun e => hsp.SI e.symm) (hkp _ _ (fun x => ?_) L.ti), k2.its hI hSb, .inr ⟨Nat.succ_pos i, ?_⟩, fun j hj => k2 _ _ (fun e => above hsp.lS j e) ?_⟩
        · rcases x with x | x | ⟨p, hp, x⟩
          · exact hsp.zI x.symm
          · exact hsp.IO x
          · exact hsp.ti p hp x
        · obtain ⟨f, hz⟩ := hz
          exact ⟨f, k2 _ _ (fun e => hsp.Sz e.symm) hz⟩
        · rcases Nat.lt_or_ge j i with h1 | h1
          · refine hkp _ _ (fun x => ?_) (L.tup j h1)
            rcases x with x | x | ⟨p, hp, x⟩
            · exact above hsp.lz j x
            · exact above hsp.lO j x
            · exact above (hsp.li p hp) j x
          · have e : j = i := by omega
            subst e
            exact hT
      refine ih (i + 1) { s with heap := h'.update S (Obj.mapSeq (·.push (.ref (b + i)))) } (by omega) hlt L' fun h'' c' a1 a2 a3 => ?_
      refine hR h'' c' a1 a2 ?_
      have hk3 : Kp (Wr S z TO (p0 :: r0)) s.heap h' := hkp.mono fun c e => .inr e
      exact (hk3.trans (k2.mono fun c e => .inl e)).trans a3
    rcases L.zp with ⟨h0, hz, vs, hvs, hTO⟩ | ⟨h0, f, hz⟩
    · have hb : s.heap.objs.size = b + i := L.sz
      have hb0 : s.heap.objs.size = b := by rw [hb, h0]; rfl
      refine wpAny_bind (pyNext_first hsp.ne hsp.ap hsp.zi hsp.oi hsp.zO hz L.ti hTO hvs L.its (fun p hp => by rw [hxs p hp]; exact hlt) hsp.few fun h' a1 a2 a3 a4 a5 => ?_)
      rw [hb0] at a1
      rw [hb] at a3 a4 ⊢
      exact step h' ⟨_, a1⟩ a2 a3 a4 a5
    · have hb : s.heap.objs.size = b + i := L.sz
      refine wpAny_bind (pyNext_held hsp.ne hsp.ap hsp.zi hz (L.tup 0 h0) L.ti L.its (fun p hp => by rw [hxs p hp]; exact hlt) hsp.few fun h' a1 a2 a3 a4 a5 => ?_)
      rw [hb] at a3 a4 ⊢
      exact step h' ⟨_, a1⟩ a2 a3 a4 (a5.mono fun c e => e.imp id .inr)
theorem zip_no_len : typeLookup (.type "zip") "__len__" = pure none := by rw [typeLookup_type, builtinLookup_eq_fast]; kernel_rfl
theorem zip_no_hint : typeLookup (.type "zip") "__length_hint__" = pure none := by rw [typeLookup_type, builtinLookup_eq_fast]; kernel_rfl
set_option maxHeartbeats 1000000 in
theorem call_list_zip {S z TI TO : Addr} {vs : Array Value} {xs : List Tri} {n : Nat} {Q : Value → Shared → Prop} (hh : A.handled = none) (hSe : s.heap.objs.size = S) (hsp : Sp S z TI TO (S + 1) xs) (hn : n ≤ sizeLine) (hn0 : 0 < n) (hxs : ∀ p ∈ xs, p.2.2.size = n)
    (hz : IsZip s.heap z TI TO .none) (hTI : IsTupV s.heap TI (refs xs)) (hTO : IsTupV s.heap TO vs) (hvs : vs.size = xs.length) (hI : Its s.heap xs 0)
    (hQ : ∀ h' c', h'.get? S = some { cls := .type "list", dict := none, data := .seq (acc (S + 1) n) c', slots := #[] } → (∀ j, j < n → IsTupV h' (S + 1 + j) (xs.map (val j)).toArray) → Kp (Wr S z TO xs) s.heap h' → Q (.ref S) { s with heap := h' }) :
    wpAny (model prog w) A (call (.type "list") [.ref z]) Q E s := by
  refine callType_codes (Q₁ := fun obj s₁ => obj = .ref S ∧ s₁ = { s with heap := s.heap.push { cls := .type "list", data := .seq #[] } }) F.called_list (F.typeCall_list_1 _) F.entry_list_init
    (code_list_new _ ⟨by rw [hSe], rfl⟩) fun obj s₁ h₁ => ?_
  obtain ⟨rfl, rfl⟩ := h₁
  have hS : (s.heap.push { cls := .type "list", data := .seq #[] }).get? S = some { cls := .type "list", data := .seq #[] } := by rw [← hSe]; exact Heap.get?_push_size _ rfl
  refine ⟨⟨_, hS, rfl⟩, F.args_list_init_2 _ _, ?_⟩
  show wpAny _ A.in1.in1 (do let old ← Builtin.List.listItems (.ref S); Builtin.List.listUpdate (.ref S) (fun _ => #[]); letGo old.toList.reverse; Builtin.List.listExtendWith (.ref S) (.ref z) .none) _ _ _
  refine wpAny_bind ?_
  unfold Builtin.List.listItems
  refine wpAny_bind (wpAny_seqItems hS rfl (wpAny_pure ?_))
  show wpAny _ A.in1.in1 (updateSeq S (fun _ => #[]) >>= fun _ => letGo (#[] : Array Value).toList.reverse >>= fun _ => Builtin.List.listExtendWith (.ref S) (.ref z) .none) _ _ _
  refine wpAny_bind (wpAny_updateSeq hS rfl ?_)
  have hS2 := Heap.get?_update_self (Obj.mapSeq (fun _ => (#[] : Array Value))) hS rfl
  refine wpAny_bind (wpAny_letGo ?_)
  unfold Builtin.List.listExtendWith
  have up : ∀ (h : Heap) (f : Obj → Obj), Kp (· = S) s.heap h → Kp (· = S) s.heap (h.update S f) := fun h f q => q.trans fun c o hc e => (Heap.get?_update_other _ _ (Ne.symm hc)).trans e
  have k1 : Kp (· = S) s.heap (s.heap.push { cls := .type "list", data := .seq #[] }) := fun c o _ e => Heap.get?_push_of_some _ e
  have k2 := up _ (Obj.mapSeq (fun _ => (#[] : Array Value))) k1
  have zty : ∀ {h : Heap}, Kp (· = S) s.heap h → ({ s with heap := h } : Shared).TypeIs (.ref z) "zip" := fun {h} q => ⟨_, q _ _ (fun e => hsp.Sz e.symm) hz, rfl⟩
  refine wpAny_bind (wpAny_typeOf (zty k2) ?_)
  have h1 : Builtin.List.listSameRef (.ref S) (.ref z) = false := by simp [Builtin.List.listSameRef, hsp.Sz]
  have h2 : (Value.type "zip" == Value.type "list") = false := by decide
  have h3 : (Value.type "zip" == Value.type "tuple") = false := by decide
  simp only [h1, h2, h3, Bool.or_false, Bool.false_eq_true, if_false]
  refine wpAny_bind (wpAny_pyIter_zip (s := { s with heap := _ }) (k2 _ _ (fun e => hsp.Sz e.symm) hz) ?_)
  refine wpAny_bind (wpAny_holding ?_)
  unfold Builtin.List.listLengthHint
  refine wpAny_bind (wpAny_specialOf (zty k2) zip_no_len ?_)
  show wpAny _ A.in1.in1 (specialOf (Value.ref z) (Str.ofString "__length_hint__") >>= _) _ _ _
  refine wpAny_bind (wpAny_specialOf (zty k2) zip_no_hint ?_)
  refine wpAny_pure ?_
  show wpAny _ A.in1.in1 (rule "list.extend.makes-room" >>= fun _ => Builtin.List.listTouch (.ref S) >>= fun _ =>
    again (.builtin "list.extend.loop" ⟨[.ref S, .ref z, .none], []⟩)) _ _ _
  refine wpAny_bind (wpAny_rule ?_)
  refine wpAny_bind ?_
  show wpAny _ A.in1.in1 (updateSeq S (·.push .none) >>= fun _ => updateSeq S (·.pop)) _ _ _
  refine wpAny_bind (wpAny_updateSeq hS2 rfl ?_)
  have hS3 := Heap.get?_update_self (Obj.mapSeq (·.push Value.none)) hS2 rfl
  refine wpAny_updateSeq (hz := by seq_fits) hS3 rfl ?_
  have hS4 := Heap.get?_update_self (Obj.mapSeq (·.pop)) hS3 rfl
  have k4 := up _ (Obj.mapSeq (·.pop)) (up _ (Obj.mapSeq (·.push Value.none)) k2)
  refine wpAny_pure ⟨plainId_quiet F.plain_extend_loop _, ?_⟩
  have hS5 : ∃ c, ((((s.heap.push { cls := .type "list", data := .seq #[] }).update S (Obj.mapSeq (fun _ => (#[] : Array Value)))).update S (Obj.mapSeq (·.push Value.none))).update S (Obj.mapSeq (·.pop))).get? S = some { cls := .type "list", dict := none, data := .seq (acc (S + 1) 0) c, slots := #[] } := ⟨_, hS4⟩
  have hz5 : ((((s.heap.push { cls := .type "list", data := .seq #[] }).update S (Obj.mapSeq (fun _ => (#[] : Array Value)))).update S (Obj.mapSeq (·.push Value.none))).update S (Obj.mapSeq (·.pop))).objs.size = S + 1 := by
    rw [(Heap.SameBut.update (a := S) ..).1, (Heap.SameBut.update (a := S) ..).1, (Heap.SameBut.update (a := S) ..).1, Heap.size_push, hSe]
  clear hS hS2 hS3 hS4
  have e3 : ∀ c, c = S → c = S ∨ c = z ∨ c = TO ∨ ∃ p ∈ xs, c = p.1 := fun c e => .inl e
  generalize ((((s.heap.push { cls := .type "list", data := .seq #[] }).update S (Obj.mapSeq (fun _ => (#[] : Array Value)))).update S (Obj.mapSeq (·.push Value.none))).update S (Obj.mapSeq (·.pop))) = H4 at *
  have hL : LI S z TI TO (S + 1) xs 0 H4 := ⟨hz5, hS5, k4 _ _ (fun e => hsp.SI e.symm) hTI, k4.its hI fun p hp => ⟨fun e => (hsp.si p hp).1 e.symm, fun e => (hsp.si p hp).2 e.symm⟩, .inl ⟨rfl, k4 _ _ (fun e => hsp.Sz e.symm) hz, vs, hvs, k4 _ _ (fun e => hsp.SO e.symm) hTO⟩, fun j hj => absurd hj (Nat.not_lt_zero _)⟩
  have hfin : ∀ h' c', h'.get? S = some { cls := .type "list", dict := none, data := .seq (acc (S + 1) n) c', slots := #[] } → (∀ j, j < n → IsTupV h' (S + 1 + j) (xs.map (val j)).toArray) → Kp (Wr S z TO xs) H4 h' → Q (.ref S) { s with heap := h' } := fun h' c' a1 a2 a3 => hQ h' c' a1 a2 ((k4.mono e3).trans a3)
  exact ext_loop (A := A.in1) (n := n) (b := S + 1) hh hsp hn hn0 hxs n 0 { s with heap := H4 } (Nat.sub_zero n) (Nat.zero_le _) hL fun h' c' a1 a2 a3 => ⟨rfl, hfin h' c' a1 a2 a3⟩
end
/-! ### zip of six lists -/
abbrev pit (h : Heap) (l : Addr) : Heap := h.push { cls := .type "list_iterator", data := .fields #[.ref l, .int 0 0] }
abbrev zh1 (h : Heap) (l1 : Addr) : Heap := pit h l1
abbrev zh2 (h : Heap) (l1 l2 : Addr) : Heap := pit (zh1 h l1) l2
abbrev zh3 (h : Heap) (l1 l2 l3 : Addr) : Heap := pit (zh2 h l1 l2) l3
abbrev zh4 (h : Heap) (l1 l2 l3 l4 : Addr) : Heap := pit (zh3 h l1 l2 l3) l4
abbrev zh5 (h : Heap) (l1 l2 l3 l4 l5 : Addr) : Heap := pit (zh4 h l1 l2 l3 l4) l5
abbrev zh6 (h : Heap) (l1 l2 l3 l4 l5 l6 : Addr) : Heap := pit (zh5 h l1 l2 l3 l4 l5) l6
abbrev zh7 (h : Heap) (l1 l2 l3 l4 l5 l6 : Addr) : Heap := (zh6 h l1 l2 l3 l4 l5 l6).push { cls := .type "tuple", data := .seq #[.ref h.objs.size, .ref (zh1 h l1).objs.size, .ref (zh2 h l1 l2).objs.size, .ref (zh3 h l1 l2 l3).objs.size, .ref (zh4 h l1 l2 l3 l4).objs.size, .ref (zh5 h l1 l2 l3 l4 l5).objs.size] }
abbrev zh8 (h : Heap) (l1 l2 l3 l4 l5 l6 : Addr) : Heap := (zh7 h l1 l2 l3 l4 l5 l6).push { cls := .type "tuple", data := .seq #[.none, .none, .none, .none, .none, .none] }
abbrev zh9 (h : Heap) (l1 l2 l3 l4 l5 l6 : Addr) : Heap := (zh8 h l1 l2 l3 l4 l5 l6).push { cls := .type "zip", data := .fields #[.none, .bool false, .bool false, .ref (zh6 h l1 l2 l3 l4 l5 l6).objs.size, .ref (zh7 h l1 l2 l3 l4 l5 l6).objs.size] }
theorem typeCall_zip_6 (l1 l2 l3 l4 l5 l6 : Value) : checkTypeCall "zip" ⟨[l1, l2, l3, l4, l5, l6], []⟩ = pure () := by kernel_rfl
theorem newCall_zip_6 (l1 l2 l3 l4 l5 l6 : Value) : checkBuiltinCall "zip.__new__" ⟨[.type "zip", l1, l2, l3, l4, l5, l6], []⟩ = pure () := by kernel_rfl
theorem args_object_init_7 (o l1 l2 l3 l4 l5 l6 : Value) : argsOk "object.__init__" ⟨[o, l1, l2, l3, l4, l5, l6], []⟩ := by
  unfold argsOk; rw [signature?_of (id := "object.__init__") (n := ['_', '_', 't', 'i', 'n', 'i', '_', '_']) (o := ['t', 'c', 'e', 'j', 'b', 'o']) (by kernel_rfl) F.owner_object]; kernel_rfl
set_option maxHeartbeats 8000000 in
theorem meets_zip_new6 (l1 l2 l3 l4 l5 l6 : Addr) (x1 x2 x3 x4 x5 x6 : Array Value) :
    Meets (Builtin.«zip.__new__» ⟨[.type "zip", .ref l1, .ref l2, .ref l3, .ref l4, .ref l5, .ref l6], []⟩) (fun _ R s => s.heap.IsList l1 x1 ∧ s.heap.IsList l2 x2 ∧ s.heap.IsList l3 x3 ∧ s.heap.IsList l4 x4 ∧ s.heap.IsList l5 x5 ∧ s.heap.IsList l6 x6 ∧
      R (.ok (.ret (.ref (zh8 s.heap l1 l2 l3 l4 l5 l6).objs.size))) { s with heap := (zh9 s.heap l1 l2 l3 l4 l5 l6) }) :=
  .of_wp fun prog w A R s h => by
    obtain ⟨hp, g, d, tk, os⟩ := s
    obtain ⟨hl1, hl2, hl3, hl4, hl5, hl6, h⟩ := h
    have hsub := sub_zip
    have hL1 : Heap.IsList (Shared.heap ⟨hp, g, d, tk, os⟩) l1 x1 := hl1
    have hL2 : Heap.IsList (Shared.heap ⟨(zh1 hp l1), g, d, tk, os⟩) l2 x2 := (Heap.IsList.push hl2 _)
    have hL3 : Heap.IsList (Shared.heap ⟨(zh2 hp l1 l2), g, d, tk, os⟩) l3 x3 := (Heap.IsList.push (Heap.IsList.push hl3 _) _)
    have hL4 : Heap.IsList (Shared.heap ⟨(zh3 hp l1 l2 l3), g, d, tk, os⟩) l4 x4 := (Heap.IsList.push (Heap.IsList.push (Heap.IsList.push hl4 _) _) _)
    have hL5 : Heap.IsList (Shared.heap ⟨(zh4 hp l1 l2 l3 l4), g, d, tk, os⟩) l5 x5 := (Heap.IsList.push (Heap.IsList.push (Heap.IsList.push (Heap.IsList.push hl5 _) _) _) _)
    have hL6 : Heap.IsList (Shared.heap ⟨(zh5 hp l1 l2 l3 l4 l5), g, d, tk, os⟩) l6 x6 := (Heap.IsList.push (Heap.IsList.push (Heap.IsList.push (Heap.IsList.push (Heap.IsList.push hl6 _) _) _) _) _)
    wp_walk using wpAny_pyIter_list hL1, wpAny_pyIter_list hL2, wpAny_pyIter_list hL3, wpAny_pyIter_list hL4, wpAny_pyIter_list hL5, wpAny_pyIter_list hL6
    exact ⟨_, rfl, h⟩
section
variable {prog : Program} {w : World} {A : Around} {E : Value → Shared → Prop} {s : Shared}
set_option maxHeartbeats 8000000 in
theorem call_zip_6 {l1 l2 l3 l4 l5 l6 : Addr} {x1 x2 x3 x4 x5 x6 : Array Value} {Q : Value → Shared → Prop} (hl1 : s.heap.IsList l1 x1) (hl2 : s.heap.IsList l2 x2) (hl3 : s.heap.IsList l3 x3) (hl4 : s.heap.IsList l4 x4) (hl5 : s.heap.IsList l5 x5) (hl6 : s.heap.IsList l6 x6)
    (h : ∀ h', IsZip h' (s.heap.objs.size + 8) (s.heap.objs.size + 6) (s.heap.objs.size + 7) .none → IsTupV h' (s.heap.objs.size + 6) #[.ref s.heap.objs.size, .ref (s.heap.objs.size + 1), .ref (s.heap.objs.size + 2), .ref (s.heap.objs.size + 3), .ref (s.heap.objs.size + 4), .ref (s.heap.objs.size + 5)] → IsTupV h' (s.heap.objs.size + 7) #[.none, .none, .none, .none, .none, .none] → h'.IsListIter s.heap.objs.size l1 0 → h'.IsListIter (s.heap.objs.size + 1) l2 0 → h'.IsListIter (s.heap.objs.size + 2) l3 0 → h'.IsListIter (s.heap.objs.size + 3) l4 0 → h'.IsListIter (s.heap.objs.size + 4) l5 0 → h'.IsListIter (s.heap.objs.size + 5) l6 0 → h'.objs.size = (s.heap.objs.size + 9) →
      (∀ c o, s.heap.get? c = some o → h'.get? c = some o) → Q (.ref (s.heap.objs.size + 8)) { s with heap := h' }) :
    wpAny (model prog w) A (call (.type "zip") [.ref l1, .ref l2, .ref l3, .ref l4, .ref l5, .ref l6]) Q E s := by
  refine callType_new F.called_zip (by decide) (typeCall_zip_6 _ _ _ _ _ _) (newCall_zip_6 _ _ _ _ _ _) (fun obj => args_object_init_7 obj _ _ _ _ _ _) F.entry_zip_new
    (meets_zip_new6 l1 l2 l3 l4 l5 l6 x1 x2 x3 x4 x5 x6) ⟨hl1, hl2, hl3, hl4, hl5, hl6, ?_⟩
  have z1 : (zh1 s.heap l1).objs.size = s.heap.objs.size + 1 := Heap.size_push ..
  have z2 : (zh2 s.heap l1 l2).objs.size = s.heap.objs.size + 2 := by rw [Heap.size_push, z1]
  have z3 : (zh3 s.heap l1 l2 l3).objs.size = s.heap.objs.size + 3 := by rw [Heap.size_push, z2]
  have z4 : (zh4 s.heap l1 l2 l3 l4).objs.size = s.heap.objs.size + 4 := by rw [Heap.size_push, z3]
  have z5 : (zh5 s.heap l1 l2 l3 l4 l5).objs.size = s.heap.objs.size + 5 := by rw [Heap.size_push, z4]
  have z6 : (zh6 s.heap l1 l2 l3 l4 l5 l6).objs.size = s.heap.objs.size + 6 := by rw [Heap.size_push, z5]
  have z7 : (zh7 s.heap l1 l2 l3 l4 l5 l6).objs.size = s.heap.objs.size + 7 := by rw [Heap.size_push, z6]
  have z8 : (zh8 s.heap l1 l2 l3 l4 l5 l6).objs.size = s.heap.objs.size + 8 := by rw [Heap.size_push, z7]
  have z9 : (zh9 s.heap l1 l2 l3 l4 l5 l6).objs.size = s.heap.objs.size + 9 := by rw [Heap.size_push, z8]
  have g1 : (zh9 s.heap l1 l2 l3 l4 l5 l6).get? s.heap.objs.size = some _ := (Heap.get?_push_of_some _ (Heap.get?_push_of_some _ (Heap.get?_push_of_some _ (Heap.get?_push_of_some _ (Heap.get?_push_of_some _ (Heap.get?_push_of_some _ (Heap.get?_push_of_some _ (Heap.get?_push_of_some _ (Heap.get?_push_size _ rfl)))))))))
  have g2 : (zh9 s.heap l1 l2 l3 l4 l5 l6).get? (zh1 s.heap l1).objs.size = some _ := (Heap.get?_push_of_some _ (Heap.get?_push_of_some _ (Heap.get?_push_of_some _ (Heap.get?_push_of_some _ (Heap.get?_push_of_some _ (Heap.get?_push_of_some _ (Heap.get?_push_of_some _ (Heap.get?_push_size _ rfl))))))))
  have g3 : (zh9 s.heap l1 l2 l3 l4 l5 l6).get? (zh2 s.heap l1 l2).objs.size = some _ := (Heap.get?_push_of_some _ (Heap.get?_push_of_some _ (Heap.get?_push_of_some _ (Heap.get?_push_of_some _ (Heap.get?_push_of_some _ (Heap.get?_push_of_some _ (Heap.get?_push_size _ rfl)))))))
  have g4 : (zh9 s.heap l1 l2 l3 l4 l5 l6).get? (zh3 s.heap l1 l2 l3).objs.size = some _ := (Heap.get?_push_of_some _ (Heap.get?_push_of_some _ (Heap.get?_push_of_some _ (Heap.get?_push_of_some _ (Heap.get?_push_of_some _ (Heap.get?_push_size _ rfl))))))
  have g5 : (zh9 s.heap l1 l2 l3 l4 l5 l6).get? (zh4 s.heap l1 l2 l3 l4).objs.size = some _ := (Heap.get?_push_of_some _ (Heap.get?_push_of_some _ (Heap.get?_push_of_some _ (Heap.get?_push_of_some _ (Heap.get?_push_size _ rfl)))))
  have g6 : (zh9 s.heap l1 l2 l3 l4 l5 l6).get? (zh5 s.heap l1 l2 l3 l4 l5).objs.size = some _ := (Heap.get?_push_of_some _ (Heap.get?_push_of_some _ (Heap.get?_push_of_some _ (Heap.get?_push_size _ rfl))))
  have g7 : (zh9 s.heap l1 l2 l3 l4 l5 l6).get? (zh6 s.heap l1 l2 l3 l4 l5 l6).objs.size = some _ := (Heap.get?_push_of_some _ (Heap.get?_push_of_some _ (Heap.get?_push_size _ rfl)))
  have g8 : (zh9 s.heap l1 l2 l3 l4 l5 l6).get? (zh7 s.heap l1 l2 l3 l4 l5 l6).objs.size = some _ := (Heap.get?_push_of_some _ (Heap.get?_push_size _ rfl))
  have g9 : (zh9 s.heap l1 l2 l3 l4 l5 l6).get? (zh8 s.heap l1 l2 l3 l4 l5 l6).objs.size = some _ := (Heap.get?_push_size _ rfl)
  show _ ∧ _
  rw [z6, z7, z8] at g9
  rw [z1, z2, z3, z4, z5, z6] at g7
  rw [z7] at g8
  rw [z1] at g2
  rw [z2] at g3
  rw [z3] at g4
  rw [z4] at g5
  rw [z5] at g6
  rw [z8]
  exact ⟨⟨_, g9, rfl⟩, h _ g9 g7 g8 ⟨_, g1, rfl, rfl⟩ ⟨_, g2, rfl, rfl⟩ ⟨_, g3, rfl, rfl⟩ ⟨_, g4, rfl, rfl⟩ ⟨_, g5, rfl, rfl⟩ ⟨_, g6, rfl, rfl⟩ z9 fun c o x =>
    (Heap.get?_push_of_some _ (Heap.get?_push_of_some _ (Heap.get?_push_of_some _ (Heap.get?_push_of_some _ (Heap.get?_push_of_some _ (Heap.get?_push_of_some _ (Heap.get?_push_of_some _ (Heap.get?_push_of_some _ (Heap.get?_push_of_some _ x)))))))))⟩
end
end PySem.ZL
set_option Elab.async false
set_option linter.all false
set_option maxRecDepth 100000
/-! list(zip(a, b, c, d, e, f)), lists all as long as one another, not empty -/
namespace ZL
open PySem PySem.Spec PySem.ZL PyProof.Rows L2
theorem sp6 (b l1 l2 l3 l4 l5 l6 : Nat) (h1 : l1 < b) (h2 : l2 < b) (h3 : l3 < b) (h4 : l4 < b) (h5 : l5 < b) (h6 : l6 < b) (x1 x2 x3 x4 x5 x6 : Array Value) :
    Sp (b + 9) (b + 8) (b + 6) (b + 7) (b + 9 + 1) [(b, l1, x1), (b + 1, l2, x2), (b + 2, l3, x3), (b + 3, l4, x4), (b + 4, l5, x5), (b + 5, l6, x6)] := by
  refine ⟨by simp, ⟨by simp, ?_⟩, by simp, ?_, ?_, ?_, ?_, ?_, ?_, ?_, ?_, ?_, ?_, ?_, ?_, ?_, ?_⟩
  all_goals simp
  all_goals (unfold Addr; omega)
open DL (Ex)
def vrow (ls : List (Addr × List V)) (j : Nat) : List V := ls.map fun p => p.2.getD j .non
def rListZip (K : PySem.W.Frag) : List V → Hp → VK → Prop := fun vs H Q => ∃ (ls : List (Addr × List V)) (n : Nat), vs = ls.map (fun p => V.ref p.1) ∧ ls.length = 6 ∧ 0 < n ∧ n ≤ 100000 ∧ (∀ p ∈ ls, SqL K H p.1 p.2 ∧ p.2.length = n) ∧
  ∀ (S : Addr) (T : Nat → Addr) (H1 : Hp), Ex H H1 → (∀ j, j < n → H (T j) = none ∧ H1 (T j) = some (.tup (vrow ls j))) → H1 S = none → Q (.ref S) (upd H1 S (.lst ((List.range n).map fun j => V.ref (T j))))
theorem val_rel {xs : List V} {its : List Value} (r : Vals xs its) {j : Nat} (hj : j < xs.length) {b l : Addr} : RelV (xs.getD j .non) (val j (b, l, its.toArray)) := by
  obtain ⟨u, h1, h2⟩ := r.get (i := j) (x := xs.getD j .non) (by rw [List.getD_eq_getElem?_getD, List.getElem?_eq_getElem hj]; rfl)
  have e : val j (b, l, its.toArray) = u := by
    unfold val
    rw [Array.getD_eq_getD_getElem?, List.getElem?_toArray, h1]; rfl
  rw [e]
  exact h2
/-- many new objects behind the old ones -/
theorem un_many {fs ex : List Addr} {P : Program} {w : World} {H H' : Hp} {h h' : Heap} (ok : HOk P w H h) (k : ∀ b u, h.get? b = some u → h'.get? b = some u) (hnew : ∀ b, b < h.objs.size → H' b = H b) : Un fs ex H H' h h' := by
  have old : ∀ b u, H b = some u → H' b = some u := fun b u e => by
    rcases Nat.lt_or_ge b h.objs.size with hb | hb
    · rw [hnew b hb]; exact e
    · rw [ok.fresh hb] at e; cases e
  exact ⟨fun b u q _ _ _ => k b u q, fun b u q _ _ _ => ⟨u.slots, k b u q⟩, fun b u q n _ => by rw [hnew b (Heap.lt_size q)]; exact n, fun b u q _ => ⟨u, k b u q⟩, fun b xs q => old b _ q, fun b u xs q => old b _ q, fun b ps q => ⟨#[], by rw [old b _ q]; simp⟩⟩
theorem acc_vals (b n : Nat) : Vals ((List.range n).map fun j => V.ref (b + j)) (acc b n).toList := by
  have : ∀ l : List Nat, Vals (l.map fun j => V.ref (b + j)) (l.map fun j => Value.ref (b + j)) := fun l => by
    induction l with
    | nil => exact .nil
    | cons a r ih => exact .cons rfl ih
  exact this _
theorem pe_listzip {X : Cx} {a b c d e f : Expr} {ta : TA} {p p2 q pos : Pos} (hc : X.calm = true) (hg : Gl X "list") (hm : X.mg "list" = none) (hg2 : Gl X "zip") (hm2 : X.mg "zip" = none) (ha : PA X [a, b, c, d, e, f] ta)
    (na : starEach [a, b, c, d, e, f] X.env = (false, eval a X.env) :: starEach [b, c, d, e, f] X.env := by rfl) (npl : (backTo q (starEach [b, c, d, e, f] X.env)).any (·.1) = false := by rfl) :
    PE X (.Call (.Name "list" p) [.Call (.Name "zip" p2) [a, b, c, d, e, f] [] q] [] pos) (tCB (rListZip X.K) ta) := by
  refine ⟨fun pins s σ H Q I h => ?_⟩
  refine Call_ (ld_blt I hg hm boot_list ?_)
  refine PyProof.Rows.callWith_type1 (PyProof.Rows.args_cons ?_ rfl) rfl rfl
  refine Call_ (ld_blt I hg2 hm2 boot_zip ?_)
  refine PyProof.Rows.callWith_type1 (thn (ha.run q pins s σ H _ I h) fun us s1 ⟨vs, H1, I1, r1, q1⟩ => ?_) na npl
  obtain ⟨ls, n, rfl, h6, hn0, hn, hls, q1⟩ := q1
  obtain ⟨l1, l2, l3, l4, l5, l6, rfl⟩ : ∃ l1 l2 l3 l4 l5 l6, ls = [l1, l2, l3, l4, l5, l6] := by
    match ls, h6 with
    | [l1, l2, l3, l4, l5, l6], _ => exact ⟨_, _, _, _, _, _, rfl⟩
  have hu : us = [Value.ref l1.1, Value.ref l2.1, Value.ref l3.1, Value.ref l4.1, Value.ref l5.1, Value.ref l6.1] := by
    obtain _ | ⟨a1, r1⟩ := r1
    obtain _ | ⟨a2, r1⟩ := r1
    obtain _ | ⟨a3, r1⟩ := r1
    obtain _ | ⟨a4, r1⟩ := r1
    obtain _ | ⟨a5, r1⟩ := r1
    obtain _ | ⟨a6, r1⟩ := r1
    cases r1
    rw [show _ = Value.ref l1.1 from a1, show _ = Value.ref l2.1 from a2, show _ = Value.ref l3.1 from a3, show _ = Value.ref l4.1 from a4, show _ = Value.ref l5.1 from a5, show _ = Value.ref l6.1 from a6]
  subst hu
  obtain ⟨⟨its1, v1, pl1, _⟩, n1⟩ := (show (∃ its : List Value, Vals l1.2 its ∧ PlainL s1.heap l1.1 its.toArray ∧ l1.2.length ≤ sizeLine) ∧ l1.2.length = n from ⟨I1.list (hls l1 (by simp)).1, (hls l1 (by simp)).2⟩)
  obtain ⟨⟨its2, v2, pl2, _⟩, n2⟩ := (show (∃ its : List Value, Vals l2.2 its ∧ PlainL s1.heap l2.1 its.toArray ∧ l2.2.length ≤ sizeLine) ∧ l2.2.length = n from ⟨I1.list (hls l2 (by simp)).1, (hls l2 (by simp)).2⟩)
  obtain ⟨⟨its3, v3, pl3, _⟩, n3⟩ := (show (∃ its : List Value, Vals l3.2 its ∧ PlainL s1.heap l3.1 its.toArray ∧ l3.2.length ≤ sizeLine) ∧ l3.2.length = n from ⟨I1.list (hls l3 (by simp)).1, (hls l3 (by simp)).2⟩)
  obtain ⟨⟨its4, v4, pl4, _⟩, n4⟩ := (show (∃ its : List Value, Vals l4.2 its ∧ PlainL s1.heap l4.1 its.toArray ∧ l4.2.length ≤ sizeLine) ∧ l4.2.length = n from ⟨I1.list (hls l4 (by simp)).1, (hls l4 (by simp)).2⟩)
  obtain ⟨⟨its5, v5, pl5, _⟩, n5⟩ := (show (∃ its : List Value, Vals l5.2 its ∧ PlainL s1.heap l5.1 its.toArray ∧ l5.2.length ≤ sizeLine) ∧ l5.2.length = n from ⟨I1.list (hls l5 (by simp)).1, (hls l5 (by simp)).2⟩)
  obtain ⟨⟨its6, v6, pl6, _⟩, n6⟩ := (show (∃ its : List Value, Vals l6.2 its ∧ PlainL s1.heap l6.1 its.toArray ∧ l6.2.length ≤ sizeLine) ∧ l6.2.length = n from ⟨I1.list (hls l6 (by simp)).1, (hls l6 (by simp)).2⟩)
  refine call_zip_6 pl1.isList pl2.isList pl3.isList pl4.isList pl5.isList pl6.isList fun h' a1 a2 a3 a4 a5 a6 a7 a8 a9 a10 a11 => PyProof.Rows.args_nil ?_
  generalize hb : s1.heap.objs.size = b at *
  have lt1 : l1.1 < b := by rw [← hb]; obtain ⟨o, _, e, _⟩ := pl1; exact Heap.lt_size e
  have lt2 : l2.1 < b := by rw [← hb]; obtain ⟨o, _, e, _⟩ := pl2; exact Heap.lt_size e
  have lt3 : l3.1 < b := by rw [← hb]; obtain ⟨o, _, e, _⟩ := pl3; exact Heap.lt_size e
  have lt4 : l4.1 < b := by rw [← hb]; obtain ⟨o, _, e, _⟩ := pl4; exact Heap.lt_size e
  have lt5 : l5.1 < b := by rw [← hb]; obtain ⟨o, _, e, _⟩ := pl5; exact Heap.lt_size e
  have lt6 : l6.1 < b := by rw [← hb]; obtain ⟨o, _, e, _⟩ := pl6; exact Heap.lt_size e
  have sp := sp6 b l1.1 l2.1 l3.1 l4.1 l5.1 l6.1 lt1 lt2 lt3 lt4 lt5 lt6 its1.toArray its2.toArray its3.toArray its4.toArray its5.toArray its6.toArray
  obtain ⟨xs, hxe⟩ : ∃ xs : List Tri, xs = [(b, l1.1, its1.toArray), (b + 1, l2.1, its2.toArray), (b + 2, l3.1, its3.toArray), (b + 3, l4.1, its4.toArray), (b + 4, l5.1, its5.toArray), (b + 5, l6.1, its6.toArray)] := ⟨_, rfl⟩
  have hsz : ∀ p ∈ xs, p.2.2.size = n := by
    rw [hxe]
    simp
    exact ⟨by rw [← v1.length]; exact n1, by rw [← v2.length]; exact n2, by rw [← v3.length]; exact n3, by rw [← v4.length]; exact n4, by rw [← v5.length]; exact n5, by rw [← v6.length]; exact n6⟩
  have hits : Its h' xs 0 := by
    rw [hxe]
    intro p hp
    simp at hp
    rcases hp with rfl | rfl | rfl | rfl | rfl | rfl
    · exact ⟨a4, pl1.isList.at fun o e => a11 _ o e⟩
    · exact ⟨a5, pl2.isList.at fun o e => a11 _ o e⟩
    · exact ⟨a6, pl3.isList.at fun o e => a11 _ o e⟩
    · exact ⟨a7, pl4.isList.at fun o e => a11 _ o e⟩
    · exact ⟨a8, pl5.isList.at fun o e => a11 _ o e⟩
    · exact ⟨a9, pl6.isList.at fun o e => a11 _ o e⟩
  have hge : ∀ p ∈ xs, b ≤ p.1 := by
    rw [hxe]
    simp
    all_goals (unfold Addr; omega)
  have hvr : ∀ j, j < n → Vals (vrow [l1, l2, l3, l4, l5, l6] j) (xs.map (val j)) := fun j hj => by
    rw [hxe]
    exact .cons (val_rel v1 (by omega)) (.cons (val_rel v2 (by omega)) (.cons (val_rel v3 (by omega)) (.cons (val_rel v4 (by omega)) (.cons (val_rel v5 (by omega)) (.cons (val_rel v6 (by omega)) .nil)))))
  have hrefs : IsTupV h' (b + 6) (refs xs) := by rw [hxe]; exact a2
  have hvl : (#[Value.none, Value.none, Value.none, Value.none, Value.none, Value.none] : Array Value).size = xs.length := by rw [hxe]; rfl
  rw [← hxe] at sp
  clear hxe a2 a4 a5 a6 a7 a8 a9 v1 v2 v3 v4 v5 v6
  refine call_list_zip (S := b + 9) (n := n) (s := { s1 with heap := h' }) (I1.ok.hd hc) a10 sp (by rw [sizeLine_eq]; omega) hn0 hsz a1 hrefs a3 hvl hits fun h'' c' d1 d2 d3 => ?_
  have k2 : ∀ c o, s1.heap.get? c = some o → h''.get? c = some o := fun c o e => d3 c o (fun hw => by
    have hlt : c < b := by rw [← hb]; exact Heap.lt_size e
    rcases hw with x | x | x | ⟨p, hp, x⟩
    · exact Nat.lt_irrefl _ (Nat.lt_of_lt_of_le hlt (by rw [x]; exact Nat.le_add_right _ _))
    · exact Nat.lt_irrefl _ (Nat.lt_of_lt_of_le hlt (by rw [x]; exact Nat.le_add_right _ _))
    · exact Nat.lt_irrefl _ (Nat.lt_of_lt_of_le hlt (by rw [x]; exact Nat.le_add_right _ _))
    · exact Nat.lt_irrefl _ (Nat.lt_of_lt_of_le hlt (by rw [x]; exact hge p hp))) (a11 c o e)
  have fresh : ∀ c, b ≤ c → H1 c = none := fun c hcb => I1.hok.fresh (by rw [hb]; exact hcb)
  obtain ⟨H2, hH2⟩ : ∃ H2 : Hp, H2 = fun c => if b + 9 + 1 ≤ c ∧ c < b + 9 + 1 + n then some (HO.tup (vrow [l1, l2, l3, l4, l5, l6] (c - (b + 9 + 1)))) else H1 c := ⟨_, rfl⟩
  have h2old : ∀ c, ¬ (b + 9 + 1 ≤ c ∧ c < b + 9 + 1 + n) → H2 c = H1 c := fun c h => by rw [hH2]; exact if_neg h
  have h2new : ∀ j, j < n → H2 (b + 9 + 1 + j) = some (.tup (vrow [l1, l2, l3, l4, l5, l6] j)) := fun j hj => by
    rw [hH2]
    show (if _ then _ else _) = _
    rw [if_pos ⟨Nat.le_add_right _ _, Nat.add_lt_add_left hj _⟩, Nat.add_sub_cancel_left]
  clear hH2
  have hS : H2 (b + 9) = none := by rw [h2old _ (fun h => Nat.not_succ_le_self _ h.1)]; exact fresh _ (Nat.le_add_right _ _)
  have low : ∀ c, c < b → upd H2 (b + 9) (.lst ((List.range n).map fun j => V.ref (b + 9 + 1 + j))) c = H1 c := fun c hcb => by
    rw [upd_ne (Nat.ne_of_lt (Nat.lt_of_lt_of_le hcb (Nat.le_add_right _ _))), h2old _ fun h => Nat.lt_irrefl _ (Nat.lt_of_lt_of_le hcb (Nat.le_trans (by rw [Nat.add_assoc]; exact Nat.le_add_right _ _) h.1))]
  have old : ∀ c u, H1 c = some u → upd H2 (b + 9) (.lst ((List.range n).map fun j => V.ref (b + 9 + 1 + j))) c = some u := fun c u e => by
    rcases Nat.lt_or_ge c b with hcb | hcb
    · rw [low c hcb]; exact e
    · rw [fresh c hcb] at e; cases e
  have old2 : ∀ c u, H1 c = some u → H2 c = some u := fun c u e => by
    rcases Nat.lt_or_ge c b with hcb | hcb
    · rw [h2old _ fun h => Nat.lt_irrefl _ (Nat.lt_of_lt_of_le hcb (Nat.le_trans (by rw [Nat.add_assoc]; exact Nat.le_add_right _ _) h.1))]; exact e
    · rw [fresh c hcb] at e; cases e
  have hok3 : HOk X.prog X.w (upd H2 (b + 9) (.lst ((List.range n).map fun j => V.ref (b + 9 + 1 + j)))) h'' := fun c u e => by
    rcases Nat.lt_or_ge c b with hcb | hcb
    · rw [low c hcb] at e
      exact (I1.hok c u e).stay (fun c v _ q => k2 c v q) (fun c q => old c _ q) fun c xs q => old c _ q
    · by_cases hcs : c = b + 9
      · subst hcs
        rw [upd_same] at e
        cases e
        refine ⟨by rw [List.length_map, List.length_range, sizeLine_eq]; omega, (acc (b + 9 + 1) n).toList, c', acc_vals _ _, by rw [d1]⟩
      · rw [upd_ne hcs] at e
        by_cases hr : b + 9 + 1 ≤ c ∧ c < b + 9 + 1 + n
        · obtain ⟨j, rfl⟩ := Nat.le.dest hr.1
          have hj : j < n := Nat.lt_of_add_lt_add_left hr.2
          rw [h2new j hj] at e
          cases e
          exact ⟨by show [_, _, _, _, _, _].length ≤ sizeLine; rw [sizeLine_eq]; simp, _, hvr j hj, _, d2 j hj, rfl, 0, rfl⟩
        · rw [h2old c hr, fresh c hcb] at e
          cases e
  have J : Inv X pins σ (upd H2 (b + 9) (.lst ((List.range n).map fun j => V.ref (b + 9 + 1 + j)))) { s1 with heap := h'', gens := s1.gens, drawn := s1.drawn, toks := s1.toks } :=
    I1.call (ch := []) (un_many I1.hok k2 fun c hcb => low c (by rw [← hb]; exact hcb)) hok3 I1.bare (fun _ z => nomatch z)
  exact ⟨.ref (b + 9), _, J, rfl, q1 (b + 9) (fun j => b + 9 + 1 + j) H2 old2 (fun j hj => ⟨fresh _ (by rw [Nat.add_assoc, Nat.add_assoc]; exact Nat.le_add_right _ _), h2new j hj⟩) hS⟩
end ZL
set_option Elab.async false
set_option linter.all false
set_option maxRecDepth 100000
namespace DL
open PySem PySem.Spec L2
section
variable [Rf] {m : Bool} {K : PySem.W.Frag} {ta : TA} {da : dA} {X : Cx}
/-- a built-in that makes a list of new tuples -/
structure CbT (K : PySem.W.Frag) (r : List V → Hp → VK → Prop) (rd : List P → (List P → Prop) → Prop) : Prop where
  run : ∀ {B H : Hp} {xs : List V} {ps : List P} {QD : List P → Prop} {Q : VK}, Ex B H → RpA K B ps xs → rd ps QD →
    (∀ l ys zs B1 H1, QD zs → Gr B H B1 H1 → RpA K B1 zs ys → H1 l = none → Q (.ref l) (upd H1 l (.lst ys))) → r xs H Q
theorem snd_cbT {r : List V → Hp → VK → Prop} {rd : List P → (List P → Prop) → Prop} (hs : CbT K r rd) (h : SndA m K ta da) : SndO m K (tCB r ta) (dCbO rd da) := ⟨fun {B H σ env G QD Q} w q k => h.run w q fun as e vs B1 H1 G1 q1 w1 r1 s1 u1 => by
  change (match prs as with | some ps => rd ps fun p => QD (.ol p) e | none => False) at q1
  split at q1
  · rename_i ps hp
    exact hs.run w1.ex (r1.all hp) q1 fun l ys zs B2 H2 q2 g r2 hn => by
      have w2 := w1.gr g
      have s2 := s1.trans (g.stp (G := G1))
      obtain ⟨w3, o3, g3⟩ := own_new w2 hn (s2.back hn) r2
      exact k _ e _ [l] B2 _ G1 q2 w3 o3 (s2.trans g3.stp) ((u1.trans (.gr g)).trans (.gr g3))
  · exact q1.elim⟩
theorem do_cbT {a : Expr} {r : List V → Hp → VK → Prop} {rd : List P → (List P → Prop) → Prop} {e0 : Expr} {es : List Expr} (h : PA X (e0 :: es) ta → PE X a (tCB r ta)) (hs : CbT X.K r rd) (ha : DA m X (e0 :: es) ta da) : DO m X a (tCB r ta) (dCbO rd da) := ⟨h ha.pe, snd_cbT hs ha.sd⟩
def pseqL : P → Option (List P)
  | .lst xs => some xs
  | .rol xs => some xs
  | _ => none
/-- list(zip(..)) of lists -/
def lzQ (ps : List P) (Q : List P → Prop) : Prop := ∃ (xss : List (List P)) (n : Nat), ps.map pseqL = xss.map some ∧ xss.length = 6 ∧ 0 < n ∧ n ≤ 100000 ∧ (∀ xs ∈ xss, xs.length = n) ∧ Q ((List.range n).map fun j => .tup (xss.map fun xs => xs.getD j .non))
def RpL (K : PySem.W.Frag) (B : Hp) : List (List P) → List (Addr × List V) → Prop
  | [], ls => ls = []
  | xs :: r, ls => ∃ p l, ls = p :: l ∧ RpA K B xs p.2 ∧ RpL K B r l
theorem lz_args {B H : Hp} (ex : Ex B H) : ∀ {ps : List P} {xs : List V} {xss : List (List P)}, RpA K B ps xs → ps.map pseqL = xss.map some → ∃ ls : List (Addr × List V), xs = ls.map (fun p => V.ref p.1) ∧ (∀ p ∈ ls, SqL K H p.1 p.2) ∧ RpL K B xss ls
  | [], xs, xss, r, e => by
    cases xss with
    | nil => exact ⟨[], r, fun p h => absurd h List.not_mem_nil, rfl⟩
    | cons a b => cases e
  | p :: ps, xs, xss, r, e => by
    obtain ⟨v, l, rfl, r1, r2⟩ := r
    cases xss with
    | nil => cases e
    | cons x xr =>
      rw [List.map_cons, List.map_cons] at e
      obtain ⟨e1, e2⟩ := List.cons.inj e
      obtain ⟨ls, rfl, h1, h2⟩ := lz_args ex r2 e2
      cases p with
      | lst qs =>
        cases e1
        obtain ⟨a, vs, rfl, g1, g2⟩ := r1
        refine ⟨(a, vs) :: ls, rfl, fun q hq => ?_, (a, vs), ls, rfl, g2, h2⟩
        rcases List.mem_cons.mp hq with rfl | hq
        · exact SqL.of (ex a _ g1)
        · exact h1 q hq
      | rol qs =>
        cases e1
        obtain ⟨a, vs, rfl, g1, g2⟩ := r1
        refine ⟨(a, vs) :: ls, rfl, fun q hq => ?_, (a, vs), ls, rfl, g2, h2⟩
        rcases List.mem_cons.mp hq with rfl | hq
        · exact ex.sqL g1
        · exact h1 q hq
      | _ => cases e1
theorem RpL.len {B : Hp} : ∀ {xss : List (List P)} {ls : List (Addr × List V)}, RpL K B xss ls → ls.length = xss.length
  | [], ls, h => by rw [show ls = [] from h]; rfl
  | x :: xr, ls, ⟨p, l, e, _, h⟩ => by rw [e, List.length_cons, List.length_cons, RpL.len h]
theorem RpL.each {B : Hp} {n : Nat} : ∀ {xss : List (List P)} {ls : List (Addr × List V)}, RpL K B xss ls → (∀ xs ∈ xss, xs.length = n) → ∀ p ∈ ls, p.2.length = n
  | [], ls, h, _, p, hp => by rw [show ls = [] from h] at hp; cases hp
  | x :: xr, ls, ⟨q, l, e, g, h⟩, hn, p, hp => by
    subst e
    rcases List.mem_cons.mp hp with rfl | hp
    · rw [g.length]; exact hn x List.mem_cons_self
    · exact RpL.each h (fun y hy => hn y (List.mem_cons_of_mem _ hy)) p hp
theorem RpL.row {B : Hp} {n j : Nat} (hj : j < n) : ∀ {xss : List (List P)} {ls : List (Addr × List V)}, RpL K B xss ls → (∀ xs ∈ xss, xs.length = n) → RpA K B (xss.map fun xs => xs.getD j .non) (ZL.vrow ls j)
  | [], ls, h, _ => by rw [show ls = [] from h]; rfl
  | x :: xr, ls, ⟨q, l, e, g, h⟩, hn => by
    subst e
    have hx := hn x List.mem_cons_self
    obtain ⟨u, h1, h2⟩ := g.get (i := j) (p := x.getD j .non) (by rw [List.getD_eq_getElem?_getD, List.getElem?_eq_getElem (by omega)]; rfl)
    refine ⟨u, ZL.vrow l j, ?_, h2, RpL.row hj h fun y hy => hn y (List.mem_cons_of_mem _ hy)⟩
    show q.2.getD j .non :: _ = _
    rw [List.getD_eq_getElem?_getD, h1]
    rfl
theorem cs_listzip : CbT K (ZL.rListZip K) lzQ := ⟨fun {B H xs ps QD Q} ex r q k => by
  obtain ⟨xss, n, he, h6, hn0, hn, hlen, q⟩ := q
  obtain ⟨ls, rfl, h1, h2⟩ := lz_args ex r he
  refine ⟨ls, n, rfl, h2.len.trans h6, hn0, hn, fun p hp => ⟨h1 p hp, h2.each hlen p hp⟩, fun S T H1 exH hT hS => ?_⟩
  obtain ⟨B1, hB⟩ : ∃ B1 : Hp, B1 = fun a => match H a with | none => H1 a | some _ => B a := ⟨_, rfl⟩
  have b0 : ∀ a, H a = none → B1 a = H1 a := fun a e => by rw [hB]; show (match H a with | none => _ | some _ => _) = _; rw [e]
  have b1 : ∀ a o, H a = some o → B1 a = B a := fun a o e => by rw [hB]; show (match H a with | none => _ | some _ => _) = _; rw [e]
  have g : Gr B H B1 H1 := ⟨fun a o e => by rw [b1 a o (ex a o e)]; exact e, exH, fun a o e => by
    cases hh : H a with
    | none => rw [b0 a hh] at e; exact e
    | some u => rw [b1 a u hh] at e; exact exH a o (ex a o e), fun a o e en => by rw [b1 a o e]; exact en⟩
  refine k S _ _ B1 H1 q g ?_ hS
  have all : ∀ l : List Nat, (∀ j ∈ l, j < n) → RpA K B1 (l.map fun j => .tup (xss.map fun xs => xs.getD j .non)) (l.map fun j => V.ref (T j)) := fun l => by
    induction l with
    | nil => exact fun _ => rfl
    | cons j r ih =>
      intro hl
      have hj := hl j List.mem_cons_self
      have ht := hT j hj
      exact ⟨_, _, rfl, ⟨T j, ZL.vrow ls j, rfl, SqT.of (by rw [b0 _ ht.1]; exact ht.2), RpA.mono g.b _ (h2.row hj hlen)⟩, ih fun i hi => hl i (List.mem_cons_of_mem _ hi)⟩
  exact all _ fun j hj => List.mem_range.mp hj⟩
theorem do_listzip {a b c d e f : Expr} {p p2 q pos : Pos} (hc : X.calm = true) (hg : Gl X "list") (hm : X.mg "list" = none) (hg2 : Gl X "zip") (hm2 : X.mg "zip" = none) (ha : DA m X [a, b, c, d, e, f] ta da)
    (na : starEach [a, b, c, d, e, f] X.env = (false, eval a X.env) :: starEach [b, c, d, e, f] X.env := by rfl) (npl : (backTo q (starEach [b, c, d, e, f] X.env)).any (·.1) = false := by rfl) :
    DO m X (.Call (.Name "list" p) [.Call (.Name "zip" p2) [a, b, c, d, e, f] [] q] [] pos) (tCB (ZL.rListZip X.K) ta) (dCbO lzQ da) :=
  ⟨ZL.pe_listzip hc hg hm hg2 hm2 ha.pe na npl, snd_cbT cs_listzip ha.sd⟩
end
end DL
set_option Elab.async false
set_option linter.all false
set_option maxRecDepth 100000
/-! a list comprehension with two for's; nothing but the list changes -/
namespace DL
open PySem PySem.Spec L2
section
variable [Rf] {m : Bool} {K : PySem.W.Frag} {X : Cx} {wi wi1 : TI} {g g1 : TG} {tt tt1 : TT} {te : TE} {dw dw1 : dI} {dg dg1 : dG} {dt dt1 : dT} {de : dE}
def dLc2P (di : dI) (dg : dG) (dt : dT) (di1 : dI) (dg1 : dG) (dt1 : dT) (de : dE) (n : Nat) (vs vs1 : List Nat) : dO := fun env Q => di env fun ps env1 => lenE n env1 = true ∧ ∃ Inv : Nat → List P → Prop, Inv 0 [] ∧
  (∀ i p acc, ps[i]? = some p → Inv i acc → dg p (wipeE env1 vs) fun e2 => dt e2 fun b e3 => cnd b (di1 e3 fun ps1 e4 => ∃ Inv1 : Nat → List P → Prop, Inv1 0 acc ∧
    (∀ j p1 acc1, ps1[j]? = some p1 → Inv1 j acc1 → dg1 p1 (wipeE e4 vs1) fun e5 => dt1 e5 fun b1 e6 => cnd b1 (de e6 fun y _ => acc1.length < sizeLine ∧ Inv1 (j + 1) (acc1 ++ [y])) (Inv1 (j + 1) acc1)) ∧
    ∀ acc1, Inv1 ps1.length acc1 → Inv (i + 1) acc1) (Inv (i + 1) acc)) ∧
  ∀ acc, Inv ps.length acc → Q (.ol acc) env1
set_option maxHeartbeats 2000000 in
theorem snd_lc2P {n : Nat} {vs vs1 : List Nat} (hi : SndI m K wi dw) (hg : SndG (others n vs) K g dg) (ht : SndT true K tt dt) (hi1 : SndI true K wi1 dw1) (hg1 : SndG (others n vs1) K g1 dg1) (ht1 : SndT true K tt1 dt1) (he : SndE true K te de) :
    SndO m K (tLc2 wi g tt wi1 g1 tt1 te vs vs1) (dLc2P dw dg dt dw1 dg1 dt1 de n vs vs1) := ⟨fun {B H σ env G QD Q} w q k => by
  refine hi.run w q fun ps env1 B1 H1 G1 J q1 w1 s1 u1 hJ => ?_
  obtain ⟨hn, Inv, i0, turn, done⟩ := q1
  have hσ : σ.length ≤ n := by rw [← w1.len]; exact lenE_le hn
  intro l hl
  let Wx : Nat → Hp → Prop := fun i H' => ∃ acc B', Inv i acc ∧ Gr B1 H1 B' H' ∧ Acc K B' H' G1 l acc
  have g0 : Gr B1 H1 B1 (upd H1 l (.lst [])) := ⟨Ex.refl _, fun a u k => by rw [upd_ne (ne_of_none k hl)]; exact k, fun a u k => by rw [upd_ne (ne_of_none (w1.ex a u k) hl)]; exact w1.ex a u k, fun a u k n => n⟩
  refine ⟨fun i mm H' => mm = ps.length - i ∧ i ≤ ps.length ∧ Wx i H', ⟨_, rfl, Nat.zero_le _, [], B1, i0, g0, ⟨⟨[], upd_same, rfl⟩, w1.ex.back hl, fun i hi => w1.off hl i hi⟩⟩, ?_⟩
  rintro i mm H' ⟨rfl, hle, acc, B', hI, g', a'⟩
  obtain ⟨hgo, hst⟩ := hJ B' H' i g'.b g'.w hle
  by_cases hlt : i < ps.length
  · obtain ⟨go, yl⟩ := hgo ps[i] (List.getElem?_eq_getElem hlt)
    refine .inr ⟨go, Wx (i + 1), fun H2 h2 => ⟨ps.length - (i + 1), by omega, rfl, hlt, h2⟩, fun x H2 y => ?_⟩
    obtain ⟨B2, g2, r2⟩ := yl x H2 y
    have w2 := ((w1.gr g').gr g2).wipe vs
    have a2 := a'.stp (G' := G1) (g2.stp (G := G1))
    refine hg.run w2 r2 (turn i ps[i] acc (List.getElem?_eq_getElem hlt) hI) fun env3 σ3 G3 q3 w3 g3 p3 => ?_
    have hw3 := wipe_pin p3 hσ
    have hl3 : σ3.length = σ.length := by rw [p3.1, L2.wipe_length]
    refine ⟨hw3, ?_⟩
    have ap3 : ∀ i, l ∉ G3 i := fun i hi => by
      obtain ⟨j, hj⟩ := g3 i l hi
      exact a2.ap j (wipeG_sub hj)
    refine ht.run w3 q3 fun bb env4 B4 H4 G4 q4 w4 s4 u4 => ?_
    obtain ⟨rfl, rfl, g4⟩ := u4 rfl
    have a4 : Acc K B4 H4 G1 l acc := by
      obtain ⟨z1, z2, z3⟩ := (show Acc K _ _ _ l acc from ⟨a2.at_, a2.nb, ap3⟩).stp s4
      exact ⟨z1, z2, a2.ap⟩
    cases bb with
    | true =>
      replace q4 := q4.1 rfl
      rw [if_pos rfl]
      refine hi1.run w4 q4 fun ps1 env5 B5 H5 G5 J1 q5 w5 s5 u5 hJ1 => ?_
      obtain ⟨rfl, rfl, g5⟩ := u5 rfl
      obtain ⟨Inv1, j0, turn1, done1⟩ := q5
      have gg := ((g'.trans g2).trans g4).trans g5
      have a5 : Acc K B5 H5 G1 l acc := a4.stp (g5.stp (G := G1))
      have ap5 : ∀ i, l ∉ G5 i := ap3
      let Wy : Nat → Hp → Prop := fun j H' => ∃ acc1 B', Inv1 j acc1 ∧ Ex B5 B' ∧ Wd K B' H' σ3 env5 G5 ∧ Gr B1 H1 B' H' ∧ Acc K B' H' G1 l acc1
      refine ⟨fun j kk H' => kk = ps1.length - j ∧ j ≤ ps1.length ∧ Wy j H', ⟨_, rfl, Nat.zero_le _, acc, B5, j0, .refl _, w5, gg, a5⟩, ?_⟩
      rintro j kk H6 ⟨rfl, hle1, acc1, B6, hI1, e6, w6, g6, a6⟩
      obtain ⟨hgo1, hst1⟩ := hJ1 B6 H6 j e6 w6.ex hle1
      by_cases hlt1 : j < ps1.length
      · obtain ⟨go1, yl1⟩ := hgo1 ps1[j] (List.getElem?_eq_getElem hlt1)
        refine .inr ⟨go1, Wy (j + 1), fun H2 h2 => ⟨ps1.length - (j + 1), by omega, rfl, hlt1, h2⟩, fun x H7 y => ?_⟩
        obtain ⟨B7, g7, r7⟩ := yl1 x H7 y
        have w7 := w6.gr g7
        have a7 := a6.stp (G' := G1) (g7.stp (G := G1))
        refine hg1.run (w7.wipe vs1) r7 (turn1 j ps1[j] acc1 (List.getElem?_eq_getElem hlt1) hI1) fun env8 σ8 G8 q8 w8 g8 p8 => ?_
        refine ⟨wipe_pin p8 (by rw [hl3]; exact hσ), ?_⟩
        have ap8 : ∀ i, l ∉ G8 i := fun i hi => by
          obtain ⟨j2, hj2⟩ := g8 i l hi
          exact ap5 j2 (wipeG_sub hj2)
        refine ht1.run w8 q8 fun bb env9 B9 H9 G9 q9 w9 s9 u9 => ?_
        obtain ⟨rfl, rfl, g9⟩ := u9 rfl
        have a9 : Acc K B9 H9 G1 l acc1 := by
          obtain ⟨z1, z2, z3⟩ := (show Acc K _ _ _ l acc1 from ⟨a7.at_, a7.nb, ap8⟩).stp s9
          exact ⟨z1, z2, a7.ap⟩
        cases bb with
        | true =>
          replace q9 := q9.1 rfl
          rw [if_pos rfl]
          refine he.run w9 q9 fun p10 env10 v10 B10 H10 G10 q10 w10 r10 s10 u10 => ?_
          obtain ⟨rfl, rfl, g10⟩ := u10 rfl
          have hh := (g7.trans g9).trans g10
          have a10 : Acc K B10 H10 G1 l acc1 := a9.stp (g10.stp (G := G1))
          obtain ⟨vs10, h10, rp10⟩ := a10.at_
          have gn := g6.trans hh
          refine ⟨vs10, h10, by rw [rp10.length]; exact q10.1, acc1 ++ [p10], B10, q10.2, e6.trans hh.b, ?_, ?_, ⟨⟨_, upd_same, rp10.append (RpA.one r10)⟩, a10.nb, a10.ap⟩⟩
          · have a11 : Acc K B10 H10 G5 l acc1 := ⟨a10.at_, a10.nb, ap5⟩
            exact a11.wd (w6.gr hh)
          · exact ⟨gn.b, fun a o h => by rw [upd_ne (ne_of_none h hl)]; exact gn.h a o h, fun a o h => by rw [upd_ne (ne_of_none h a10.nb)]; exact gn.w a o h, gn.n⟩
        | false =>
          replace q9 := q9.2 rfl
          rw [if_neg Bool.false_ne_true]
          exact ⟨acc1, B9, q9, e6.trans (g7.trans g9).b, w7.gr g9, g6.trans (g7.trans g9), a9⟩
      · have e : j = ps1.length := by omega
        subst e
        exact .inl ⟨hst1 (Nat.le_refl _), acc1, B6, done1 acc1 hI1, g6, a6⟩
    | false =>
      replace q4 := q4.2 rfl
      rw [if_neg Bool.false_ne_true]
      exact ⟨acc, B4, q4, (g'.trans g2).trans g4, a4⟩
  · have e : i = ps.length := by omega
    subst e
    obtain ⟨vs5, h5, rp5⟩ := a'.at_
    exact .inl ⟨hst (Nat.le_refl _), k (.ol acc) env1 (.ref l) [l] B' H' G1 (done acc hI) (w1.gr g') ⟨⟨l, vs5, rfl, rfl, h5, rp5⟩, by simp, fun a ha => by rw [List.mem_singleton.mp ha]; exact a'.nb, fun a ha => by
      rw [List.mem_singleton.mp ha]
      exact .inr (s1.back hl), fun a ha j hj => by rw [List.mem_singleton.mp ha] at hj; exact a'.ap j hj⟩ (s1.trans g'.stp) (u1.trans (.gr g'))⟩⟩
end
section
variable [Rf] {m : Bool} {X : Cx} {pn : List Nat} {pos : Pos} {elt tg iter tg1 iter1 : Expr} {ifs ifs1 : List Expr} {scope : Scope} {own : List (Str × Nat)} {wi : TI} {dw : dI} {vs1 : List Nat} {y : Str} {py spos : Pos}
variable {g' g1' : BF TG} {dg' dg1' : BF dG} {tt' tt1' : BF TT} {dt' dt1' : BF dT} {te' : BF TE} {de' : BF dE} {wi1' : BF TI} {dw1' : BF dI}
theorem do_lc2P {n : Nat} (hc : X.calm = true) (hN : X.N.Nodup) (hi : DI m X tg iter wi dw) (ok : BlkOk X.N X.env.scope scope own) (hv : ∀ i ∈ vs1, i ∈ own.map (·.2))
    (hg : ∀ s H C cl fp, DG (others n (own.map (·.2))) (Blk X scope s H C cl fp) tg (g' s H C cl fp) (dg' s H C cl fp)) (ht : ∀ s H C cl fp, DTs true (Blk X scope s H C cl fp) ifs (tt' s H C cl fp) (dt' s H C cl fp))
    (hi1 : ∀ s H C cl fp, DI true (Blk X scope s H C cl fp) tg1 iter1 (wi1' s H C cl fp) (dw1' s H C cl fp))
    (hg1 : ∀ s H C cl fp, DG (others n vs1) (Blk X scope s H C cl fp) tg1 (g1' s H C cl fp) (dg1' s H C cl fp)) (ht1 : ∀ s H C cl fp, DTs true (Blk X scope s H C cl fp) ifs1 (tt1' s H C cl fp) (dt1' s H C cl fp))
    (he : ∀ s H C cl fp, DE true (Blk X scope s H C cl fp) elt (te' s H C cl fp) (de' s H C cl fp))
    (eg : ∀ s H C cl fp, g' s H C cl fp = g' z0 z1 0 [] [] := by intros; rfl) (et : ∀ s H C cl fp, tt' s H C cl fp = tt' z0 z1 0 [] [] := by intros; rfl) (ei1 : ∀ s H C cl fp, wi1' s H C cl fp = wi1' z0 z1 0 [] [] := by intros; rfl) (eg1 : ∀ s H C cl fp, g1' s H C cl fp = g1' z0 z1 0 [] [] := by intros; rfl) (et1 : ∀ s H C cl fp, tt1' s H C cl fp = tt1' z0 z1 0 [] [] := by intros; rfl) (ee : ∀ s H C cl fp, te' s H C cl fp = te' z0 z1 0 [] [] := by intros; rfl)
    (hs : ∀ x, foldedSetIterable iter X.env x = pure x := by intro _; rfl) (hs1 : ∀ env x, foldedSetIterable iter1 env x = pure x := by intro _ _; rfl) :
    DO m X (.ListComp elt [⟨tg, iter, ifs, 0⟩, ⟨tg1, iter1, ifs1, 0⟩] scope pos) (tLc2 wi (g' z0 z1 0 [] []) (tt' z0 z1 0 [] []) (wi1' z0 z1 0 [] []) (g1' z0 z1 0 [] []) (tt1' z0 z1 0 [] []) (te' z0 z1 0 [] []) (own.map (·.2)) vs1) (dLc2P dw (dg' z0 z1 0 [] []) (dt' z0 z1 0 [] []) (dw1' z0 z1 0 [] []) (dg1' z0 z1 0 [] []) (dt1' z0 z1 0 [] []) (de' z0 z1 0 [] []) n (own.map (·.2)) vs1) :=
  ⟨pe_lc2 hc hN hi.pe ok hv (fun s H C cl fp => by rw [← eg s H C cl fp]; exact (hg s H C cl fp).pe) (fun s H C cl fp => by rw [← et s H C cl fp]; exact (ht s H C cl fp).pe) (fun s H C cl fp => by rw [← ei1 s H C cl fp]; exact (hi1 s H C cl fp).pe) (fun s H C cl fp => by rw [← eg1 s H C cl fp]; exact (hg1 s H C cl fp).pe) (fun s H C cl fp => by rw [← et1 s H C cl fp]; exact (ht1 s H C cl fp).pe) (fun s H C cl fp => by rw [← ee s H C cl fp]; exact (he s H C cl fp).pe) hs hs1, (snd_lc2P hi.sd (hg z0 z1 0 [] []).sd (ht z0 z1 0 [] []).sd (hi1 z0 z1 0 [] []).sd (hg1 z0 z1 0 [] []).sd (ht1 z0 z1 0 [] []).sd (he z0 z1 0 [] []).sd)⟩
theorem ds_setLc2P {i n : Nat} (hc : X.calm = true) (hN : X.N.Nodup) (hy : X.N[i]? = some y) (hyl : X.env.scope.names.lookup y = some .local)
    (hsw : swapsWith (.ListComp elt [⟨tg, iter, ifs, 0⟩, ⟨tg1, iter1, ifs1, 0⟩] scope pos) (some (.Name y py)) spos.line X.env = pure true) (hp : i ∉ pn) (hi : DI false X tg iter wi dw) (ok : BlkOk X.N X.env.scope scope own) (hv : ∀ i ∈ vs1, i ∈ own.map (·.2))
    (hg : ∀ s H C cl fp, DG (others n (own.map (·.2))) (Blk X scope s H C cl fp) tg (g' s H C cl fp) (dg' s H C cl fp)) (ht : ∀ s H C cl fp, DTs true (Blk X scope s H C cl fp) ifs (tt' s H C cl fp) (dt' s H C cl fp))
    (hi1 : ∀ s H C cl fp, DI true (Blk X scope s H C cl fp) tg1 iter1 (wi1' s H C cl fp) (dw1' s H C cl fp))
    (hg1 : ∀ s H C cl fp, DG (others n vs1) (Blk X scope s H C cl fp) tg1 (g1' s H C cl fp) (dg1' s H C cl fp)) (ht1 : ∀ s H C cl fp, DTs true (Blk X scope s H C cl fp) ifs1 (tt1' s H C cl fp) (dt1' s H C cl fp))
    (he : ∀ s H C cl fp, DE true (Blk X scope s H C cl fp) elt (te' s H C cl fp) (de' s H C cl fp))
    (eg : ∀ s H C cl fp, g' s H C cl fp = g' z0 z1 0 [] [] := by intros; rfl) (et : ∀ s H C cl fp, tt' s H C cl fp = tt' z0 z1 0 [] [] := by intros; rfl) (ei1 : ∀ s H C cl fp, wi1' s H C cl fp = wi1' z0 z1 0 [] [] := by intros; rfl) (eg1 : ∀ s H C cl fp, g1' s H C cl fp = g1' z0 z1 0 [] [] := by intros; rfl) (et1 : ∀ s H C cl fp, tt1' s H C cl fp = tt1' z0 z1 0 [] [] := by intros; rfl) (ee : ∀ s H C cl fp, te' s H C cl fp = te' z0 z1 0 [] [] := by intros; rfl)
    (hs : ∀ x, foldedSetIterable iter X.env x = pure x := by intro _; rfl) (hs1 : ∀ env x, foldedSetIterable iter1 env x = pure x := by intro _ _; rfl) :
    DS pn X (.Assign [.Name y py] (.ListComp elt [⟨tg, iter, ifs, 0⟩, ⟨tg1, iter1, ifs1, 0⟩] scope pos) spos) (tAsg (tLc2 wi (g' z0 z1 0 [] []) (tt' z0 z1 0 [] []) (wi1' z0 z1 0 [] []) (g1' z0 z1 0 [] []) (tt1' z0 z1 0 [] []) (te' z0 z1 0 [] []) (own.map (·.2)) vs1) (gName i)) (dPut i (dLc2P dw (dg' z0 z1 0 [] []) (dt' z0 z1 0 [] []) (dw1' z0 z1 0 [] []) (dg1' z0 z1 0 [] []) (dt1' z0 z1 0 [] []) (de' z0 z1 0 [] []) n (own.map (·.2)) vs1)) :=
  ⟨ps_setLc2 hc hN hy hyl hsw hi.pe ok hv (fun s H C cl fp => by rw [← eg s H C cl fp]; exact (hg s H C cl fp).pe) (fun s H C cl fp => by rw [← et s H C cl fp]; exact (ht s H C cl fp).pe) (fun s H C cl fp => by rw [← ei1 s H C cl fp]; exact (hi1 s H C cl fp).pe) (fun s H C cl fp => by rw [← eg1 s H C cl fp]; exact (hg1 s H C cl fp).pe) (fun s H C cl fp => by rw [← et1 s H C cl fp]; exact (ht1 s H C cl fp).pe) (fun s H C cl fp => by rw [← ee s H C cl fp]; exact (he s H C cl fp).pe) hs hs1, snd_put hp (snd_lc2P hi.sd (hg z0 z1 0 [] []).sd (ht z0 z1 0 [] []).sd (hi1 z0 z1 0 [] []).sd (hg1 z0 z1 0 [] []).sd (ht1 z0 z1 0 [] []).sd (he z0 z1 0 [] []).sd)⟩
end
end DL
set_option Elab.async false
set_option linter.all false
set_option maxRecDepth 100000
/-! sorted(set(xs)), xs a list or a tuple of ints -/
namespace SM
open PySem PySem.Spec PyProof.Rows L2
/-- an empty set as it is made -/
abbrev mt (w : World) : Obj := { cls := .type "set", dict := none, data := .set #[] 0 (.fresh 0 0 (!w.params.followText "set-order")) }
section
variable {P : Program} {w : World} {A : Around} {E : Value → Shared → Prop} {s : Shared}
set_option maxHeartbeats 3200000 in
theorem set_of_list {l : Addr} {its : Array Value} (zs : List Int) {Q : Value → Shared → Prop} (cool : A.handled = none) (isl : s.heap.IsList l its) (isI : IntsAre its.toList zs) (few : zs.length + 1 < scanBound)
    (fin : ∀ (h' : Heap) (tk c : Nat), SetR w h' s.heap.objs.size (fun j => decide (j ∈ zs)) c → c ≤ zs.length → (∀ b o, s.heap.get? b = some o → h'.get? b = some o) → Q (.ref s.heap.objs.size) { s with heap := h', toks := tk }) :
    wpAny (model P w) A (call (.type "set") [.ref l]) Q E s := by
  have many : its.size = zs.length := by
    have z := IntsAre.length isI
    rwa [Array.length_toList] at z
  obtain ⟨cc, tl, hmro⟩ := F.called_set.mro
  have g1 := F.called_set.made
  have g2 := F.called_set.sub
  refine wpAny_call (codeAny_of_tree ?_)
  show wpAny _ _ (callAny (.type "set") _) _ E s
  refine wpAny_pure ⟨Code.quiet_builtin _ (by first | decide +kernel), codeAny_builtin F.entry_type_call ?_⟩
  rw [Around.under_plain (weight_type_call_type "set" [Value.ref l] []) rfl]
  have g3 := F.called_set.notType
  have g4 := F.called_set.canCreate
  have g5 := F.typeCall_set_1 (.ref l)
  repeat any_goals first | assumption | wp_step
  refine codeAny_mono (code_set_led1 (.ref l) (E := E) (Q₁ := fun obj s1 => obj = .ref s.heap.objs.size ∧ s1 = { s with heap := s.heap.push (mt w) }) ⟨rfl, rfl⟩) fun r s1 hr => ?_
  cases r with
  | error e => exact hr
  | ok fl =>
    cases fl with
    | ret obj =>
      obtain ⟨rfl, rfl⟩ := hr
      have at_ : (s.heap.push (mt w)).get? s.heap.objs.size = some (mt w) := Heap.get?_push_size _ rfl
      have ty : Shared.TypeIs { s with heap := s.heap.push (mt w) } (.ref s.heap.objs.size) "set" := ⟨_, at_, rfl⟩
      have g6 := F.called_set.init.lookup
      have g7 := F.called_set.init.bind (.ref s.heap.objs.size)
      repeat any_goals first | assumption | wp_step
      refine codeAny_mono (codeAny_call_builtin (R := wants (fun r s2 => r = .none ∧ ∃ h' tk c, s2 = { s with heap := h', toks := tk } ∧ SetR w h' s.heap.objs.size (fun j => decide (j ∈ zs)) c ∧ c ≤ zs.length ∧
          ∀ b o, s.heap.get? b = some o → h'.get? b = some o) E) F.called_set.init.plain F.entry_set_init (check_set_init_1 ty ?_)) fun r2 s2 hr2 => ?_
      · obtain ⟨ol, hol, hcl, nl, hdl⟩ := isl
        obtain ⟨c1, d1, x1, y1⟩ := ol
        simp only at hcl hdl
        subst hcl hdl
        have hol' : (s.heap.push (mt w)).get? l = some { cls := .type "list", dict := d1, data := .seq its nl, slots := y1 } := Heap.get?_push_of_some _ hol
        have g8 := F.sub_list_set
        have g9 := F.sub_list_frozenset
        have ne1 : (Value.type "list" == Value.type "dict") = false := by decide
        have isl1 : (s.heap.push (mt w)).IsList l its := ⟨_, hol', rfl, nl, rfl⟩
        unfold Builtin.«set.__init__» noKeywords Builtin.Frozenset.updateFrom
        generalize hPI : pyIter = it0
        wp_walk
        subst hPI
        refine wpAny_pyIter_list isl1 (wpAny_bind (wpAny_runValue ?_))
        have below := Heap.lt_size hol
        have cool3 : A.in1.in1.in1.handled = none := by simp [cool]
        have apart1 : l ≠ (s.heap.push (mt w)).objs.size := by rw [Heap.size_push]; exact Nat.ne_of_lt (Nat.lt_succ_of_lt below)
        have apart2 : s.heap.objs.size ∉ [(s.heap.push (mt w)).objs.size, l] := by
          rw [Heap.size_push]
          simp only [List.mem_cons, List.mem_singleton, List.not_mem_nil, or_false, not_or]
          exact ⟨Nat.ne_of_lt (Nat.lt_succ_self _), Ne.symm (Nat.ne_of_lt below)⟩
        have vals : ∀ (i : Nat) (v : Value), its[i]? = some v → ∃ k t, zs[i]? = some k ∧ v = .int k t := fun i v hv => by
          have hi : i < zs.length := many ▸ (Array.getElem?_eq_some_iff.mp hv).1
          obtain ⟨t, e⟩ := PyProof.Rows.IntsAre.int_at isI i v (by rw [Array.getElem?_toList]; exact hv)
          refine ⟨zs[i], t, List.getElem?_eq_getElem hi, ?_⟩
          rw [e, List.getD_eq_getElem?_getD, List.getElem?_eq_getElem hi]
          rfl
        refine set_update_ints ((Walks.list cool3 _ l apart1 its).toS) s.heap.objs.size apart2 zs many few vals its.size 0 _ (by omega) (Nat.zero_le _)
          ⟨⟨_, Heap.get?_push_size _ rfl, rfl, rfl⟩, isl1.push _⟩ ⟨0, Nat.le_refl 0, setR_new_at (Heap.get?_push_of_some _ at_)⟩ fun s' c' hm hc' hS' => ?_
        obtain ⟨h', g', d', tk', os'⟩ := s'
        obtain rfl : g' = s.gens := hm.gens
        obtain rfl : d' = s.drawn := hm.drawn
        obtain rfl : os' = s.os := hm.os
        refine wpAny_pure ?_
        show wpAny _ _ (ret Value.none) _ E _
        refine wpAny_pure ⟨rfl, h', tk', c', rfl, hS', many ▸ hc', fun b o e => ?_⟩
        have b0 := Heap.lt_size e
        refine hm.heap b o ?_ (Heap.get?_push_of_some _ (Heap.get?_push_of_some _ e))
        rw [Heap.size_push]
        simp only [List.mem_cons, List.mem_singleton, List.not_mem_nil, or_false, not_or]
        exact ⟨Nat.ne_of_lt b0, Nat.ne_of_lt (Nat.lt_succ_of_lt b0)⟩
      · cases r2 with
        | error e => exact hr2
        | ok fl2 =>
          cases fl2 with
          | ret r =>
            obtain ⟨rfl, h', tk, c', rfl, hS', hc', hk'⟩ := hr2
            repeat any_goals first | assumption | wp_step
            exact fin _ _ _ hS' hc' hk'
          | _ => exact hr2.elim
    | _ => exact hr.elim
/-- sorted(found), a set of ints of any size -/
theorem sorted_of_set {a : Addr} {S : Int → Bool} {n : Nat} {Q : Value → Shared → Prop} (R : SetR w s.heap a S n) (cool : A.handled = none)
    (fin : ∀ s' p (out : Array Value) (c : Nat) (zs : List Int), (∀ b o, s.heap.get? b = some o → s'.heap.get? b = some o) → s'.gens = s.gens → s'.os = s.os → s.heap.objs.size ≤ p →
      s'.heap.get? p = some (seqObj "list" out c) → IntsAre out.toList zs → zs.Pairwise (· < ·) → (∀ k, k ∈ zs ↔ S k = true) → zs.length = n → Q (.ref p) s') :
    wpAny (model P w) A (call (.builtin "sorted") [.ref a]) Q E s := by
  obtain ⟨o, es, ep, t, ho, hex, hd, g, nd, hm, hb, hf, hn, hr, hl⟩ := R
  refine Calls.call_function_entry kind_sorted plain_sorted entry_sorted (args_sorted1 _) ?_
  unfold Builtin.«sorted»
  refine wpAny_bind (m := checkCount "sorted" 1 1 _) (wpAny_pure ?_)
  refine wpAny_bind (collect_set (A := A.in1) cool ⟨o, ho, hex.1, hd⟩ hf hb hr hl fun s1 vs k1 hz g1 o1 pm => ?_)
  have lv : vs.length = n := by rw [pm.length_eq, List.length_map, Array.length_toList]; exact hn
  have iv0 : IntsAre vs (vs.map SrtO.iv) := SrtO.ints_iv fun v hv => by
    obtain ⟨e, he, q⟩ := List.mem_map.mp (pm.mem_iff.mp hv)
    obtain ⟨k, tk, h1, _⟩ := g e he
    exact ⟨k, tk, by rw [← q]; exact h1⟩
  have pk : (vs.map SrtO.iv).Perm (es.toList.map keyOf) := by
    have q := pm.map SrtO.iv
    rw [List.map_map] at q
    refine q.trans (List.Perm.of_eq (List.map_congr_left fun e he => ?_))
    obtain ⟨k, tk, h1, _⟩ := g e he
    show SrtO.iv e.2 = keyOf e
    unfold keyOf
    rw [h1]; rfl
  have szl : vs.length ≤ sizeLine := by rw [lv, ← hn]; exact fits_of_scanBound hb
  refine wpAny_bind (wpAny_newList ?_ szl)
  have oL : (s1.heap.push (seqObj "list" vs.toArray 0)).get? s1.heap.objs.size = some (seqObj "list" vs.toArray 0) := Heap.get?_push_size _ rfl
  refine wpAny_bind (wpAny_holding (wpAny_call_entry slot_list_sort ⟨_, oL, rfl⟩ entry_list_sort
    (SrtO.list_sort_ord SrtO.swo_int oL szl (fun h2 => SrtO.ints_sortable iv0 h2) fun out h1 h2 => ⟨_, rfl, ?_⟩) (args_list_sort _)))
  obtain ⟨a1, a2, a3⟩ := SrtO.ints_out iv0 h1 h2
  obtain ⟨c, hc⟩ := sortedHeap_at (vs := vs) (out := out.toArray) oL
  have pn := a2.trans pk
  refine wpAny_pure ⟨_, rfl, fin _ s1.heap.objs.size out.toArray c _ (fun b u e => ?_) g1 o1 hz hc a1 (lt_of_le_nodup _ a3 (pn.nodup_iff.mpr nd)) (fun k => by rw [pn.mem_iff, ← hm k]) ?_⟩
  · have q := k1 b u e
    have hlt := Heap.lt_size q
    show (sortedHeap (s1.heap.push (seqObj "list" vs.toArray 0)) s1.heap.objs.size vs out.toArray).get? b = some u
    rw [sortedHeap_old (Nat.ne_of_lt hlt) (by rw [size_push']; exact Nat.lt_succ_of_lt hlt)]
    exact Heap.get?_push_of_some _ q
  · rw [pn.length_eq, List.length_map, Array.length_toList]; exact hn
end
def rSortSet (K : PySem.W.Frag) : List V → Hp → VK → Prop := fun vs H Q => ∃ (l : Addr) (zs : List Int), vs = [.ref l] ∧ (SqL K H l (zs.map V.int) ∨ SqT K H l (zs.map V.int)) ∧ zs.length ≤ 4000 ∧
  ∀ (out : List Int) (p : Addr), out.Pairwise (· < ·) → (∀ k, k ∈ out ↔ k ∈ zs) → H p = none → Q (.ref p) (upd H p (.lst (out.map V.int)))
theorem pe_sortset {X : Cx} {a : Expr} {ta : TA} {p p2 q pos : Pos} (hc : X.calm = true) (hg : Gl X "sorted") (hm : X.mg "sorted" = none) (hg2 : Gl X "set") (hm2 : X.mg "set" = none) (ha : PA X [a] ta)
    (na : starEach [a] X.env = (false, eval a X.env) :: starEach [] X.env := by rfl) : PE X (.Call (.Name "sorted" p) [.Call (.Name "set" p2) [a] [] q] [] pos) (tCB (rSortSet X.K) ta) := by
  refine ⟨fun pins s σ H Q I h => ?_⟩
  refine Call_ (ld_blt I hg hm boot_sorted ?_)
  refine PyProof.Rows.callWith_builtin1 (PyProof.Rows.args_cons ?_ rfl) rfl rfl
  refine Call_ (ld_blt I hg2 hm2 boot_set ?_)
  refine PyProof.Rows.callWith_type1 (thn (ha.run q pins s σ H _ I h) fun us s1 ⟨vs, H1, I1, r1, q1⟩ => ?_) na rfl
  obtain ⟨l, zs, rfl, hq, hl, q1⟩ := q1
  rw [Vals.ref1 r1]
  have room : zs.length + 1 < scanBound := by unfold scanBound; omega
  have rest : ∀ (h' : Heap) (tk c : Nat), SetR X.w h' s1.heap.objs.size (fun j => decide (j ∈ zs)) c → c ≤ zs.length → (∀ b o, s1.heap.get? b = some o → h'.get? b = some o) →
      wpAny (model X.prog X.w) X.A (call (.builtin "sorted") [.ref s1.heap.objs.size]) (EP X pins σ Q) X.xe { s1 with heap := h', toks := tk } := by
    intro h' tk c hS hc2 hk
    have up := hS.lt
    refine sorted_of_set hS (I1.ok.hd hc) fun s' p out c ns k g o hp hg hi hs hmem hlen => ?_
    have k2 : ∀ b u, s1.heap.get? b = some u → s'.heap.get? b = some u := fun b u e => k b u (hk b u e)
    have hp1 : s1.heap.objs.size ≤ p := Nat.le_trans (Nat.le_of_lt up) hp
    have fits : (ns.map V.int).length ≤ sizeLine := by rw [List.length_map, hlen, sizeLine_eq]; omega
    have hn : H1 p = none := I1.hok.fresh hp1
    have J : Inv X pins σ (upd H1 p (.lst (ns.map V.int))) { s1 with heap := s'.heap, gens := s'.gens, drawn := s'.drawn, toks := s'.toks } :=
      I1.call (ch := []) (Un.laid k2 hp1 hn) (I1.hok.laid k2 hp1 ⟨fits, out.toList, c, vals_of_ints hi, hg⟩) (by rw [g]; exact I1.bare) (fun _ z => nomatch z)
    have e : s' = { s1 with heap := s'.heap, gens := s'.gens, drawn := s'.drawn, toks := s'.toks } := by
      cases s'; cases s1; cases o; rfl
    rw [e]
    exact ⟨.ref p, _, J, rfl, q1 ns p hs (fun j => by rw [hmem j]; exact decide_eq_true_iff) hn⟩
  rcases hq with hq | hq
  · obtain ⟨its, r, pl, hz⟩ := I1.list hq
    exact set_of_list zs (I1.ok.hd hc) pl.isList (by simpa using r.ints) room fun h' tk c a b d => PyProof.Rows.args_nil (rest h' tk c a b d)
  · obtain ⟨its, r, pl, hz⟩ := I1.tuple hq
    exact call_set_tupI zs (I1.ok.hd hc) pl (by simpa using r.ints) room fun h' tk c a b d => PyProof.Rows.args_nil (rest h' tk c a b d)
end SM
namespace DL
open PySem PySem.Spec L2
section
variable [Rf] {m : Bool} {K : PySem.W.Frag} {ta : TA} {da : dA} {X : Cx}
def pseq3 : P → Option (List P)
  | .lst xs => some xs
  | .rol xs => some xs
  | .tup xs => some xs
  | _ => none
def ssQ (ps : List P) (Q : List P → Prop) : Prop := match ps with
  | [p] => ∃ zs : List Int, pseq3 p = some (zs.map P.int) ∧ zs.length ≤ 4000 ∧ ∀ out : List Int, out.Pairwise (· < ·) → (∀ k, k ∈ out ↔ k ∈ zs) → Q (out.map P.int)
  | _ => False
theorem cs_sortset : CbO K (SM.rSortSet K) ssQ := ⟨fun {B H xs ps QD Q} ex r q k => by
  unfold ssQ at q
  split at q
  · rename_i p
    obtain ⟨v, l, rfl, r1, r2⟩ := r
    cases (show l = [] from r2)
    obtain ⟨zs, hp, hl, q⟩ := q
    have fin : ∀ (out : List Int) (p : Addr), out.Pairwise (· < ·) → (∀ k, k ∈ out ↔ k ∈ zs) → H p = none → Q (.ref p) (upd H p (.lst (out.map V.int))) := fun out p a b c => k p _ _ (q out a b) RpA.ints c
    cases p with
    | lst qs =>
      cases Option.some.inj hp
      obtain ⟨a, vs, rfl, h2, h3⟩ := r1
      cases RpA.ints_inv h3
      exact ⟨a, zs, rfl, .inl (SqL.of (ex a _ h2)), hl, fin⟩
    | rol qs =>
      cases Option.some.inj hp
      obtain ⟨a, vs, rfl, h2, h3⟩ := r1
      cases RpA.ints_inv h3
      exact ⟨a, zs, rfl, .inl (ex.sqL h2), hl, fin⟩
    | tup qs =>
      cases Option.some.inj hp
      obtain ⟨a, vs, rfl, h2, h3⟩ := r1
      cases RpA.ints_inv h3
      exact ⟨a, zs, rfl, .inr (ex.sqT h2), hl, fin⟩
    | _ => cases hp
  · exact q.elim⟩
end
end DL
set_option linter.all false
set_option Elab.async false
/-! needs, in numbers: functions that rise by 0 or by 1 -/
namespace NM
abbrev Pr := Int × Option Int
def con (p : Pr) (k : Int) : Int := if k ≤ p.1 then 0 else match p.2 with
  | none => k - p.1
  | some h => if k < h then k - p.1 else h - p.1
def vsum : List Pr → Int → Int
  | [], _ => 0
  | p :: ps, k => con p k + vsum ps k
def Asc : Int → List Pr → Prop
  | _, [] => True
  | b, (lo, none) :: ps => b < lo ∧ ps = []
  | b, (lo, some h) :: ps => b < lo ∧ lo < h ∧ Asc h ps
def ascB : Option Int → List Pr → Bool
  | _, [] => true
  | none, _ :: _ => false
  | some b, (lo, none) :: ps => decide (b < lo) && ascB none ps
  | some b, (lo, some h) :: ps => decide (b < lo) && decide (lo < h) && ascB (some h) ps
theorem ascB_iff : ∀ (rs : List Pr) (b : Int), ascB (some b) rs = true ↔ Asc b rs
  | [], _ => by simp [ascB, Asc]
  | (lo, none) :: ps, b => by
    cases ps <;> simp [ascB, Asc]
  | (lo, some h) :: ps, b => by
    simp only [ascB, Asc, Bool.and_eq_true, decide_eq_true_eq, ascB_iff ps h, and_assoc]
theorem Asc.mono {b c : Int} (hc : c ≤ b) : ∀ {rs : List Pr}, Asc b rs → Asc c rs
  | [], _ => trivial
  | (lo, none) :: ps, h => ⟨by have := h.1; omega, h.2⟩
  | (lo, some g) :: ps, h => ⟨by have := h.1; omega, h.2.1, h.2.2⟩
theorem con_le {p : Pr} {k : Int} (h : k ≤ p.1) : con p k = 0 := by unfold con; rw [if_pos h]
theorem con_none {lo k : Int} : con (lo, none) k = if k ≤ lo then 0 else k - lo := rfl
theorem con_some {lo h k : Int} : con (lo, some h) k = if k ≤ lo then 0 else if k < h then k - lo else h - lo := rfl
theorem vsum_le : ∀ {rs : List Pr} {b k : Int}, Asc b rs → k ≤ b + 1 → vsum rs k = 0
  | [], _, _, _, _ => rfl
  | (lo, none) :: ps, b, k, h, hk => by
    obtain ⟨h1, rfl⟩ := h
    show con _ _ + 0 = 0
    rw [con_le (by show k ≤ lo; omega)]; rfl
  | (lo, some g) :: ps, b, k, h, hk => by
    obtain ⟨h1, h2, h3⟩ := h
    show con _ _ + vsum ps k = 0
    rw [con_le (by show k ≤ lo; omega), vsum_le h3 (by omega)]; rfl
/-- the sum rises by 0 or 1 -/
theorem lip : ∀ {rs : List Pr} {b k k' : Int}, Asc b rs → k ≤ k' → 0 ≤ vsum rs k' - vsum rs k ∧ vsum rs k' - vsum rs k ≤ k' - k
  | [], _, _, _, _, hk => by simp [vsum]; omega
  | (lo, none) :: ps, b, k, k', h, hk => by
    obtain ⟨h1, rfl⟩ := h
    simp only [vsum, con_none]
    split <;> split <;> omega
  | (lo, some g) :: ps, b, k, k', h, hk => by
    obtain ⟨h1, h2, h3⟩ := h
    simp only [vsum, con_some]
    by_cases c1 : k' ≤ g
    · rw [vsum_le h3 (show k' ≤ g + 1 by omega), vsum_le h3 (show k ≤ g + 1 by omega)]
      split <;> split <;> (try split) <;> (try split) <;> omega
    · by_cases c2 : k ≤ g
      · have e := lip h3 (show g ≤ k' by omega)
        rw [vsum_le h3 (show g ≤ g + 1 by omega)] at e
        rw [vsum_le h3 (show k ≤ g + 1 by omega)]
        split <;> split <;> (try split) <;> (try split) <;> omega
      · have e := lip h3 hk
        rw [if_neg (by omega), if_neg (by omega), if_neg (by omega), if_neg (by omega)]
        omega
theorem vsum_nn {rs : List Pr} {b k : Int} (h : Asc b rs) : 0 ≤ vsum rs k := by
  by_cases hk : k ≤ b + 1
  · rw [vsum_le h hk]; exact Int.le_refl _
  · have := (lip h (show b + 1 ≤ k by omega)).1
    rw [vsum_le h (Int.le_refl _)] at this
    omega
/-- the value for k -/
def val (s : Int) (rs : List Pr) (k : Int) : Int := s + vsum rs k
/-- the place of the flat with a number -/
def flatF : List Pr → Int → Int → Option Int
  | [], b, n => some (b + n)
  | (lo, none) :: ps, b, n => if n < lo - b then some (b + n) else none
  | (lo, some h) :: ps, b, n => if n < lo - b then some (b + n) else flatF ps h (n - (lo - b))
def Opn (rs : List Pr) (lo : Int) : Prop := ∃ pre, rs = pre ++ [(lo, none)]
theorem flat_some : ∀ {rs : List Pr} {b n x : Int}, Asc (b - 1) rs → 0 ≤ n → flatF rs b n = some x → b ≤ x ∧ (x - b) - vsum rs x = n ∧ vsum rs (x + 1) = vsum rs x
  | [], b, n, x, _, hn, e => by
    cases e
    exact ⟨by omega, by simp only [vsum]; omega, rfl⟩
  | (lo, none) :: ps, b, n, x, h, hn, e => by
    obtain ⟨h1, rfl⟩ := h
    rw [flatF] at e
    split at e
    · cases e
      simp only [vsum, con_none]
      rw [if_pos (by omega), if_pos (by omega)]
      exact ⟨by omega, by omega, rfl⟩
    · cases e
  | (lo, some g) :: ps, b, n, x, h, hn, e => by
    obtain ⟨h1, h2, h3⟩ := h
    rw [flatF] at e
    split at e
    · cases e
      simp only [vsum, con_some]
      rw [if_pos (by omega), if_pos (by omega), vsum_le h3 (by omega), vsum_le h3 (by omega)]
      exact ⟨by omega, by omega, rfl⟩
    · obtain ⟨g1, g2, g3⟩ := flat_some (h3.mono (show g - 1 ≤ g by omega)) (by omega) e
      simp only [vsum, con_some]
      rw [if_neg (by omega), if_neg (by omega), if_neg (by omega), if_neg (by omega), g3]
      exact ⟨by omega, by omega, rfl⟩
theorem flat_none : ∀ {rs : List Pr} {b n : Int}, Asc (b - 1) rs → 0 ≤ n → flatF rs b n = none → ∃ lo, Opn rs lo ∧ b ≤ lo ∧ (lo - b) - vsum rs lo ≤ n
  | [], b, n, _, hn, e => by cases e
  | (lo, none) :: ps, b, n, h, hn, e => by
    obtain ⟨h1, rfl⟩ := h
    rw [flatF] at e
    split at e
    · cases e
    · refine ⟨lo, ⟨[], rfl⟩, by omega, ?_⟩
      simp only [vsum, con_none]
      rw [if_pos (Int.le_refl _)]
      omega
  | (lo, some g) :: ps, b, n, h, hn, e => by
    obtain ⟨h1, h2, h3⟩ := h
    rw [flatF] at e
    split at e
    · cases e
    · obtain ⟨l, ⟨pre, hp⟩, g2, g3⟩ := flat_none (h3.mono (show g - 1 ≤ g by omega)) (by omega) e
      refine ⟨l, ⟨(lo, some g) :: pre, by rw [hp]; rfl⟩, by omega, ?_⟩
      simp only [vsum, con_some]
      rw [if_neg (by omega), if_neg (by omega)]
      omega
theorem opn_lt : ∀ {rs : List Pr} {b lo : Int}, Asc b rs → Opn rs lo → b < lo
  | [], _, _, _, ⟨pre, h⟩ => by cases pre <;> cases h
  | (l, none) :: ps, b, lo, h, ⟨pre, e⟩ => by
    obtain ⟨h1, rfl⟩ := h
    cases pre with
    | nil => cases e; exact h1
    | cons x pre => exact absurd (List.cons.inj e).2.symm (by simp)
  | (l, some g) :: ps, b, lo, h, ⟨pre, e⟩ => by
    obtain ⟨h1, h2, h3⟩ := h
    cases pre with
    | nil => cases e
    | cons x pre =>
      obtain ⟨e1, e2⟩ := List.cons.inj e
      have := opn_lt h3 ⟨pre, e2⟩
      omega
/-- behind an open low all the way up -/
theorem opn_from : ∀ {rs : List Pr} {b lo k : Int}, Asc b rs → Opn rs lo → lo ≤ k → vsum rs k = vsum rs lo + (k - lo)
  | [], _, _, _, _, ⟨pre, h⟩, _ => by cases pre <;> cases h
  | (l, none) :: ps, b, lo, k, h, ⟨pre, e⟩, hk => by
    obtain ⟨h1, rfl⟩ := h
    cases pre with
    | nil =>
      cases e
      simp only [vsum, con_none]
      rw [if_pos (Int.le_refl _)]
      split <;> omega
    | cons x pre => exact absurd (List.cons.inj e).2.symm (by simp)
  | (l, some g) :: ps, b, lo, k, h, ⟨pre, e⟩, hk => by
    obtain ⟨h1, h2, h3⟩ := h
    cases pre with
    | nil => cases e
    | cons x pre =>
      obtain ⟨e1, e2⟩ := List.cons.inj e
      have ho : Opn ps lo := ⟨pre, e2⟩
      have hg : g < lo := opn_lt h3 ho
      have := opn_from h3 ho hk
      simp only [vsum, con_some]
      rw [if_neg (by omega), if_neg (by omega), if_neg (by omega), if_neg (by omega)]
      omega
def opnB (rs : List Pr) : Bool := match rs.getLast? with
  | some (_, none) => true
  | _ => false
theorem opn_iff {rs : List Pr} {lo : Int} : rs.getLast? = some (lo, none) ↔ Opn rs lo := by
  constructor
  · intro h
    obtain ⟨ys, e⟩ := List.getLast?_eq_some_iff.mp h
    exact ⟨ys, e⟩
  · rintro ⟨ys, rfl⟩
    rw [List.getLast?_append]; rfl
def mxI (a b : Int) : Int := if a > b then a else b
/-- the law's bound -/
def bndF : Int → List Pr → Int
  | top, [] => top
  | top, (lo, none) :: _ => mxI lo top
  | top, (lo, some h) :: ps => bndF (top + h - lo) ps
/-- the greatest value of a closed one -/
def wsum : List Pr → Int
  | [] => 0
  | (lo, none) :: ps => wsum ps
  | (lo, some h) :: ps => (h - lo) + wsum ps
theorem wsum_nn : ∀ {rs : List Pr}, (∀ p ∈ rs, ∀ h, p.2 = some h → p.1 ≤ h) → 0 ≤ wsum rs
  | [], _ => Int.le_refl _
  | (l, none) :: ps, g => by
    have := wsum_nn (rs := ps) fun p hp => g p (List.mem_cons_of_mem _ hp)
    simpa [wsum] using this
  | (l, some k) :: ps, g => by
    have := wsum_nn (rs := ps) fun p hp => g p (List.mem_cons_of_mem _ hp)
    have h2 := g _ List.mem_cons_self k rfl
    simp only [wsum] at *
    omega
theorem bnd_opn : ∀ {rs : List Pr} {b s lo : Int}, Asc b rs → Opn rs lo → bndF s rs = mxI lo (s + vsum rs lo)
  | [], _, _, _, _, ⟨pre, h⟩ => by cases pre <;> cases h
  | (l, none) :: ps, b, s, lo, h, ⟨pre, e⟩ => by
    obtain ⟨h1, rfl⟩ := h
    cases pre with
    | nil =>
      cases e
      simp [bndF, vsum, con_none, mxI]
    | cons x pre => exact absurd (List.cons.inj e).2.symm (by simp)
  | (l, some g) :: ps, b, s, lo, h, ⟨pre, e⟩ => by
    obtain ⟨h1, h2, h3⟩ := h
    cases pre with
    | nil => cases e
    | cons x pre =>
      obtain ⟨e1, e2⟩ := List.cons.inj e
      have ho : Opn ps lo := ⟨pre, e2⟩
      have hg := opn_lt h3 ho
      simp only [bndF, vsum, con_some]
      rw [if_neg (by omega), if_neg (by omega), bnd_opn h3 ho]
      have : s + g - l + vsum ps lo = s + (g - l + vsum ps lo) := by omega
      rw [this]
theorem bnd_closed : ∀ {rs : List Pr} {b s k : Int}, Asc b rs → (∀ lo, ¬ Opn rs lo) → s + vsum rs k ≤ bndF s rs
  | [], _, _, _, _, _ => by simp [vsum, bndF]
  | (l, none) :: ps, b, s, k, h, n => by
    obtain ⟨h1, rfl⟩ := h
    exact absurd ⟨[], rfl⟩ (n l)
  | (l, some g) :: ps, b, s, k, h, n => by
    obtain ⟨h1, h2, h3⟩ := h
    have := bnd_closed (s := s + g - l) (k := k) h3 fun lo ⟨pre, e⟩ => n lo ⟨(l, some g) :: pre, by rw [e]; rfl⟩
    simp only [bndF, vsum, con_some]
    split <;> (try split) <;> omega
theorem wsum_ge : ∀ {rs : List Pr} {b k : Int}, Asc b rs → (∀ lo, ¬ Opn rs lo) → vsum rs k ≤ wsum rs
  | [], _, _, _, _ => Int.le_refl _
  | (l, none) :: ps, b, k, h, n => by
    obtain ⟨h1, rfl⟩ := h
    exact absurd ⟨[], rfl⟩ (n l)
  | (l, some g) :: ps, b, k, h, n => by
    obtain ⟨h1, h2, h3⟩ := h
    have := wsum_ge (k := k) h3 fun lo ⟨pre, e⟩ => n lo ⟨(l, some g) :: pre, by rw [e]; rfl⟩
    simp only [wsum, vsum, con_some]
    split <;> (try split) <;> omega
/-- the values at the lows -/
def lowsF : Int → List Pr → List Int
  | _, [] => []
  | v, (lo, none) :: ps => v :: lowsF v ps
  | v, (lo, some h) :: ps => v :: lowsF (v + h - lo) ps
theorem lowsF_len : ∀ (rs : List Pr) (v : Int), (lowsF v rs).length = rs.length
  | [], _ => rfl
  | (lo, none) :: ps, v => by simp [lowsF, lowsF_len ps]
  | (lo, some h) :: ps, v => by simp [lowsF, lowsF_len ps]
theorem lowsF_snoc : ∀ (rs : List Pr) (v : Int) (p : Pr), lowsF v (rs ++ [p]) = lowsF v rs ++ [v + wsum rs]
  | [], v, (lo, none) => by simp [lowsF, wsum]
  | [], v, (lo, some h) => by simp [lowsF, wsum]
  | (lo, none) :: ps, v, p => by simp [lowsF, wsum, lowsF_snoc ps]
  | (lo, some h) :: ps, v, p => by
    simp [lowsF, wsum, lowsF_snoc ps]
    omega
theorem wsum_snoc : ∀ (rs : List Pr) (p : Pr), wsum (rs ++ [p]) = wsum rs + (match p.2 with | none => 0 | some h => h - p.1)
  | [], (lo, none) => rfl
  | [], (lo, some h) => by simp [wsum]
  | (lo, none) :: ps, p => by simp [wsum, wsum_snoc ps]
  | (lo, some h) :: ps, p => by simp [wsum, wsum_snoc ps]; omega
theorem asc_lt : ∀ {rs : List Pr} {b : Int} {n : Nat} {p : Pr}, Asc b rs → rs[n]? = some p → b < p.1
  | [], _, _, _, _, h => by simp at h
  | (lo, none) :: ps, b, 0, p, h, hp => by cases hp; exact h.1
  | (lo, none) :: ps, b, n + 1, p, h, hp => by obtain ⟨h1, rfl⟩ := h; simp at hp
  | (lo, some g) :: ps, b, 0, p, h, hp => by cases hp; exact h.1
  | (lo, some g) :: ps, b, n + 1, p, h, hp => by
    have := asc_lt h.2.2 hp
    have := h.1
    have := h.2.1
    omega
/-- the value by the pair that k stands at -/
theorem val_at : ∀ {rs : List Pr} {b v k : Int} {n : Nat} {p : Pr}, Asc b rs → rs[n]? = some p → p.1 ≤ k → (∀ q, rs[n + 1]? = some q → k < q.1) →
    ∃ w, (lowsF v rs)[n]? = some w ∧ w + (match p.2 with | none => k | some h => if h < k then h else k) - p.1 = v + vsum rs k
  | [], _, _, _, _, _, _, h, _, _ => by simp at h
  | (lo, none) :: ps, b, v, k, n, p, h, hp, hk, hq => by
    obtain ⟨h1, rfl⟩ := h
    cases n with
    | zero =>
      cases hp
      refine ⟨v, rfl, ?_⟩
      simp only [vsum, con_none]
      simp only at hk
      split <;> omega
    | succ n => simp at hp
  | (lo, some g) :: ps, b, v, k, 0, p, h, hp, hk, hq => by
    obtain ⟨h1, h2, h3⟩ := h
    cases hp
    refine ⟨v, rfl, ?_⟩
    have hz : vsum ps k = 0 := by
      cases ps with
      | nil => rfl
      | cons q ps =>
        obtain ⟨ql, qh⟩ := q
        have hq' := hq _ rfl
        simp only at hq'
        cases qh with
        | none =>
          obtain ⟨g1, rfl⟩ := h3
          simp only [vsum, con_none]
          rw [if_pos (by omega)]; rfl
        | some m =>
          obtain ⟨g1, g2, g3⟩ := h3
          simp only [vsum, con_some]
          rw [if_pos (by omega), vsum_le g3 (by omega)]; rfl
    simp only [vsum, con_some, hz]
    simp only at hk
    split <;> split <;> (try split) <;> omega
  | (lo, some g) :: ps, b, v, k, n + 1, p, h, hp, hk, hq => by
    obtain ⟨h1, h2, h3⟩ := h
    obtain ⟨w, e1, e2⟩ := val_at (v := v + g - lo) h3 hp hk hq
    have hg : g < p.1 := asc_lt h3 hp
    refine ⟨w, e1, ?_⟩
    rw [e2]
    simp only [vsum, con_some]
    rw [if_neg (by omega), if_neg (by omega)]
    omega
theorem asc_sorted : ∀ {rs : List Pr} {b : Int} {i j : Nat} {p q : Pr}, Asc b rs → rs[i]? = some p → rs[j]? = some q → i < j → p.1 < q.1
  | [], _, _, _, _, _, _, h, _, _ => by simp at h
  | (lo, none) :: ps, b, i, j, p, q, h, hp, hq, hij => by
    obtain ⟨h1, rfl⟩ := h
    cases j with
    | zero => omega
    | succ j => simp at hq
  | (lo, some g) :: ps, b, 0, j + 1, p, q, h, hp, hq, hij => by
    cases hp
    have := asc_lt h.2.2 hq
    have := h.2.1
    show lo < q.1
    omega
  | (lo, some g) :: ps, b, i + 1, j + 1, p, q, h, hp, hq, hij => asc_sorted h.2.2 hp hq (by omega)
theorem vsum_lt : ∀ {rs : List Pr} {k : Int}, (∀ (j : Nat) p, rs[j]? = some p → k < p.1) → vsum rs k = 0
  | [], _, _ => rfl
  | p :: ps, k, h => by
    have h0 := h 0 p rfl
    have e := vsum_lt (rs := ps) (k := k) fun j q hq => h (j + 1) q hq
    simp only [vsum, e]
    rw [con_le (by omega)]; rfl
theorem closed_some : ∀ {rs : List Pr} {b : Int}, Asc b rs → (∀ lo, ¬ Opn rs lo) → ∀ p ∈ rs, ∃ h, p.2 = some h
  | [], _, _, _, _, h => by cases h
  | (l, none) :: ps, b, h, n, p, hp => by
    obtain ⟨h1, rfl⟩ := h
    exact absurd ⟨[], rfl⟩ (n l)
  | (l, some g) :: ps, b, h, n, p, hp => by
    rcases List.mem_cons.mp hp with e | hp
    · rw [e]; exact ⟨g, rfl⟩
    · exact closed_some h.2.2 (fun lo ⟨pre, e⟩ => n lo ⟨(l, some g) :: pre, by rw [e]; rfl⟩) p hp
def width (p : Pr) : Int := match p.2 with | none => 0 | some h => h - p.1
theorem wsum_eq : ∀ rs : List Pr, wsum rs = (rs.map width).sum
  | [] => rfl
  | (lo, none) :: ps => by simp [wsum, width, wsum_eq ps]
  | (lo, some h) :: ps => by simp [wsum, width, wsum_eq ps]
theorem take_snoc {α : Type} {xs : List α} {i : Nat} {x : α} (h : xs[i]? = some x) : xs.take (i + 1) = xs.take i ++ [x] := by
  rw [List.take_add_one, h]; rfl
theorem drop_cons {α : Type} {xs : List α} {i : Nat} {x : α} (h : xs[i]? = some x) : xs.drop i = x :: xs.drop (i + 1) := by
  obtain ⟨hi, e⟩ := List.getElem?_eq_some_iff.mp h
  rw [List.drop_eq_getElem_cons hi, e]
/-! ### greatest and least -/
/-- x is the last with val x ≥ x -/
def IsG (s : Int) (rs : List Pr) (x : Int) : Prop := 0 ≤ x ∧ x ≤ val s rs x ∧ val s rs (x + 1) < x + 1
/-- x is the first with val x ≤ x -/
def IsL (s : Int) (rs : List Pr) (x : Int) : Prop := 0 ≤ x ∧ val s rs x ≤ x ∧ (0 < x → x - 1 < val s rs (x - 1))
theorem val_lip {s b k k' : Int} {rs : List Pr} (h : Asc b rs) (hk : k ≤ k') : val s rs k ≤ val s rs k' ∧ val s rs k' ≤ val s rs k + (k' - k) := by
  have := lip h hk
  unfold val
  omega
theorem IsG.uniq {s b x y : Int} {rs : List Pr} (h : Asc b rs) (a : IsG s rs x) (c : IsG s rs y) : x = y := by
  obtain ⟨a0, a1, a2⟩ := a
  obtain ⟨c0, c1, c2⟩ := c
  by_cases h1 : x < y
  · have := (val_lip (s := s) h (show x + 1 ≤ y by omega)).2; omega
  · by_cases h2 : y < x
    · have := (val_lip (s := s) h (show y + 1 ≤ x by omega)).2; omega
    · omega
theorem IsL.uniq {s b x y : Int} {rs : List Pr} (h : Asc b rs) (a : IsL s rs x) (c : IsL s rs y) : x = y := by
  obtain ⟨a0, a1, a2⟩ := a
  obtain ⟨c0, c1, c2⟩ := c
  by_cases h1 : x < y
  · have := (val_lip (s := s) h (show x ≤ y - 1 by omega)).2; have := c2 (by omega); omega
  · by_cases h2 : y < x
    · have := (val_lip (s := s) h (show y ≤ x - 1 by omega)).2; have := a2 (by omega); omega
    · omega
theorem flat_isG {s x : Int} {rs : List Pr} (h : Asc (-1) rs) (hs : 0 ≤ s) (e : flatF rs 0 s = some x) : IsG s rs x := by
  obtain ⟨h1, h2, h3⟩ := flat_some (b := 0) h hs e
  unfold IsG val
  rw [h3]
  omega
/-- the least number with val x ≤ x -/
def leastF (s : Int) (rs : List Pr) : Option Int := if s = 0 then some 0 else (flatF rs 0 (s - 1)).map (· + 1)
theorem least_isL {s x : Int} {rs : List Pr} (h : Asc (-1) rs) (hs : 0 ≤ s) (e : leastF s rs = some x) : IsL s rs x := by
  unfold leastF at e
  split at e
  · cases e
    rename_i h0
    subst h0
    refine ⟨Int.le_refl _, ?_, fun z => absurd z (by omega)⟩
    unfold val
    rw [vsum_le h (by omega)]; omega
  · cases ef : flatF rs 0 (s - 1) with
    | none => rw [ef] at e; cases e
    | some y =>
      rw [ef] at e
      cases e
      obtain ⟨h1, h2, h3⟩ := flat_some (b := 0) h (by omega) ef
      show IsL s rs (y + 1)
      unfold IsL val
      rw [h3]
      refine ⟨by omega, by omega, fun _ => ?_⟩
      rw [show y + 1 - 1 = y by omega]
      omega
theorem all_ge {s b lo k : Int} {rs : List Pr} (h : Asc b rs) (ho : Opn rs lo) (hl : lo ≤ val s rs lo) : k ≤ val s rs k := by
  by_cases hk : lo ≤ k
  · have := opn_from h ho hk
    unfold val at *
    omega
  · have := (val_lip (s := s) h (show k ≤ lo by omega)).2
    omega
theorem all_gt {s b lo k : Int} {rs : List Pr} (h : Asc b rs) (ho : Opn rs lo) (hl : lo < val s rs lo) : k < val s rs k := by
  by_cases hk : lo ≤ k
  · have := opn_from h ho hk
    unfold val at *
    omega
  · have := (val_lip (s := s) h (show k ≤ lo by omega)).2
    omega
theorem flatNone_ge {s : Int} {rs : List Pr} (h : Asc (-1) rs) (hs : 0 ≤ s) (e : flatF rs 0 s = none) (k : Int) : k ≤ val s rs k := by
  obtain ⟨lo, ho, h0, h1⟩ := flat_none (b := 0) h hs e
  exact all_ge h ho (by unfold val; omega)
theorem leastNone_gt {s : Int} {rs : List Pr} (h : Asc (-1) rs) (hs : 0 ≤ s) (e : leastF s rs = none) (k : Int) : k < val s rs k := by
  unfold leastF at e
  split at e
  · cases e
  · cases ef : flatF rs 0 (s - 1) with
    | some y => rw [ef] at e; cases e
    | none =>
      obtain ⟨lo, ho, h0, h1⟩ := flat_none (b := 0) h (by omega) ef
      exact all_gt h ho (by unfold val; omega)
/-- below the last, all are at most their value -/
theorem IsG.below {s b x k : Int} {rs : List Pr} (h : Asc b rs) (a : IsG s rs x) (hk : k ≤ x) : k ≤ val s rs k := by
  obtain ⟨a0, a1, a2⟩ := a
  have := (val_lip (s := s) h hk).2
  omega
theorem IsL.above {s b x k : Int} {rs : List Pr} (h : Asc b rs) (a : IsL s rs x) (hk : x ≤ k) : val s rs k ≤ k := by
  obtain ⟨a0, a1, a2⟩ := a
  have := (val_lip (s := s) h hk).2
  omega
theorem val_nn {s b k : Int} {rs : List Pr} (h : Asc b rs) (hs : 0 ≤ s) : 0 ≤ val s rs k := by
  have := vsum_nn (k := k) h
  unfold val
  omega
theorem Asc.snoc : ∀ {rs : List Pr} {b lo : Int} {hi : Option Int}, Asc b rs → (∀ p ∈ rs, ∃ h, p.2 = some h ∧ h < lo) → b < lo → (∀ h, hi = some h → lo < h) → Asc b (rs ++ [(lo, hi)])
  | [], b, lo, none, _, _, hb, _ => ⟨hb, rfl⟩
  | [], b, lo, some h, _, _, hb, hh => ⟨hb, hh h rfl, trivial⟩
  | (l, none) :: ps, b, lo, hi, h, hc, hb, hh => by
    obtain ⟨g, hg, _⟩ := hc _ List.mem_cons_self
    cases hg
  | (l, some g) :: ps, b, lo, hi, h, hc, hb, hh => by
    obtain ⟨g', hg, hlt⟩ := hc _ List.mem_cons_self
    cases hg
    exact ⟨h.1, h.2.1, Asc.snoc h.2.2 (fun p hp => hc p (List.mem_cons_of_mem _ hp)) hlt hh⟩
theorem Asc.left : ∀ {rs qs : List Pr} {b : Int}, Asc b (rs ++ qs) → Asc b rs
  | [], _, _, _ => trivial
  | (l, none) :: ps, qs, b, h => by
    obtain ⟨h1, h2⟩ := h
    cases ps with
    | nil => exact ⟨h1, rfl⟩
    | cons _ _ => cases h2
  | (l, some g) :: ps, qs, b, h => ⟨h.1, h.2.1, Asc.left h.2.2⟩
theorem bndF_le {M : Int} (hM : 0 ≤ M) : ∀ {rs : List Pr} {s : Int}, 0 ≤ s → (∀ p ∈ rs, p.1 ≤ M) → (∀ p ∈ rs, ∀ h, p.2 = some h → p.1 ≤ h) → bndF s rs ≤ s + wsum rs + M
  | [], s, _, _, _ => by simp only [bndF, wsum]; omega
  | (l, none) :: ps, s, hs, h, g => by
    have := h _ List.mem_cons_self
    have hw : 0 ≤ wsum ps := wsum_nn fun p hp => g p (List.mem_cons_of_mem _ hp)
    simp only [bndF, wsum, mxI]
    simp only at this
    split <;> omega
  | (l, some k) :: ps, s, hs, h, g => by
    have h2 := g _ List.mem_cons_self k rfl
    simp only at h2
    have := bndF_le hM (rs := ps) (s := s + k - l) (by omega) (fun p hp => h p (List.mem_cons_of_mem _ hp)) fun p hp => g p (List.mem_cons_of_mem _ hp)
    simp only [bndF, wsum]
    omega
theorem not_opn {rs : List Pr} (h : ∀ p ∈ rs, ∃ h, p.2 = some h) (lo : Int) : ¬ Opn rs lo := fun ⟨pre, e⟩ => by
  obtain ⟨g, hg⟩ := h (lo, none) (by rw [e]; simp)
  cases hg
theorem snoc_cases {α : Type} (xs : List α) : xs = [] ∨ ∃ ys y, xs = ys ++ [y] := by
  rcases List.eq_nil_or_concat xs with h | ⟨ys, y, h⟩
  · exact .inl h
  · exact .inr ⟨ys, y, by rw [h, List.concat_eq_append]⟩
theorem Asc.opened : ∀ {pre : List Pr} {b lo h : Int}, Asc b (pre ++ [(lo, some h)]) → Asc b (pre ++ [(lo, none)])
  | [], _, _, _, h => ⟨h.1, rfl⟩
  | (l, none) :: ps, b, lo, h, g => by
    obtain ⟨h1, h2⟩ := g
    cases ps <;> cases h2
  | (l, some k) :: ps, b, lo, h, g => ⟨g.1, g.2.1, Asc.opened g.2.2⟩
theorem vsum_snoc : ∀ (rs : List Pr) (p : Pr) (k : Int), vsum (rs ++ [p]) k = vsum rs k + con p k
  | [], p, k => by simp [vsum]
  | q :: rs, p, k => by simp only [List.cons_append, vsum, vsum_snoc rs p k]; omega
theorem asc_lt2 : ∀ {rs : List Pr} {b : Int} {n : Nat} {lo g : Int}, Asc b rs → rs[n]? = some (lo, some g) → lo < g
  | [], _, _, _, _, _, h => by simp at h
  | (l, none) :: ps, b, 0, lo, g, h, hp => by cases hp
  | (l, none) :: ps, b, n + 1, lo, g, h, hp => by obtain ⟨h1, rfl⟩ := h; simp at hp
  | (l, some k) :: ps, b, 0, lo, g, h, hp => by cases hp; exact h.2.1
  | (l, some k) :: ps, b, n + 1, lo, g, h, hp => asc_lt2 h.2.2 hp
/-! ### halving -/
theorem half {l h : Int} (d : 1 < h - l) : l < (l + h) / 2 ∧ (l + h) / 2 < h := by omega
theorem half_l {l h m : Int} (hm : h - l ≤ 2 * m) : h - (l + h) / 2 ≤ m ∧ (l + h) / 2 - l ≤ m := by omega
end NM
set_option Elab.async false
set_option linter.all false
/-! two needs side by side: cuts, slopes, spans -/
namespace NM
/-- the slope behind k: 0 or 1 -/
def slp (rs : List Pr) (k : Int) : Int := vsum rs (k + 1) - vsum rs k
theorem slp_01 {rs : List Pr} {b k : Int} (h : Asc b rs) : slp rs k = 0 ∨ slp rs k = 1 := by
  have := lip h (show k ≤ k + 1 by omega)
  unfold slp
  omega
/-- nothing of a pair ends or begins within (c, c') -/
structure Clear (p : Pr) (c c' : Int) : Prop where
  lo : p.1 ≤ c ∨ c' ≤ p.1
  hi : ∀ h, p.2 = some h → h ≤ c ∨ c' ≤ h
theorem con_seg {p : Pr} {c c' k : Int} (h : Clear p c c') (hp : ∀ x, p.2 = some x → p.1 < x) (hc : c < c') (hk : c ≤ k) (hk' : k ≤ c') : con p k = con p c + (con p (c + 1) - con p c) * (k - c) := by
  obtain ⟨lo, hi⟩ := p
  obtain ⟨h1, h2⟩ := h
  simp only at h1 h2 hp
  cases hi with
  | none =>
    rw [con_none, con_none, con_none]
    rcases h1 with h1 | h1
    · rw [show (if c + 1 ≤ lo then (0 : Int) else c + 1 - lo) - (if c ≤ lo then 0 else c - lo) = 1 by (repeat' split) <;> omega]
      (repeat' split) <;> omega
    · rw [show (if c + 1 ≤ lo then (0 : Int) else c + 1 - lo) - (if c ≤ lo then 0 else c - lo) = 0 by (repeat' split) <;> omega]
      (repeat' split) <;> omega
  | some x =>
    have h3 := h2 x rfl
    have h4 := hp x rfl
    rw [con_some, con_some, con_some]
    by_cases h5 : lo ≤ c ∧ c' ≤ x
    · rw [show (if c + 1 ≤ lo then (0 : Int) else if c + 1 < x then c + 1 - lo else x - lo) - (if c ≤ lo then 0 else if c < x then c - lo else x - lo) = 1 by (repeat' split) <;> omega]
      (repeat' split) <;> omega
    · rw [show (if c + 1 ≤ lo then (0 : Int) else if c + 1 < x then c + 1 - lo else x - lo) - (if c ≤ lo then 0 else if c < x then c - lo else x - lo) = 0 by (repeat' split) <;> omega]
      (repeat' split) <;> omega
theorem vsum_seg {c c' k : Int} (hc : c < c') (hk : c ≤ k) (hk' : k ≤ c') : ∀ {rs : List Pr}, (∀ p ∈ rs, Clear p c c' ∧ ∀ x, p.2 = some x → p.1 < x) → vsum rs k = vsum rs c + slp rs c * (k - c)
  | [], _ => by simp [vsum, slp]
  | p :: r, h => by
    have h1 := vsum_seg hc hk hk' (rs := r) fun q hq => h q (List.mem_cons_of_mem _ hq)
    have h2 := con_seg (h p List.mem_cons_self).1 (h p List.mem_cons_self).2 hc hk hk'
    unfold slp at h1 ⊢
    show con p k + vsum r k = con p c + vsum r c + (con p (c + 1) + vsum r (c + 1) - (con p c + vsum r c)) * (k - c)
    rw [h1, h2, show con p (c + 1) + vsum r (c + 1) - (con p c + vsum r c) = (con p (c + 1) - con p c) + (vsum r (c + 1) - vsum r c) by omega, Int.add_mul]
    omega
theorem asc_pos : ∀ {rs : List Pr} {b : Int}, Asc b rs → ∀ p ∈ rs, ∀ x, p.2 = some x → p.1 < x := fun {rs b} h p hp x hx => by
  obtain ⟨n, hn⟩ := List.getElem?_of_mem hp
  obtain ⟨lo, hi⟩ := p
  subst hx
  exact asc_lt2 h hn
/-! ### spans that are joined -/
/-- one after another, not before b -/
def WA : Int → List Pr → Prop
  | _, [] => True
  | b, (lo, none) :: ps => b ≤ lo ∧ ps = []
  | b, (lo, some h) :: ps => b ≤ lo ∧ lo < h ∧ WA h ps
/-- what joined has found so far, all of it below b -/
structure JI (acc : List Pr) (b : Int) : Prop where
  asc : Asc (-1) acc
  cl : ∀ p ∈ acc, ∃ h, p.2 = some h ∧ h ≤ b
  last : acc = [] ∨ ∃ pre a, acc = pre ++ [(a, some b)]
  b0 : 0 ≤ b
theorem con_join {a b k : Int} {hi : Option Int} (h1 : a < b) (h2 : ∀ h, hi = some h → b < h) : con (a, hi) k = con (a, some b) k + con (b, hi) k := by
  cases hi with
  | none =>
    rw [con_none, con_none, con_some]
    (repeat' split) <;> omega
  | some h =>
    have := h2 h rfl
    rw [con_some, con_some, con_some]
    (repeat' split) <;> omega
theorem Asc.widen : ∀ {pre : List Pr} {b a h : Int} {hi : Option Int}, Asc b (pre ++ [(a, some h)]) → (∀ g, hi = some g → h < g) → Asc b (pre ++ [(a, hi)])
  | [], b, a, h, hi, hA, hh => by
    obtain ⟨h1, h2, _⟩ := hA
    cases hi with
    | none => exact ⟨h1, rfl⟩
    | some g => exact ⟨h1, by have := hh g rfl; omega, trivial⟩
  | (lo, none) :: pre, b, a, h, hi, hA, hh => by
    have := hA.2
    simp at this
  | (lo, some g) :: pre, b, a, h, hi, hA, hh => ⟨hA.1, hA.2.1, Asc.widen hA.2.2 hh⟩
theorem JI.join {pre : List Pr} {a lo : Int} {hi : Option Int} (J : JI (pre ++ [(a, some lo)]) lo) (hh : ∀ h, hi = some h → lo < h) :
    Asc (-1) (pre ++ [(a, hi)]) ∧ (∀ k, vsum (pre ++ [(a, hi)]) k = vsum (pre ++ [(a, some lo)]) k + con (lo, hi) k) ∧ ∀ h, hi = some h → JI (pre ++ [(a, hi)]) h := by
  have hA := J.asc.widen hh
  refine ⟨hA, fun k => ?_, fun h e => ⟨hA, fun p hp => ?_, .inr ⟨pre, a, by rw [e]⟩, by have := hh h e; have := J.b0; omega⟩⟩
  · have e : con (a, hi) k = con (a, some lo) k + con (lo, hi) k := con_join (show a < lo from asc_pos J.asc (a, some lo) (by simp) lo rfl) hh
    rw [vsum_snoc, vsum_snoc, e]
    omega
  · have := hh h e
    rcases List.mem_append.mp hp with hp | hp
    · obtain ⟨g, h1, h2⟩ := J.cl p (List.mem_append_left _ hp)
      exact ⟨g, h1, by omega⟩
    · rw [List.mem_singleton.mp hp]
      exact ⟨h, e, Int.le_refl _⟩
theorem JI.add {acc : List Pr} {b lo : Int} {hi : Option Int} (J : JI acc b) (hb : b ≤ lo) (hn : acc = [] ∨ b ≠ lo) (hh : ∀ h, hi = some h → lo < h) :
    Asc (-1) (acc ++ [(lo, hi)]) ∧ (∀ k, vsum (acc ++ [(lo, hi)]) k = vsum acc k + con (lo, hi) k) ∧ ∀ h, hi = some h → JI (acc ++ [(lo, hi)]) h := by
  have b0 := J.b0
  have hA : Asc (-1) (acc ++ [(lo, hi)]) := J.asc.snoc (fun p hp => by
    obtain ⟨g, h1, h2⟩ := J.cl p hp
    rcases hn with rfl | hn
    · cases hp
    · exact ⟨g, h1, by omega⟩) (by omega) hh
  refine ⟨hA, fun k => vsum_snoc _ _ _, fun h e => ⟨hA, fun p hp => ?_, .inr ⟨acc, lo, by rw [e]⟩, by have := hh h e; omega⟩⟩
  have := hh h e
  rcases List.mem_append.mp hp with hp | hp
  · obtain ⟨g, h1, h2⟩ := J.cl p hp
    exact ⟨g, h1, by omega⟩
  · rw [List.mem_singleton.mp hp]
    exact ⟨h, e, Int.le_refl _⟩
/-! ### the smaller and the greater of two -/
def mnI (a b : Int) : Int := if b < a then b else a
def soon (a b : Option Int) : Option Int := match a, b with
  | none, b => b
  | a, none => a
  | some x, some y => some (if y < x then y else x)
/-- the span of a piece on which the smaller rises -/
def spanS (c : Int) (e : Option Int) (v1 s1 v2 s2 : Int) : List Pr :=
  if s1 ≠ 0 ∧ s2 ≠ 0 then [(c, e)] else if s1 ≠ s2 ∧ 0 < (if s1 = 0 then v1 - v2 else v2 - v1) then [(c, soon e (some (c + if s1 = 0 then v1 - v2 else v2 - v1)))] else []
/-- the span of a piece on which the greater rises -/
def ldG (v1 s1 v2 : Int) : Int := mxI 0 (if s1 = 0 then v1 - v2 else v2 - v1)
def spanG (c : Int) (e : Option Int) (v1 s1 v2 s2 : Int) : List Pr :=
  if s1 ≠ 0 ∧ s2 ≠ 0 then [(c, e)] else if s1 ≠ s2 ∧ (∀ x, e = some x → c + ldG v1 s1 v2 < x) then [(c + ldG v1 s1 v2, e)] else []
theorem spanS00 {c v1 v2 : Int} {e : Option Int} : spanS c e v1 0 v2 0 = [] := by simp [spanS]
theorem spanS01 {c v1 v2 : Int} {e : Option Int} : spanS c e v1 0 v2 1 = if 0 < v1 - v2 then [(c, soon e (some (c + (v1 - v2))))] else [] := by simp [spanS]
theorem spanS10 {c v1 v2 : Int} {e : Option Int} : spanS c e v1 1 v2 0 = if 0 < v2 - v1 then [(c, soon e (some (c + (v2 - v1))))] else [] := by simp [spanS]
theorem spanS11 {c v1 v2 : Int} {e : Option Int} : spanS c e v1 1 v2 1 = [(c, e)] := by simp [spanS]
theorem spanG00 {c v1 v2 : Int} {e : Option Int} : spanG c e v1 0 v2 0 = [] := by simp [spanG]
theorem spanG01 {c v1 v2 : Int} {e : Option Int} : spanG c e v1 0 v2 1 = if (∀ x, e = some x → c + mxI 0 (v1 - v2) < x) then [(c + mxI 0 (v1 - v2), e)] else [] := by simp [spanG, ldG]
theorem spanG10 {c v1 v2 : Int} {e : Option Int} : spanG c e v1 1 v2 0 = if (∀ x, e = some x → c + mxI 0 (v2 - v1) < x) then [(c + mxI 0 (v2 - v1), e)] else [] := by simp [spanG, ldG]
theorem spanG11 {c v1 v2 : Int} {e : Option Int} : spanG c e v1 1 v2 1 = [(c, e)] := by simp [spanG]
theorem one_val {c k : Int} {e : Option Int} (hc : c ≤ k) (he : ∀ x, e = some x → k ≤ x) : vsum [(c, e)] k = k - c := by
  cases e with
  | none =>
    show con (c, none) k + 0 = _
    rw [con_none]
    split <;> omega
  | some x =>
    have := he x rfl
    show con (c, some x) k + 0 = _
    rw [con_some]
    (repeat' split) <;> omega
theorem led_val {c k d : Int} {e : Option Int} (hd : 0 < d) (hc : c ≤ k) (he : ∀ x, e = some x → k ≤ x) : vsum [(c, soon e (some (c + d)))] k = if k - c < d then k - c else d := by
  cases e with
  | none =>
    show con (c, some (c + d)) k + 0 = _
    rw [con_some]
    (repeat' split) <;> omega
  | some x =>
    have := he x rfl
    show con (c, some (if c + d < x then c + d else x)) k + 0 = _
    rw [con_some]
    (repeat' split) <;> omega
theorem ahead_val {c k d : Int} {e : Option Int} (hd : 0 ≤ d) (hc : c ≤ k) (he : ∀ x, e = some x → k ≤ x) : vsum (if (∀ x, e = some x → c + d < x) then [(c + d, e)] else []) k = if k ≤ c + d then 0 else k - (c + d) := by
  cases e with
  | none =>
    rw [if_pos (fun x h => by cases h)]
    show con (c + d, none) k + 0 = _
    rw [con_none]
    omega
  | some x =>
    have := he x rfl
    by_cases hx : c + d < x
    · rw [if_pos (fun y h => by cases h; exact hx)]
      show con (c + d, some x) k + 0 = _
      rw [con_some]
      (repeat' split) <;> omega
    · rw [if_neg (fun h => hx (h x rfl))]
      show (0 : Int) = _
      split <;> omega
theorem spanS_val {c k v1 s1 v2 s2 : Int} {e : Option Int} (h1 : s1 = 0 ∨ s1 = 1) (h2 : s2 = 0 ∨ s2 = 1) (hc : c ≤ k) (he : ∀ x, e = some x → k ≤ x) :
    mnI (v1 + s1 * (k - c)) (v2 + s2 * (k - c)) = mnI v1 v2 + vsum (spanS c e v1 s1 v2 s2) k := by
  rcases h1 with rfl | rfl <;> rcases h2 with rfl | rfl
  · rw [spanS00]
    simp [vsum]
  · rw [spanS01, Int.zero_mul, Int.one_mul, Int.add_zero]
    by_cases hl : 0 < v1 - v2
    · rw [if_pos hl, led_val hl hc he]
      unfold mnI
      (repeat' split) <;> omega
    · rw [if_neg hl]
      show _ = _ + 0
      unfold mnI
      (repeat' split) <;> omega
  · rw [spanS10, Int.zero_mul, Int.one_mul, Int.add_zero]
    by_cases hl : 0 < v2 - v1
    · rw [if_pos hl, led_val hl hc he]
      unfold mnI
      (repeat' split) <;> omega
    · rw [if_neg hl]
      show _ = _ + 0
      unfold mnI
      (repeat' split) <;> omega
  · rw [spanS11, one_val hc he, Int.one_mul]
    unfold mnI
    (repeat' split) <;> omega
theorem spanG_val {c k v1 s1 v2 s2 : Int} {e : Option Int} (h1 : s1 = 0 ∨ s1 = 1) (h2 : s2 = 0 ∨ s2 = 1) (hc : c ≤ k) (he : ∀ x, e = some x → k ≤ x) :
    mxI (v1 + s1 * (k - c)) (v2 + s2 * (k - c)) = mxI v1 v2 + vsum (spanG c e v1 s1 v2 s2) k := by
  have m0 : ∀ d : Int, 0 ≤ mxI 0 d := fun d => by unfold mxI; split <;> omega
  rcases h1 with rfl | rfl <;> rcases h2 with rfl | rfl
  · rw [spanG00]
    simp [vsum]
  · rw [spanG01, Int.zero_mul, Int.one_mul, Int.add_zero, ahead_val (m0 _) hc he]
    unfold mxI
    (repeat' split) <;> omega
  · rw [spanG10, Int.zero_mul, Int.one_mul, Int.add_zero, ahead_val (m0 _) hc he]
    unfold mxI
    (repeat' split) <;> omega
  · rw [spanG11, one_val hc he, Int.one_mul]
    unfold mxI
    (repeat' split) <;> omega
/-! ### the spans of all pieces -/
theorem vsum_app : ∀ (a b : List Pr) (k : Int), vsum (a ++ b) k = vsum a k + vsum b k
  | [], b, k => by simp [vsum]
  | p :: a, b, k => by simp only [List.cons_append, vsum, vsum_app a b k]; omega
def SpOk (L : List Pr) (c : Int) (e : Option Int) : Prop := L = [] ∨ ∃ lo hi, L = [(lo, hi)] ∧ c ≤ lo ∧ (∀ h, hi = some h → lo < h) ∧ ∀ x, e = some x → ∃ h, hi = some h ∧ h ≤ x
theorem SpOk.low {L : List Pr} {c k : Int} {e : Option Int} (h : SpOk L c e) (hk : k ≤ c) : vsum L k = 0 := by
  rcases h with rfl | ⟨lo, hi, rfl, h1, _, _⟩
  · rfl
  · show con (lo, hi) k + 0 = 0
    rw [con_le (show k ≤ lo by omega)]; rfl
theorem SpOk.high {L : List Pr} {c k x : Int} (h : SpOk L c (some x)) (hk : x ≤ k) : vsum L k = vsum L x := by
  rcases h with rfl | ⟨lo, hi, rfl, h1, h2, h3⟩
  · rfl
  · obtain ⟨g, rfl, h4⟩ := h3 x rfl
    have := h2 g rfl
    show con (lo, some g) k + 0 = con (lo, some g) x + 0
    rw [con_some, con_some]
    (repeat' split) <;> omega
def spansOf (sp : Int → Option Int → List Pr) : List Int → List Pr
  | [] => []
  | [c] => sp c none
  | c :: c' :: r => sp c (some c') ++ spansOf sp (c' :: r)
/-- F goes by the spans -/
structure Goes (F : Int → Int) (sp : Int → Option Int → List Pr) (cs : List Int) : Prop where
  ok : ∀ c ∈ cs, ∀ e, (∀ x, e = some x → c < x) → SpOk (sp c e) c e
  in_ : ∀ pre c c' r, cs = pre ++ c :: c' :: r → ∀ k, c ≤ k → k ≤ c' → F k = F c + vsum (sp c (some c')) k
  out : ∀ pre c, cs = pre ++ [c] → ∀ k, c ≤ k → F k = F c + vsum (sp c none) k
theorem Goes.tail {F : Int → Int} {sp : Int → Option Int → List Pr} {c : Int} {r : List Int} (g : Goes F sp (c :: r)) : Goes F sp r :=
  ⟨fun d hd => g.ok d (List.mem_cons_of_mem _ hd), fun pre d d' q e => g.in_ (c :: pre) d d' q (by rw [e]; rfl), fun pre d e => g.out (c :: pre) d (by rw [e]; rfl)⟩
theorem spansOf_low {F : Int → Int} {sp : Int → Option Int → List Pr} : ∀ {cs : List Int} {k : Int}, Goes F sp cs → cs.Pairwise (· < ·) → (∀ c ∈ cs, k ≤ c) → vsum (spansOf sp cs) k = 0
  | [], k, _, _, _ => rfl
  | [c], k, g, _, h => (g.ok c (by simp) none (fun x h => by cases h)).low (h c (by simp))
  | c :: c' :: r, k, g, hp, h => by
    have hcc : c < c' := (List.pairwise_cons.mp hp).1 c' (by simp)
    show vsum (sp c (some c') ++ _) k = 0
    rw [vsum_app, (g.ok c (by simp) (some c') (fun x h => by cases h; exact hcc)).low (h c (by simp)), spansOf_low g.tail (List.pairwise_cons.mp hp).2 fun d hd => h d (List.mem_cons_of_mem _ hd)]
    rfl
theorem spansOf_val {F : Int → Int} {sp : Int → Option Int → List Pr} : ∀ {r : List Int} {c k : Int}, Goes F sp (c :: r) → (c :: r).Pairwise (· < ·) → c ≤ k → F k = F c + vsum (spansOf sp (c :: r)) k
  | [], c, k, g, _, hk => g.out [] c rfl k hk
  | c' :: r, c, k, g, hp, hk => by
    have hcc : c < c' := (List.pairwise_cons.mp hp).1 c' (by simp)
    have hp' := (List.pairwise_cons.mp hp).2
    have ok := g.ok c (by simp) (some c') (fun x h => by cases h; exact hcc)
    show F k = F c + vsum (sp c (some c') ++ _) k
    rw [vsum_app]
    rcases Int.lt_or_le c' k with h | h
    · rw [ok.high (by omega), spansOf_val g.tail hp' (show c' ≤ k by omega), g.in_ [] c c' r rfl c' (by omega) (Int.le_refl _)]
      omega
    · rw [g.in_ [] c c' r rfl k hk h, spansOf_low g.tail hp' fun d hd => by
        rcases List.mem_cons.mp hd with rfl | hd
        · exact h
        · have := (List.pairwise_cons.mp hp').1 d hd
          omega]
      omega
theorem WA.mono {b c : Int} (h : c ≤ b) : ∀ {rs : List Pr}, WA b rs → WA c rs
  | [], _ => trivial
  | (lo, none) :: ps, g => ⟨Int.le_trans h g.1, g.2⟩
  | (lo, some x) :: ps, g => ⟨Int.le_trans h g.1, g.2⟩
theorem spansOf_wa {F : Int → Int} {sp : Int → Option Int → List Pr} : ∀ {r : List Int} {c : Int}, Goes F sp (c :: r) → (c :: r).Pairwise (· < ·) → WA c (spansOf sp (c :: r))
  | [], c, g, _ => by
    show WA c (sp c none)
    rcases g.ok c (by simp) none (fun x h => by cases h) with h | ⟨lo, hi, h, h1, h2, _⟩
    · rw [h]; trivial
    · rw [h]
      cases hi with
      | none => exact ⟨h1, rfl⟩
      | some x => exact ⟨h1, h2 x rfl, trivial⟩
  | c' :: r, c, g, hp => by
    have hcc : c < c' := (List.pairwise_cons.mp hp).1 c' (by simp)
    have ih := spansOf_wa g.tail (List.pairwise_cons.mp hp).2
    show WA c (sp c (some c') ++ spansOf sp (c' :: r))
    rcases g.ok c (by simp) (some c') (fun x h => by cases h; exact hcc) with h | ⟨lo, hi, h, h1, h2, h3⟩
    · rw [h]
      exact ih.mono (by omega)
    · obtain ⟨x, rfl, h4⟩ := h3 c' rfl
      rw [h]
      exact ⟨h1, h2 x rfl, ih.mono h4⟩
theorem spanS_ok {c v1 s1 v2 s2 : Int} {e : Option Int} (h1 : s1 = 0 ∨ s1 = 1) (h2 : s2 = 0 ∨ s2 = 1) (he : ∀ x, e = some x → c < x) : SpOk (spanS c e v1 s1 v2 s2) c e := by
  have one : SpOk [(c, e)] c e := .inr ⟨c, e, rfl, Int.le_refl _, he, fun x h => ⟨x, h, Int.le_refl _⟩⟩
  have led : ∀ d : Int, 0 < d → SpOk [(c, soon e (some (c + d)))] c e := fun d hd => .inr ⟨c, _, rfl, Int.le_refl _, fun h hh => by
    cases e with
    | none => cases hh; omega
    | some x =>
      have := he x rfl
      cases hh
      split <;> omega, fun x hx => by
    subst hx
    refine ⟨_, rfl, ?_⟩
    split <;> omega⟩
  rcases h1 with rfl | rfl <;> rcases h2 with rfl | rfl
  · rw [spanS00]; exact .inl rfl
  · rw [spanS01]
    split
    · rename_i h; exact led _ h
    · exact .inl rfl
  · rw [spanS10]
    split
    · rename_i h; exact led _ h
    · exact .inl rfl
  · rw [spanS11]; exact one
theorem spanG_ok {c v1 s1 v2 s2 : Int} {e : Option Int} (h1 : s1 = 0 ∨ s1 = 1) (h2 : s2 = 0 ∨ s2 = 1) (he : ∀ x, e = some x → c < x) : SpOk (spanG c e v1 s1 v2 s2) c e := by
  have m0 : ∀ d : Int, 0 ≤ mxI 0 d := fun d => by unfold mxI; split <;> omega
  have one : SpOk [(c, e)] c e := .inr ⟨c, e, rfl, Int.le_refl _, he, fun x h => ⟨x, h, Int.le_refl _⟩⟩
  have ahead : ∀ d : Int, 0 ≤ d → SpOk (if (∀ x, e = some x → c + d < x) then [(c + d, e)] else []) c e := fun d hd => by
    split
    · rename_i h
      exact .inr ⟨_, _, rfl, by omega, h, fun x hx => ⟨x, hx, Int.le_refl _⟩⟩
    · exact .inl rfl
  rcases h1 with rfl | rfl <;> rcases h2 with rfl | rfl
  · rw [spanG00]; exact .inl rfl
  · rw [spanG01]; exact ahead _ (m0 _)
  · rw [spanG10]; exact ahead _ (m0 _)
  · rw [spanG11]; exact one
theorem cut_between {cs pre r : List Int} {c c' x : Int} (hp : cs.Pairwise (· < ·)) (e : cs = pre ++ c :: c' :: r) (hx : x ∈ cs) : x ≤ c ∨ c' ≤ x := by
  subst e
  obtain ⟨h1, h2, h3⟩ := List.pairwise_append.mp hp
  rcases List.mem_append.mp hx with hx | hx
  · exact .inl (Int.le_of_lt (h3 x hx c (by simp)))
  · rcases List.mem_cons.mp hx with rfl | hx
    · exact .inl (Int.le_refl _)
    · rcases List.mem_cons.mp hx with rfl | hx
      · exact .inr (Int.le_refl _)
      · exact .inr (Int.le_of_lt ((List.pairwise_cons.mp (List.pairwise_cons.mp h2).2).1 x hx))
theorem cut_last {cs pre : List Int} {c x : Int} (hp : cs.Pairwise (· < ·)) (e : cs = pre ++ [c]) (hx : x ∈ cs) : x ≤ c := by
  subst e
  obtain ⟨h1, h2, h3⟩ := List.pairwise_append.mp hp
  rcases List.mem_append.mp hx with hx | hx
  · exact Int.le_of_lt (h3 x hx c (by simp))
  · rw [List.mem_singleton.mp hx]; exact Int.le_refl _
/-- all ends of the pairs are cuts -/
def Ends (rs : List Pr) (cs : List Int) : Prop := ∀ p ∈ rs, p.1 ∈ cs ∧ ∀ h, p.2 = some h → h ∈ cs
theorem seg_in {rs : List Pr} {cs pre r : List Int} {b s c c' k : Int} (ha : Asc b rs) (he : Ends rs cs) (hp : cs.Pairwise (· < ·)) (e : cs = pre ++ c :: c' :: r) (hk : c ≤ k) (hk' : k ≤ c') : val s rs k = val s rs c + slp rs c * (k - c) := by
  have hcc : c < c' := by
    subst e
    exact (List.pairwise_cons.mp (List.pairwise_append.mp hp).2.1).1 c' (by simp)
  have h := vsum_seg hcc hk hk' (rs := rs) fun p hp' => ⟨⟨cut_between hp e (he p hp').1, fun h hh => cut_between hp e ((he p hp').2 h hh)⟩, asc_pos ha p hp'⟩
  unfold val
  omega
theorem seg_out {rs : List Pr} {cs pre : List Int} {b s c k : Int} (ha : Asc b rs) (he : Ends rs cs) (hp : cs.Pairwise (· < ·)) (e : cs = pre ++ [c]) (hk : c ≤ k) : val s rs k = val s rs c + slp rs c * (k - c) := by
  have h := vsum_seg (c := c) (c' := k + 1) (k := k) (by omega) hk (by omega) (rs := rs) fun p hp' => ⟨⟨.inl (cut_last hp e (he p hp').1), fun h hh => .inl (cut_last hp e ((he p hp').2 h hh))⟩, asc_pos ha p hp'⟩
  unfold val
  omega
abbrev spS (s1 : Int) (r1 : List Pr) (s2 : Int) (r2 : List Pr) : Int → Option Int → List Pr := fun c e => spanS c e (val s1 r1 c) (slp r1 c) (val s2 r2 c) (slp r2 c)
abbrev spG (s1 : Int) (r1 : List Pr) (s2 : Int) (r2 : List Pr) : Int → Option Int → List Pr := fun c e => spanG c e (val s1 r1 c) (slp r1 c) (val s2 r2 c) (slp r2 c)
theorem goesS {s1 s2 b : Int} {r1 r2 : List Pr} {cs : List Int} (a1 : Asc b r1) (a2 : Asc b r2) (e1 : Ends r1 cs) (e2 : Ends r2 cs) (hp : cs.Pairwise (· < ·)) : Goes (fun k => mnI (val s1 r1 k) (val s2 r2 k)) (spS s1 r1 s2 r2) cs where
  ok := fun c hc e he => spanS_ok (slp_01 a1) (slp_01 a2) he
  in_ := fun pre c c' r e k hk hk' => by
    show mnI (val s1 r1 k) (val s2 r2 k) = _
    rw [seg_in a1 e1 hp e hk hk', seg_in a2 e2 hp e hk hk', spanS_val (e := some c') (slp_01 a1) (slp_01 a2) hk (fun x h => by cases h; exact hk')]
  out := fun pre c e k hk => by
    show mnI (val s1 r1 k) (val s2 r2 k) = _
    rw [seg_out a1 e1 hp e hk, seg_out a2 e2 hp e hk, spanS_val (e := none) (slp_01 a1) (slp_01 a2) hk (fun x h => by cases h)]
theorem goesG {s1 s2 b : Int} {r1 r2 : List Pr} {cs : List Int} (a1 : Asc b r1) (a2 : Asc b r2) (e1 : Ends r1 cs) (e2 : Ends r2 cs) (hp : cs.Pairwise (· < ·)) : Goes (fun k => mxI (val s1 r1 k) (val s2 r2 k)) (spG s1 r1 s2 r2) cs where
  ok := fun c hc e he => spanG_ok (slp_01 a1) (slp_01 a2) he
  in_ := fun pre c c' r e k hk hk' => by
    show mxI (val s1 r1 k) (val s2 r2 k) = _
    rw [seg_in a1 e1 hp e hk hk', seg_in a2 e2 hp e hk hk', spanG_val (e := some c') (slp_01 a1) (slp_01 a2) hk (fun x h => by cases h; exact hk')]
  out := fun pre c e k hk => by
    show mxI (val s1 r1 k) (val s2 r2 k) = _
    rw [seg_out a1 e1 hp e hk, seg_out a2 e2 hp e hk, spanG_val (e := none) (slp_01 a1) (slp_01 a2) hk (fun x h => by cases h)]
/-- the rises of what is smaller, of what is greater: they rise as it does -/
structure Is (F : Int → Int) (rs : List Pr) : Prop where
  asc : Asc (-1) rs
  val : ∀ k, 0 ≤ k → F k = F 0 + vsum rs k
theorem val_zero {s : Int} {rs : List Pr} (h : Asc (-1) rs) : NM.val s rs 0 = s := by
  unfold NM.val
  rw [vsum_le h (by omega)]
  omega
/-- the slope, from the place of the first pair that ends behind the cut -/
theorem slp_at {c : Int} : ∀ {rs : List Pr} {b : Int} {n : Nat}, Asc b rs → (∀ (j : Nat) p, j < n → rs[j]? = some p → ∃ h, p.2 = some h ∧ h ≤ c) → (∀ p, rs[n]? = some p → ∀ h, p.2 = some h → c < h) → slp rs c = match rs[n]? with
    | some p => if p.1 ≤ c then 1 else 0
    | none => 0
  | [], b, n, _, _, _ => by simp [slp, vsum]
  | (lo, none) :: r, b, 0, ha, _, _ => by
    obtain ⟨h1, rfl⟩ := ha
    show con _ _ + 0 - (con _ _ + 0) = if lo ≤ c then 1 else 0
    rw [con_none, con_none]
    (repeat' split) <;> omega
  | (lo, some h) :: r, b, 0, ha, _, hn => by
    obtain ⟨h1, h2, h3⟩ := ha
    have h4 := hn _ rfl h rfl
    show con _ _ + vsum r (c + 1) - (con _ _ + vsum r c) = if lo ≤ c then 1 else 0
    rw [vsum_le h3 (by omega), vsum_le h3 (by omega), con_some, con_some]
    (repeat' split) <;> omega
  | (lo, none) :: r, b, n + 1, ha, hb, _ => by
    obtain ⟨h, e, _⟩ := hb 0 _ (Nat.succ_pos n) rfl
    cases e
  | (lo, some h) :: r, b, n + 1, ha, hb, hn => by
    obtain ⟨h1, h2, h3⟩ := ha
    obtain ⟨g, e, h4⟩ := hb 0 _ (Nat.succ_pos n) rfl
    cases e
    have ih := slp_at (c := c) (rs := r) (n := n) h3 (fun j p hj hp => hb (j + 1) p (by omega) hp) fun p hp => hn p hp
    show con _ _ + vsum r (c + 1) - (con _ _ + vsum r c) = _
    have e0 : con (lo, some h) (c + 1) = con (lo, some h) c := by
      rw [con_some, con_some]
      (repeat' split) <;> omega
    rw [e0]
    unfold slp at ih
    rw [show (((lo, some h) :: r)[n + 1]? : Option Pr) = r[n]? from rfl, ← ih]
    omega
/-! ### a sum that is bounded -/
theorem wsum_at {rs : List Pr} {b : Int} (ha : Asc b rs) (hc : ∀ lo, ¬ Opn rs lo) : ∃ k, 0 ≤ k ∧ vsum rs k = wsum rs := by
  have key : ∀ (rs : List Pr) (b : Int), Asc b rs → (∀ p ∈ rs, ∃ h, p.2 = some h) → ∃ k, 0 ≤ k ∧ ∀ j, k ≤ j → vsum rs j = wsum rs := fun rs => by
    induction rs with
    | nil => exact fun b _ _ => ⟨0, Int.le_refl _, fun j _ => rfl⟩
    | cons p r ih =>
      intro b ha hc
      obtain ⟨lo, hi⟩ := p
      obtain ⟨h, hh⟩ := hc (lo, hi) List.mem_cons_self
      simp only at hh
      subst hh
      obtain ⟨h1, h2, h3⟩ := ha
      obtain ⟨k, hk0, hk⟩ := ih h h3 fun p hp => hc p (List.mem_cons_of_mem _ hp)
      refine ⟨if k < h then (if h < 0 then 0 else h) else k, by (repeat' split) <;> omega, fun j hj => ?_⟩
      have hj1 : k ≤ j ∧ h ≤ j := by
        revert hj
        (repeat' split) <;> (intro hj; omega)
      show con (lo, some h) j + vsum r j = _
      rw [hk j hj1.1, con_some, show wsum ((lo, some h) :: r) = (h - lo) + wsum r from rfl]
      (repeat' split) <;> omega
  obtain ⟨k, h0, hk⟩ := key rs b ha (closed_some ha hc)
  exact ⟨k, h0, hk k (Int.le_refl _)⟩
theorem bounded {rs : List Pr} {b M : Int} (ha : Asc b rs) (hM : ∀ k, 0 ≤ k → vsum rs k ≤ M) : (∀ lo, ¬ Opn rs lo) ∧ wsum rs ≤ M := by
  have hc : ∀ lo, ¬ Opn rs lo := fun lo ho => by
    have h1 := opn_from ha ho (k := (if lo < 0 then 0 else lo) + (if M < 0 then 0 else M) + 1) (by (repeat' split) <;> omega)
    have h2 := hM ((if lo < 0 then 0 else lo) + (if M < 0 then 0 else M) + 1) (by (repeat' split) <;> omega)
    have h3 := vsum_nn (k := lo) ha
    revert h1 h2
    (repeat' split) <;> (intro h1 h2; omega)
  obtain ⟨k, h0, hk⟩ := wsum_at ha hc
  exact ⟨hc, by rw [← hk]; exact hM k h0⟩
theorem ji_nil : JI [] 0 := ⟨trivial, fun p h => absurd h List.not_mem_nil, .inl rfl, Int.le_refl _⟩
end NM
set_option Elab.async false
set_option linter.all false
/-! one need behind another: what the composed pairs sum to -/
namespace NM
/-- a pair of the outer need that is met between v and st -/
def ov (v : Int) (st : Option Int) (p : Pr) : Bool := (match p.2 with | none => true | some h => decide (v < h)) && (match st with | none => true | some s => decide (p.1 < s))
def clip (v d : Int) (st : Option Int) (p : Pr) : Pr := (d + mxI p.1 v, (soon p.2 st).map fun x => d + x)
def cl (v : Int) (st : Option Int) (x : Int) : Int := if x < v then v else match st with
  | none => x
  | some s => if s < x then s else x
theorem clip_con {p : Pr} {v d k : Int} {st : Option Int} (hp : ∀ x, p.2 = some x → p.1 < x) (hs : ∀ s, st = some s → v < s) : (if ov v st p = true then con (clip v d st p) k else 0) = con p (cl v st (k - d)) - con p v := by
  obtain ⟨lo, hi⟩ := p
  cases hi with
  | none =>
    cases st with
    | none =>
      rw [if_pos (show ov v none (lo, none) = true from rfl)]
      show con (d + mxI lo v, none) k = con (lo, none) (if k - d < v then v else k - d) - con (lo, none) v
      rw [con_none, con_none, con_none]
      unfold mxI
      (repeat' split) <;> omega
    | some s =>
      have h1 := hs s rfl
      show (if decide (lo < s) = true then con (d + mxI lo v, some (d + s)) k else 0) = con (lo, none) (if k - d < v then v else if s < k - d then s else k - d) - con (lo, none) v
      rw [con_none, con_none, con_some]
      unfold mxI
      by_cases h2 : lo < s
      · rw [if_pos (by simpa using h2)]
        (repeat' split) <;> omega
      · rw [if_neg (by simpa using h2)]
        (repeat' split) <;> omega
  | some x =>
    have h0 := hp x rfl
    simp only at h0
    cases st with
    | none =>
      show (if (decide (v < x) && true) = true then con (d + mxI lo v, some (d + x)) k else 0) = con (lo, some x) (if k - d < v then v else k - d) - con (lo, some x) v
      rw [con_some, con_some, con_some]
      unfold mxI
      by_cases h2 : v < x
      · rw [if_pos (by simpa using h2)]
        (repeat' split) <;> omega
      · rw [if_neg (by simpa using h2)]
        (repeat' split) <;> omega
    | some s =>
      have h1 := hs s rfl
      show (if (decide (v < x) && decide (lo < s)) = true then con (d + mxI lo v, some (d + (if s < x then s else x))) k else 0) = con (lo, some x) (if k - d < v then v else if s < k - d then s else k - d) - con (lo, some x) v
      rw [con_some, con_some, con_some]
      unfold mxI
      by_cases h2 : v < x ∧ lo < s
      · rw [if_pos (by simpa using h2)]
        (repeat' split) <;> omega
      · rw [if_neg (by simpa using h2)]
        (repeat' split) <;> omega
def piece (outer : List Pr) (v d : Int) (st : Option Int) : List Pr := (outer.filter (ov v st)).map (clip v d st)
theorem piece_val {v d k : Int} {st : Option Int} (hs : ∀ s, st = some s → v < s) : ∀ {outer : List Pr}, (∀ p ∈ outer, ∀ x, p.2 = some x → p.1 < x) → vsum (piece outer v d st) k = vsum outer (cl v st (k - d)) - vsum outer v
  | [], _ => rfl
  | p :: r, h => by
    have ih := piece_val (d := d) (k := k) hs (outer := r) fun q hq => h q (List.mem_cons_of_mem _ hq)
    have h1 := clip_con (d := d) (k := k) (h p List.mem_cons_self) hs
    unfold piece at ih ⊢
    show vsum _ k = con p (cl v st (k - d)) + vsum r (cl v st (k - d)) - (con p v + vsum r v)
    by_cases ho : ov v st p = true
    · rw [if_pos ho] at h1
      rw [List.filter_cons_of_pos ho, List.map_cons]
      show con (clip v d st p) k + vsum _ k = _
      omega
    · rw [if_neg ho] at h1
      rw [List.filter_cons_of_neg ho]
      omega
/-- the composed pairs -/
def compF (outer : List Pr) : Int → List Pr → List Pr
  | _, [] => []
  | v, (lo, none) :: _ => piece outer v (lo - v) none
  | v, (lo, some hi) :: r => piece outer v (lo - v) (some (v + hi - lo)) ++ compF outer (v + hi - lo) r
theorem compF_zero {outer : List Pr} (ho : ∀ p ∈ outer, ∀ x, p.2 = some x → p.1 < x) : ∀ {inner : List Pr} {b v k : Int}, Asc b inner → k ≤ b + 1 → vsum (compF outer v inner) k = 0
  | [], b, v, k, _, _ => rfl
  | (lo, none) :: r, b, v, k, ha, hk => by
    have h1 := ha.1
    show vsum (piece outer v (lo - v) none) k = 0
    rw [piece_val (fun s h => by cases h) ho, show cl v none (k - (lo - v)) = v by unfold cl; split <;> (try simp only) <;> omega]
    omega
  | (lo, some hi) :: r, b, v, k, ha, hk => by
    obtain ⟨h1, h2, h3⟩ := ha
    show vsum (piece outer v (lo - v) (some (v + hi - lo)) ++ _) k = 0
    rw [vsum_app, piece_val (fun s h => by cases h; omega) ho, compF_zero ho h3 (by omega), show cl v (some (v + hi - lo)) (k - (lo - v)) = v by unfold cl; simp only; (repeat' split) <;> omega]
    omega
theorem compF_val {outer : List Pr} (ho : ∀ p ∈ outer, ∀ x, p.2 = some x → p.1 < x) : ∀ {inner : List Pr} {b v k : Int}, Asc b inner → vsum (compF outer v inner) k = vsum outer (v + vsum inner k) - vsum outer v
  | [], b, v, k, _ => by
    show (0 : Int) = vsum outer (v + 0) - vsum outer v
    rw [Int.add_zero]; omega
  | (lo, none) :: r, b, v, k, ha => by
    obtain ⟨h1, rfl⟩ := ha
    show vsum (piece outer v (lo - v) none) k = vsum outer (v + (con (lo, none) k + 0)) - vsum outer v
    rw [piece_val (fun s h => by cases h) ho, con_none, show cl v none (k - (lo - v)) = v + ((if k ≤ lo then 0 else k - lo) + 0) by unfold cl; simp only; (repeat' split) <;> omega]
  | (lo, some hi) :: r, b, v, k, ha => by
    obtain ⟨h1, h2, h3⟩ := ha
    show vsum (piece outer v (lo - v) (some (v + hi - lo)) ++ _) k = vsum outer (v + (con (lo, some hi) k + vsum r k)) - vsum outer v
    rw [vsum_app, piece_val (fun s h => by cases h; omega) ho, con_some]
    by_cases hk : k ≤ hi
    · rw [compF_zero ho h3 (by omega), vsum_le h3 (by omega), show cl v (some (v + hi - lo)) (k - (lo - v)) = v + ((if k ≤ lo then 0 else if k < hi then k - lo else hi - lo) + 0) by unfold cl; simp only; (repeat' split) <;> omega]
      omega
    · rw [compF_val ho h3, show cl v (some (v + hi - lo)) (k - (lo - v)) = v + hi - lo by unfold cl; simp only; (repeat' split) <;> omega, show v + ((if k ≤ lo then 0 else if k < hi then k - lo else hi - lo) + vsum r k) = v + hi - lo + vsum r k by (repeat' split) <;> omega]
      omega
theorem asc_mem : ∀ {rs : List Pr} {b : Int}, Asc b rs → ∀ p ∈ rs, b < p.1 := fun {rs b} h p hp => by
  obtain ⟨n, hn⟩ := List.getElem?_of_mem hp
  exact asc_lt h hn
theorem piece_asc {v d : Int} {st : Option Int} (hs : ∀ s, st = some s → v < s) : ∀ {outer : List Pr} {c B : Int}, Asc c outer → (∀ p ∈ outer, B < d + mxI p.1 v) → Asc B (piece outer v d st)
  | [], c, B, _, _ => trivial
  | (lo, hi) :: r, c, B, ha, hB => by
    have hB0 := hB (lo, hi) List.mem_cons_self
    simp only at hB0
    by_cases ho : ov v st (lo, hi) = true
    · have e : piece ((lo, hi) :: r) v d st = clip v d st (lo, hi) :: piece r v d st := by unfold piece; rw [List.filter_cons_of_pos ho, List.map_cons]
      rw [e]
      cases hi with
      | none =>
        obtain ⟨h1, rfl⟩ := ha
        cases st with
        | none => exact ⟨hB0, rfl⟩
        | some s =>
          have h3 := hs s rfl
          have h4 : lo < s := by simpa [ov] using ho
          exact ⟨hB0, by show d + mxI lo v < d + s; unfold mxI; split <;> omega, trivial⟩
      | some x =>
        obtain ⟨h1, h2, h3⟩ := ha
        have h5 : ∀ B', B' ≤ d + x → Asc B' (piece r v d st) := fun B' hb => piece_asc hs h3 fun q hq => by
          have := asc_mem h3 q hq
          unfold mxI
          split <;> omega
        cases st with
        | none =>
          have h4 : v < x := by simpa [ov] using ho
          exact ⟨hB0, by show d + mxI lo v < d + x; unfold mxI; split <;> omega, h5 _ (Int.le_refl _)⟩
        | some s =>
          have h6 := hs s rfl
          have h4 : v < x ∧ lo < s := by simpa [ov] using ho
          refine ⟨hB0, ?_, h5 _ ?_⟩
          · show d + mxI lo v < d + (if s < x then s else x)
            unfold mxI
            (repeat' split) <;> omega
          · show d + (if s < x then s else x) ≤ d + x
            split <;> omega
    · have e : piece ((lo, hi) :: r) v d st = piece r v d st := by unfold piece; rw [List.filter_cons_of_neg ho]
      rw [e]
      cases hi with
      | none =>
        obtain ⟨h1, rfl⟩ := ha
        exact trivial
      | some x => exact piece_asc hs ha.2.2 fun q hq => hB q (List.mem_cons_of_mem _ hq)
theorem piece_high {v d s : Int} {outer : List Pr} : ∀ p ∈ piece outer v d (some s), ∃ h, p.2 = some h ∧ h ≤ d + s := fun p hp => by
  obtain ⟨q, hq, rfl⟩ := List.mem_map.mp hp
  obtain ⟨lo, hi⟩ := q
  cases hi with
  | none => exact ⟨d + s, rfl, Int.le_refl _⟩
  | some x =>
    refine ⟨d + (if s < x then s else x), rfl, ?_⟩
    split <;> omega
theorem asc_app : ∀ {a b : List Pr} {c m : Int}, Asc c a → (∀ p ∈ a, ∃ h, p.2 = some h ∧ h ≤ m) → Asc m b → c ≤ m → Asc c (a ++ b)
  | [], b, c, m, _, _, hb, hm => hb.mono hm
  | (lo, none) :: r, b, c, m, ha, hc, hb, hm => by
    obtain ⟨h, e, _⟩ := hc (lo, none) List.mem_cons_self
    cases e
  | (lo, some x) :: r, b, c, m, ha, hc, hb, hm => by
    obtain ⟨h, e, h2⟩ := hc (lo, some x) List.mem_cons_self
    cases e
    exact ⟨ha.1, ha.2.1, asc_app ha.2.2 (fun p hp => hc p (List.mem_cons_of_mem _ hp)) hb h2⟩
theorem compF_asc {outer : List Pr} {c : Int} (ho : Asc c outer) : ∀ {inner : List Pr} {b v : Int}, Asc b inner → Asc b (compF outer v inner)
  | [], b, v, _ => trivial
  | (lo, none) :: r, b, v, ha => piece_asc (fun s h => by cases h) ho fun p hp => by
      have := ha.1
      unfold mxI
      split <;> omega
  | (lo, some hi) :: r, b, v, ha => by
    obtain ⟨h1, h2, h3⟩ := ha
    have g1 : Asc b (piece outer v (lo - v) (some (v + hi - lo))) := piece_asc (fun s h => by cases h; omega) ho fun p hp => by
      unfold mxI
      split <;> omega
    exact asc_app g1 (fun p hp => by obtain ⟨h, e, h4⟩ := piece_high p hp; exact ⟨h, e, by omega⟩) (compF_asc ho h3) (show b ≤ hi by omega)
/-! ### how many pairs -/
def alive (v : Int) (p : Pr) : Bool := match p.2 with
  | none => true
  | some h => decide (v < h)
theorem alive_mono {v w : Int} (h : v ≤ w) : ∀ outer : List Pr, (outer.filter (alive w)).length ≤ (outer.filter (alive v)).length
  | [] => Nat.le_refl _
  | p :: r => by
    have ih := alive_mono h r
    by_cases h1 : alive w p = true
    · have h2 : alive v p = true := by
        obtain ⟨lo, hi⟩ := p
        cases hi with
        | none => rfl
        | some x =>
          have : w < x := by simpa [alive] using h1
          show decide (v < x) = true
          simp
          omega
      rw [List.filter_cons_of_pos h1, List.filter_cons_of_pos h2, List.length_cons, List.length_cons]
      omega
    · rw [List.filter_cons_of_neg h1]
      by_cases h2 : alive v p = true
      · rw [List.filter_cons_of_pos h2, List.length_cons]; omega
      · rw [List.filter_cons_of_neg h2]; exact ih
theorem ov_far {v s : Int} : ∀ {outer : List Pr}, (∀ p ∈ outer, s ≤ p.1) → (outer.filter (ov v (some s))).length = 0
  | [], _ => rfl
  | p :: r, h => by
    have h1 := h p List.mem_cons_self
    have h2 : ¬ ov v (some s) p = true := by
      unfold ov
      simp
      intro _
      omega
    rw [List.filter_cons_of_neg h2]
    exact ov_far fun q hq => h q (List.mem_cons_of_mem _ hq)
theorem split_len {v s : Int} (hvs : v < s) : ∀ {outer : List Pr} {c : Int}, Asc c outer → (outer.filter (ov v (some s))).length + (outer.filter (alive s)).length ≤ (outer.filter (alive v)).length + 1
  | [], c, _ => by simp
  | (lo, none) :: r, c, ha => by
    obtain ⟨h1, rfl⟩ := ha
    have h2 : ([(lo, none)].filter (ov v (some s)) : List Pr).length ≤ 1 := List.length_filter_le _ _
    have h3 : ([(lo, none)].filter (alive s) : List Pr).length ≤ 1 := List.length_filter_le _ _
    have h4 : ([(lo, none)].filter (alive v) : List Pr).length = 1 := rfl
    omega
  | (lo, some x) :: r, c, ha => by
    obtain ⟨h1, h2, h3⟩ := ha
    have ih := split_len hvs h3
    rcases Int.lt_or_le s x with hx | hx
    · have f0 : (r.filter (ov v (some s))).length = 0 := ov_far fun q hq => by have := asc_mem h3 q hq; omega
      have f1 := alive_mono (Int.le_of_lt hvs) r
      have a1 : alive s (lo, some x) = true := by show decide (s < x) = true; simpa using hx
      have a2 : alive v (lo, some x) = true := by show decide (v < x) = true; simp; omega
      rw [List.filter_cons_of_pos a1, List.filter_cons_of_pos a2, List.length_cons, List.length_cons]
      by_cases ho : ov v (some s) (lo, some x) = true
      · rw [List.filter_cons_of_pos ho, List.length_cons]; omega
      · rw [List.filter_cons_of_neg ho]; omega
    · have a1 : ¬ alive s (lo, some x) = true := by show ¬ decide (s < x) = true; simp; omega
      rw [List.filter_cons_of_neg a1]
      rcases Int.lt_or_le v x with hv | hv
      · have a2 : alive v (lo, some x) = true := by show decide (v < x) = true; simpa using hv
        rw [List.filter_cons_of_pos a2, List.length_cons]
        by_cases ho : ov v (some s) (lo, some x) = true
        · rw [List.filter_cons_of_pos ho, List.length_cons]; omega
        · rw [List.filter_cons_of_neg ho]; omega
      · have a2 : ¬ alive v (lo, some x) = true := by show ¬ decide (v < x) = true; simp; omega
        have ho : ¬ ov v (some s) (lo, some x) = true := by
          show ¬ (decide (v < x) && decide (lo < s)) = true
          simp
          omega
        rw [List.filter_cons_of_neg a2, List.filter_cons_of_neg ho]
        exact ih
theorem ov_none (v : Int) (p : Pr) : ov v none p = alive v p := by
  obtain ⟨lo, hi⟩ := p
  cases hi <;> simp [ov, alive]
theorem compF_len {outer : List Pr} {c : Int} (ho : Asc c outer) : ∀ {inner : List Pr} {b v : Int}, Asc b inner → (compF outer v inner).length ≤ (outer.filter (alive v)).length + inner.length
  | [], b, v, _ => Nat.zero_le _
  | (lo, none) :: r, b, v, _ => by
    show ((outer.filter (ov v none)).map _).length ≤ _
    rw [List.length_map, show ov v none = alive v from funext fun p => ov_none v p]
    omega
  | (lo, some hi) :: r, b, v, ha => by
    obtain ⟨h1, h2, h3⟩ := ha
    have ih := compF_len ho (v := v + hi - lo) h3
    have h4 := split_len (v := v) (s := v + hi - lo) (by omega) ho
    show (piece outer v (lo - v) (some (v + hi - lo)) ++ _).length ≤ _
    rw [List.length_append, List.length_cons]
    have h5 : (piece outer v (lo - v) (some (v + hi - lo))).length = (outer.filter (ov v (some (v + hi - lo)))).length := List.length_map _
    omega
theorem compF_len2 {outer inner : List Pr} {b c v : Int} (ho : Asc c outer) (hi : Asc b inner) : (compF outer v inner).length ≤ outer.length + inner.length := by
  have h1 := compF_len (v := v) ho hi
  have h2 := List.length_filter_le (alive v) outer
  omega
/-- what the inner while finds -/
theorem piece_split {outer A B C : List Pr} {v d : Int} {st : Option Int} (e : outer = A ++ B ++ C) (hA : ∀ p ∈ A, ∃ h, p.2 = some h ∧ h ≤ v) (hB : ∀ p ∈ B, ov v st p = true) (hC : ∀ p ∈ C, ∃ s, st = some s ∧ s ≤ p.1) : piece outer v d st = B.map (clip v d st) := by
  subst e
  unfold piece
  have fA : A.filter (ov v st) = [] := List.filter_eq_nil_iff.mpr fun p hp => by
    obtain ⟨h, e, h1⟩ := hA p hp
    obtain ⟨lo, hi⟩ := p
    simp only at e
    subst e
    unfold ov
    simp
    intro _
    omega
  have fC : C.filter (ov v st) = [] := List.filter_eq_nil_iff.mpr fun p hp => by
    obtain ⟨s, rfl, h1⟩ := hC p hp
    unfold ov
    simp
    intro _
    omega
  have fB : B.filter (ov v st) = B := List.filter_eq_self.mpr hB
  rw [List.filter_append, List.filter_append, fA, fB, fC, List.append_nil, List.nil_append]
/-- behind the first pair that lives, all live -/
theorem alive_from {outer : List Pr} {b v : Int} {n j : Nat} {p q : Pr} (h : Asc b outer) (hn : outer[n]? = some p) (hp : alive v p = true) (hj : outer[j]? = some q) (hnj : n ≤ j) : alive v q = true := by
  rcases Nat.lt_or_eq_of_le hnj with h1 | h1
  · have h2 := asc_sorted h hn hj h1
    obtain ⟨lo, hi⟩ := p
    obtain ⟨lo', hi'⟩ := q
    cases hi' with
    | none => rfl
    | some x =>
      have h3 : lo' < x := asc_lt2 h hj
      cases hi with
      | none =>
        exfalso
        have key : ∀ (rs : List Pr) (b : Int) (n j : Nat) (lo : Int) (q : Pr), Asc b rs → rs[n]? = some (lo, none) → rs[j]? = some q → n < j → False := fun rs => by
          induction rs with
          | nil => intro b n j lo q _ h; simp at h
          | cons a r ih =>
            intro b n j lo q ha hn hj hnj
            obtain ⟨l, u⟩ := a
            cases j with
            | zero => omega
            | succ j =>
              cases u with
              | none =>
                obtain ⟨_, rfl⟩ := ha
                simp at hj
              | some y =>
                cases n with
                | zero => cases hn
                | succ n => exact ih y n j lo q ha.2.2 hn hj (by omega)
        exact key outer b n j lo _ h hn hj h1
      | some y =>
        have h4 : v < y := by simpa [alive] using hp
        have key : ∀ (rs : List Pr) (b : Int) (n j : Nat) (lo y : Int) (q : Pr), Asc b rs → rs[n]? = some (lo, some y) → rs[j]? = some q → n < j → y < q.1 := fun rs => by
          induction rs with
          | nil => intro b n j lo y q _ h; simp at h
          | cons a r ih =>
            intro b n j lo y q ha hn hj hnj
            obtain ⟨l, u⟩ := a
            cases j with
            | zero => omega
            | succ j =>
              cases u with
              | none =>
                obtain ⟨_, rfl⟩ := ha
                simp at hj
              | some z =>
                cases n with
                | zero =>
                  cases hn
                  exact asc_mem ha.2.2 q (List.mem_of_getElem? hj)
                | succ n => exact ih z n j lo y q ha.2.2 hn hj (by omega)
        have h5 := key outer b n j lo y _ h hn hj h1
        show decide (v < x) = true
        simp only at h5
        simp
        omega
  · subst h1
    rw [hn] at hj
    cases hj
    exact hp
end NM
set_option Elab.async false
set_option linter.all false
/-! where one function first lies above another -/
namespace NM
/-- the least place where F lies above G -/
def FirstA (F G : Int → Int) (o : Option Int) : Prop := match o with
  | none => ∀ k, 0 ≤ k → F k ≤ G k
  | some x => 0 ≤ x ∧ G x < F x ∧ ∀ k, 0 ≤ k → k < x → F k ≤ G k
theorem FirstA.uniq {F G : Int → Int} {a b : Option Int} (h : FirstA F G a) (g : FirstA F G b) : a = b := by
  cases a with
  | none =>
    cases b with
    | none => rfl
    | some y => have := h y g.1; have := g.2.1; omega
  | some x =>
    cases b with
    | none => have := g x h.1; have := h.2.1; omega
    | some y =>
      rcases Int.lt_or_le x y with hx | hx
      · have := g.2.2 x h.1 hx; have := h.2.1; omega
      · rcases Int.lt_or_le y x with hy | hy
        · have := h.2.2 y g.1 hy; have := g.2.1; omega
        · rw [show x = y by omega]
/-- both are straight from c to e -/
def Seg (F G : Int → Int) (c : Int) (e : Option Int) (v1 s1 v2 s2 : Int) : Prop := ∀ k, c ≤ k → (∀ x, e = some x → k ≤ x) → F k = v1 + s1 * (k - c) ∧ G k = v2 + s2 * (k - c)
theorem seg_first {F G : Int → Int} {c v1 s1 v2 s2 : Int} {e : Option Int} (h : Seg F G c e v1 s1 v2 s2) (he : ∀ x, e = some x → c ≤ x) (h0 : 0 ≤ c) (hb : ∀ k, 0 ≤ k → k < c → F k ≤ G k) (hv : v1 > v2) : FirstA F G (some c) := by
  obtain ⟨h1, h2⟩ := h c (Int.le_refl _) he
  rw [Int.sub_self, Int.mul_zero, Int.add_zero] at h1 h2
  exact ⟨h0, by omega, hb⟩
theorem seg_met {F G : Int → Int} {c v1 v2 : Int} {e : Option Int} (h : Seg F G c e v1 1 v2 0) (h0 : 0 ≤ c) (hb : ∀ k, 0 ≤ k → k < c → F k ≤ G k) (hv : v1 ≤ v2) (hm : ∀ x, e = some x → c + v2 - v1 + 1 ≤ x) : FirstA F G (some (c + v2 - v1 + 1)) := by
  obtain ⟨h1, h2⟩ := h (c + v2 - v1 + 1) (by omega) hm
  refine ⟨by omega, by rw [h1, h2, Int.one_mul, Int.zero_mul]; omega, fun k hk hk2 => ?_⟩
  rcases Int.lt_or_le k c with h3 | h3
  · exact hb k hk h3
  · obtain ⟨g1, g2⟩ := h k h3 fun x hx => by have := hm x hx; omega
    rw [g1, g2, Int.one_mul, Int.zero_mul]
    omega
theorem seg_not {F G : Int → Int} {c v1 s1 v2 s2 : Int} {e : Option Int} (h : Seg F G c e v1 s1 v2 s2) (h1 : s1 = 0 ∨ s1 = 1) (h2 : s2 = 0 ∨ s2 = 1) (hv : v1 ≤ v2) (hm : s2 < s1 → ∃ x, e = some x ∧ x < c + v2 - v1 + 1) {k : Int} (hk : c ≤ k) (hx : ∀ x, e = some x → k ≤ x) : F k ≤ G k := by
  obtain ⟨g1, g2⟩ := h k hk hx
  rw [g1, g2]
  rcases h1 with rfl | rfl <;> rcases h2 with rfl | rfl
  · omega
  · rw [Int.one_mul, Int.zero_mul]; omega
  · obtain ⟨x, e, h3⟩ := hm (by omega)
    have := hx x e
    rw [Int.one_mul, Int.zero_mul]; omega
  · omega
theorem seg_of {s1 s2 : Int} {r1 r2 : List Pr} {c c' : Int} (a1 : Asc (-1) r1) (a2 : Asc (-1) r2) (hc : c < c') (k1 : ∀ p ∈ r1, Clear p c c') (k2 : ∀ p ∈ r2, Clear p c c') : Seg (NM.val s1 r1) (NM.val s2 r2) c (some c') (NM.val s1 r1 c) (slp r1 c) (NM.val s2 r2 c) (slp r2 c) := fun k hk hx => by
  have hk' := hx c' rfl
  have e1 := vsum_seg hc hk hk' (rs := r1) fun p hp => ⟨k1 p hp, asc_pos a1 p hp⟩
  have e2 := vsum_seg hc hk hk' (rs := r2) fun p hp => ⟨k2 p hp, asc_pos a2 p hp⟩
  unfold NM.val
  rw [e1, e2]
  exact ⟨by omega, by omega⟩
/-- behind the last end the slope stays -/
theorem seg_last {s1 s2 : Int} {r1 r2 : List Pr} {c : Int} (a1 : Asc (-1) r1) (a2 : Asc (-1) r2) (k1 : ∀ p ∈ r1, p.1 ≤ c ∧ ∀ h, p.2 = some h → h ≤ c) (k2 : ∀ p ∈ r2, p.1 ≤ c ∧ ∀ h, p.2 = some h → h ≤ c) : Seg (NM.val s1 r1) (NM.val s2 r2) c none (NM.val s1 r1 c) (slp r1 c) (NM.val s2 r2 c) (slp r2 c) := fun k hk _ => by
  have h := seg_of (s1 := s1) (s2 := s2) (c := c) (c' := k + 1) a1 a2 (by omega) (fun p hp => ⟨.inl (k1 p hp).1, fun h e => .inl ((k1 p hp).2 h e)⟩) (fun p hp => ⟨.inl (k2 p hp).1, fun h e => .inl ((k2 p hp).2 h e)⟩)
  exact h k hk fun x e => by cases e; omega
theorem val_grow {s : Int} {rs : List Pr} {j k : Int} (a : Asc (-1) rs) (h : j ≤ k) : NM.val s rs j ≤ NM.val s rs k ∧ NM.val s rs k ≤ NM.val s rs j + (k - j) := by
  have := lip a h
  unfold NM.val
  omega
/-- what is not above up to far beyond the last end is never above -/
theorem far_not {s1 s2 c M : Int} {r1 r2 : List Pr} (a1 : Asc (-1) r1) (a2 : Asc (-1) r2) (h1 : 0 ≤ s1) (h2 : 0 ≤ s2) (h0 : 0 ≤ c) (hM : s2 + c + 1 < M) (k1 : ∀ p ∈ r1, p.1 ≤ c ∧ ∀ h, p.2 = some h → h ≤ c) (k2 : ∀ p ∈ r2, p.1 ≤ c ∧ ∀ h, p.2 = some h → h ≤ c) (hb : ∀ k, 0 ≤ k → k < c + M → NM.val s1 r1 k ≤ NM.val s2 r2 k) : ∀ k, 0 ≤ k → NM.val s1 r1 k ≤ NM.val s2 r2 k := fun k hk => by
  rcases Int.lt_or_le k c with h | h
  · exact hb k hk (by omega)
  · have sg := seg_last (s1 := s1) (s2 := s2) a1 a2 k1 k2
    have z1 := val_zero (s := s1) a1
    have z2 := val_zero (s := s2) a2
    have g1 := (val_grow (s := s1) a1 h0).1
    have g2 := (val_grow (s := s2) a2 h0).2
    have hc := hb c h0 (by omega)
    refine seg_not sg (slp_01 a1) (slp_01 a2) hc (fun hs => ?_) h (fun x e => by cases e)
    exfalso
    rcases slp_01 (k := c) a1 with e1 | e1 <;> rcases slp_01 (k := c) a2 with e2 | e2 <;> rw [e1, e2] at hs sg <;> try omega
    obtain ⟨f1, f2⟩ := sg (c + M - 1) (by omega) (fun x e => by cases e)
    have := hb (c + M - 1) (by omega) (by omega)
    rw [f1, f2, Int.one_mul, Int.zero_mul] at this
    omega
end NM
namespace NM
/-- where it rises for the n-th time -/
def riseF : List Pr → Int → Option Int
  | [], _ => none
  | (lo, none) :: _, n => some (lo + n)
  | (lo, some h) :: r, n => if n < h - lo then some (lo + n) else riseF r (n - (h - lo))
theorem rise_some : ∀ {rs : List Pr} {b n x : Int}, Asc b rs → 0 ≤ n → riseF rs n = some x → b < x ∧ vsum rs x = n ∧ vsum rs (x + 1) = n + 1
  | [], b, n, x, _, _, h => by cases h
  | (lo, none) :: r, b, n, x, ha, h0, h => by
    obtain ⟨h1, rfl⟩ := ha
    cases h
    refine ⟨by omega, ?_, ?_⟩
    · show con _ _ + 0 = _
      rw [con_none]; split <;> omega
    · show con _ _ + 0 = _
      rw [con_none]; split <;> omega
  | (lo, some g) :: r, b, n, x, ha, h0, h => by
    obtain ⟨h1, h2, h3⟩ := ha
    unfold riseF at h
    by_cases hn : n < g - lo
    · rw [if_pos hn] at h
      cases h
      refine ⟨by omega, ?_, ?_⟩
      · show con _ _ + vsum r _ = _
        rw [vsum_le h3 (by omega), con_some]; (repeat' split) <;> omega
      · show con _ _ + vsum r _ = _
        rw [vsum_le h3 (by omega), con_some]; (repeat' split) <;> omega
    · rw [if_neg hn] at h
      obtain ⟨g1, g2, g3⟩ := rise_some h3 (by omega) h
      refine ⟨by omega, ?_, ?_⟩
      · show con _ _ + vsum r _ = _
        rw [g2, con_some]; (repeat' split) <;> omega
      · show con _ _ + vsum r _ = _
        rw [g3, con_some]; (repeat' split) <;> omega
theorem rise_none : ∀ {rs : List Pr} {b n : Int}, Asc b rs → 0 ≤ n → riseF rs n = none → ∀ k, vsum rs k ≤ n
  | [], b, n, _, h0, _, k => h0
  | (lo, none) :: r, b, n, ha, h0, h, k => by cases h
  | (lo, some g) :: r, b, n, ha, h0, h, k => by
    obtain ⟨h1, h2, h3⟩ := ha
    unfold riseF at h
    by_cases hn : n < g - lo
    · rw [if_pos hn] at h; cases h
    · rw [if_neg hn] at h
      have := rise_none h3 (by omega) h k
      show con _ _ + vsum r _ ≤ _
      rw [con_some]; (repeat' split) <;> omega
end NM
set_option Elab.async false
set_option linter.all false
/-! two lists of pairs with the same sums are one; how far the ends are; least and greatest of two, None the greatest -/
namespace NM
theorem low_zero {rs : List Pr} {b k : Int} (h : Asc b rs) (hk : k ≤ b + 1) : vsum rs k = 0 := vsum_le h hk
theorem asc_uniq : ∀ {r1 r2 : List Pr} {b : Int}, Asc b r1 → Asc b r2 → (∀ k, b + 1 ≤ k → vsum r1 k = vsum r2 k) → r1 = r2
  | [], [], _, _, _, _ => rfl
  | [], (lo, hi) :: r, b, _, h2, he => by
    exfalso
    have hlo : b < lo := by cases hi <;> exact h2.1
    have e := he (lo + 1) (by omega)
    have h3 : 0 ≤ vsum r (lo + 1) := by
      cases hi with
      | none => rw [h2.2]; exact Int.le_refl _
      | some g => exact vsum_nn h2.2.2
    have h4 : con (lo, hi) (lo + 1) = 1 := by
      cases hi with
      | none => rw [con_none]; split <;> omega
      | some g => have := h2.2.1; rw [con_some]; (repeat' split) <;> omega
    have e2 : (0 : Int) = con (lo, hi) (lo + 1) + vsum r (lo + 1) := e
    omega
  | (lo, hi) :: r, [], b, h1, _, he => by
    exfalso
    have hlo : b < lo := by cases hi <;> exact h1.1
    have e := he (lo + 1) (by omega)
    have h3 : 0 ≤ vsum r (lo + 1) := by
      cases hi with
      | none => rw [h1.2]; exact Int.le_refl _
      | some g => exact vsum_nn h1.2.2
    have h4 : con (lo, hi) (lo + 1) = 1 := by
      cases hi with
      | none => rw [con_none]; split <;> omega
      | some g => have := h1.2.1; rw [con_some]; (repeat' split) <;> omega
    have e2 : con (lo, hi) (lo + 1) + vsum r (lo + 1) = (0 : Int) := e
    omega
  | (lo, hi) :: r, (lo', hi') :: r', b, h1, h2, he => by
    have hlo : b < lo := by cases hi <;> exact h1.1
    have hlo' : b < lo' := by cases hi' <;> exact h2.1
    have one : ∀ {lo : Int} {hi : Option Int} {r : List Pr}, Asc b ((lo, hi) :: r) → vsum ((lo, hi) :: r) (lo + 1) = 1 ∧ ∀ k, k ≤ lo → vsum ((lo, hi) :: r) k = 0 := fun {lo hi r} h => by
      cases hi with
      | none =>
        obtain ⟨g1, rfl⟩ := h
        refine ⟨?_, fun k hk => ?_⟩
        · show con (lo, none) (lo + 1) + 0 = 1
          rw [con_none]; split <;> omega
        · show con (lo, none) k + 0 = 0
          rw [con_none]; split <;> omega
      | some g =>
        obtain ⟨g1, g2, g3⟩ := h
        refine ⟨?_, fun k hk => ?_⟩
        · show con (lo, some g) (lo + 1) + vsum r _ = 1
          rw [con_some, vsum_le g3 (by omega)]; (repeat' split) <;> omega
        · show con (lo, some g) k + vsum r _ = 0
          rw [con_some, vsum_le g3 (by omega)]; (repeat' split) <;> omega
    have el : lo = lo' := by
      rcases Int.lt_or_le lo lo' with h | h
      · have e := he (lo + 1) (by omega)
        rw [(one h1).1, (one h2).2 (lo + 1) (by omega)] at e
        omega
      · rcases Int.lt_or_le lo' lo with h' | h'
        · have e := he (lo' + 1) (by omega)
          rw [(one h2).1, (one h1).2 (lo' + 1) (by omega)] at e
          omega
        · omega
    subst el
    cases hi with
    | none =>
      obtain ⟨g1, rfl⟩ := h1
      cases hi' with
      | none =>
        obtain ⟨g2, rfl⟩ := h2
        rfl
      | some g =>
        exfalso
        obtain ⟨g2, g3, g4⟩ := h2
        have e : con (lo, none) (g + 1) + 0 = con (lo, some g) (g + 1) + vsum r' (g + 1) := he (g + 1) (by omega)
        rw [con_none, con_some, vsum_le g4 (by omega)] at e
        revert e
        (repeat' split) <;> omega
    | some h =>
      obtain ⟨g1, g2, g3⟩ := h1
      cases hi' with
      | none =>
        exfalso
        obtain ⟨k2, rfl⟩ := h2
        have e : con (lo, some h) (h + 1) + vsum r (h + 1) = con (lo, none) (h + 1) + 0 := he (h + 1) (by omega)
        rw [con_none, con_some, vsum_le g3 (by omega)] at e
        revert e
        (repeat' split) <;> omega
      | some h' =>
        obtain ⟨k1, k2, k3⟩ := h2
        have eh : h = h' := by
          rcases Int.lt_or_le h h' with q | q
          · exfalso
            have e : con (lo, some h) (h + 1) + vsum r (h + 1) = con (lo, some h') (h + 1) + vsum r' (h + 1) := he (h + 1) (by omega)
            rw [con_some, con_some, vsum_le g3 (by omega), vsum_le k3 (by omega)] at e
            revert e
            (repeat' split) <;> omega
          · rcases Int.lt_or_le h' h with q' | q'
            · exfalso
              have e : con (lo, some h) (h' + 1) + vsum r (h' + 1) = con (lo, some h') (h' + 1) + vsum r' (h' + 1) := he (h' + 1) (by omega)
              rw [con_some, con_some, vsum_le g3 (by omega), vsum_le k3 (by omega)] at e
              revert e
              (repeat' split) <;> omega
            · omega
        subst eh
        have et : r = r' := asc_uniq g3 k3 fun k hk => by
          have e : con (lo, some h) k + vsum r k = con (lo, some h) k + vsum r' k := he k (by omega)
          omega
        rw [et]
/-! ### how far the ends are -/
def Ends_ (rs : List Pr) (M : Int) : Prop := ∀ p ∈ rs, p.1 ≤ M ∧ ∀ h, p.2 = some h → h ≤ M
theorem slp_cons (p : Pr) (r : List Pr) (k : Int) : slp (p :: r) k = (con p (k + 1) - con p k) + slp r k := by
  show con p (k + 1) + vsum r (k + 1) - (con p k + vsum r k) = _
  unfold slp
  omega
/-- behind the ends the slope stays -/
theorem aff_of0 {M k : Int} (hk : M ≤ k) : ∀ {rs : List Pr}, (∀ p ∈ rs, ∀ x, p.2 = some x → p.1 < x) → Ends_ rs M → slp rs k = slp rs M
  | [], _, _ => rfl
  | (lo, hi) :: r, hp, h => by
    have ih := aff_of0 hk (rs := r) (fun p hq => hp p (List.mem_cons_of_mem _ hq)) fun p hp => h p (List.mem_cons_of_mem _ hp)
    have hp0 := hp _ List.mem_cons_self
    obtain ⟨h1, h2⟩ := h _ List.mem_cons_self
    simp only at h1 h2
    rw [slp_cons, slp_cons, ih]
    cases hi with
    | none =>
      rw [con_none, con_none, con_none, con_none]
      (repeat' split) <;> omega
    | some g =>
      have := h2 g rfl
      have := hp0 g rfl
      simp only at this
      rw [con_some, con_some, con_some, con_some]
      (repeat' split) <;> omega
theorem aff_of {rs : List Pr} {b M k : Int} (a : Asc b rs) (hk : M ≤ k) (h : Ends_ rs M) : slp rs k = slp rs M := aff_of0 hk (asc_pos a) h
theorem slp_low {rs : List Pr} {b k : Int} (h : Asc b rs) (hk : k ≤ b) : slp rs k = 0 := by
  unfold slp
  rw [vsum_le h (by omega), vsum_le h (by omega)]
  omega
/-- the slope at the ends of a pair -/
theorem slp_mem : ∀ {rs : List Pr} {b : Int}, Asc b rs → ∀ p ∈ rs, slp rs p.1 = 1 ∧ slp rs (p.1 - 1) = 0 ∧ ∀ h, p.2 = some h → slp rs h = 0 ∧ slp rs (h - 1) = 1
  | [], _, _, p, hp => by cases hp
  | (lo, none) :: r, b, ha, p, hp => by
    obtain ⟨h1, rfl⟩ := ha
    rw [List.mem_singleton.mp hp]
    refine ⟨?_, ?_, fun h e => by cases e⟩
    · rw [slp_cons, con_none, con_none]
      show _ + (0 - 0 : Int) = _
      (repeat' split) <;> omega
    · rw [slp_cons, con_none, con_none]
      show _ + (0 - 0 : Int) = _
      (repeat' split) <;> omega
  | (lo, some g) :: r, b, ha, p, hp => by
    obtain ⟨h1, h2, h3⟩ := ha
    rcases List.mem_cons.mp hp with rfl | hp
    · refine ⟨?_, ?_, fun h e => ?_⟩
      · rw [slp_cons, con_some, con_some, slp_low h3 (by simp only; omega)]
        simp only
        (repeat' split) <;> omega
      · rw [slp_cons, con_some, con_some, slp_low h3 (by simp only; omega)]
        simp only
        (repeat' split) <;> omega
      · cases e
        refine ⟨?_, ?_⟩
        · rw [slp_cons, con_some, con_some, slp_low h3 (by omega)]
          (repeat' split) <;> omega
        · rw [slp_cons, con_some, con_some, slp_low h3 (by omega)]
          (repeat' split) <;> omega
    · obtain ⟨g1, g2, g3⟩ := slp_mem h3 p hp
      have hl := asc_mem h3 p hp
      refine ⟨?_, ?_, fun h e => ?_⟩
      · rw [slp_cons, con_some, con_some, g1]
        (repeat' split) <;> omega
      · rw [slp_cons, con_some, con_some, g2]
        (repeat' split) <;> omega
      · have hh := asc_pos h3 p hp h e
        obtain ⟨k1, k2⟩ := g3 h e
        refine ⟨?_, ?_⟩
        · rw [slp_cons, con_some, con_some, k1]
          (repeat' split) <;> omega
        · rw [slp_cons, con_some, con_some, k2]
          (repeat' split) <;> omega
/-- where the slope stays there are no ends -/
theorem ends_of {rs : List Pr} {b M : Int} (ha : Asc b rs) (h : ∀ k, M ≤ k → slp rs k = slp rs M) : Ends_ rs M := fun p hp => by
  obtain ⟨g1, g2, g3⟩ := slp_mem ha p hp
  refine ⟨?_, fun x hx => ?_⟩
  · rcases Int.lt_or_le M p.1 with q | q
    · have e1 := h p.1 (by omega)
      have e2 := h (p.1 - 1) (by omega)
      omega
    · exact q
  · obtain ⟨k1, k2⟩ := g3 x hx
    rcases Int.lt_or_le M x with q | q
    · have e1 := h x (by omega)
      have e2 := h (x - 1) (by omega)
      omega
    · exact q
/-- straight behind M -/
theorem val_aff {s b M k : Int} {rs : List Pr} (a : Asc b rs) (h : Ends_ rs M) (hk : M ≤ k) : NM.val s rs k = NM.val s rs M + slp rs M * (k - M) := by
  have key : ∀ n : Nat, NM.val s rs (M + n) = NM.val s rs M + slp rs M * (n : Int) := fun n => by
    induction n with
    | zero => simp
    | succ n ih =>
      have e := aff_of (k := M + n) a (by omega) h
      have e2 : NM.val s rs (M + (n + 1 : Nat)) = NM.val s rs (M + n) + slp rs (M + n) := by
        unfold NM.val slp
        rw [show M + ((n + 1 : Nat) : Int) = M + n + 1 by omega]
        omega
      rw [e2, ih, e, show ((n + 1 : Nat) : Int) = n + 1 by omega, Int.mul_add, Int.mul_one]
      omega
  have := key (k - M).toNat
  rw [show M + ((k - M).toNat : Int) = k by omega, show ((k - M).toNat : Int) = k - M by omega] at this
  exact this
/-- the ends of what is composed -/
theorem ends_comp {s1 s2 s M : Int} {r1 r2 rs : List Pr} (a : Asc (-1) rs) (a1 : Asc (-1) r1) (a2 : Asc (-1) r2) (h2 : 0 ≤ s2) (hM : 0 ≤ M) (e1 : Ends_ r1 M) (e2 : Ends_ r2 M) (hv : ∀ k, 0 ≤ k → NM.val s rs k = NM.val s1 r1 (NM.val s2 r2 k)) : Ends_ rs (2 * M) := by
  refine ends_of a fun k hk => ?_
  have sv : ∀ k, 0 ≤ k → slp rs k = NM.val s1 r1 (NM.val s2 r2 (k + 1)) - NM.val s1 r1 (NM.val s2 r2 k) := fun k h0 => by
    rw [← hv k h0, ← hv (k + 1) (by omega)]
    unfold NM.val slp
    omega
  have st : ∀ k, NM.val s2 r2 (k + 1) = NM.val s2 r2 k + slp r2 k := fun k => by unfold NM.val slp; omega
  have st1 : ∀ k, NM.val s1 r1 (k + 1) = NM.val s1 r1 k + slp r1 k := fun k => by unfold NM.val slp; omega
  rw [sv k (by omega), sv (2 * M) (by omega), st, st, aff_of (M := M) a2 (by omega) e2, aff_of (M := M) (k := 2 * M) a2 (by omega) e2]
  rcases slp_01 (k := M) a2 with q | q
  · rw [q, Int.add_zero, Int.add_zero]; omega
  · rw [q, st1, st1]
    have g0 := (val_grow (s := s2) a2 hM).1
    rw [val_zero a2] at g0
    have v1 := val_aff (s := s2) a2 e2 (show M ≤ k by omega)
    have v2 := val_aff (s := s2) a2 e2 (show M ≤ 2 * M by omega)
    rw [q, Int.one_mul] at v1 v2
    rw [aff_of (M := M) a1 (by omega) e1, aff_of (M := M) (k := NM.val s2 r2 (2 * M)) a1 (by omega) e1]
    omega
/-- the ends of the smaller of two, of the greater of two -/
theorem ends_mn {s1 s2 s M : Int} {r1 r2 rs : List Pr} (a : Asc (-1) rs) (a1 : Asc (-1) r1) (a2 : Asc (-1) r2) (h1 : 0 ≤ s1) (h2 : 0 ≤ s2) (b1 : s1 ≤ M) (b2 : s2 ≤ M) (e1 : Ends_ r1 M) (e2 : Ends_ r2 M) (hv : (∀ k, 0 ≤ k → NM.val s rs k = mnI (NM.val s1 r1 k) (NM.val s2 r2 k)) ∨ ∀ k, 0 ≤ k → NM.val s rs k = mxI (NM.val s1 r1 k) (NM.val s2 r2 k)) : Ends_ rs (4 * M) := by
  have hM : 0 ≤ M := by omega
  refine ends_of a fun k hk => ?_
  have sv : ∀ k, slp rs k = NM.val s rs (k + 1) - NM.val s rs k := fun k => by unfold NM.val slp; omega
  have g1 := val_grow (s := s1) a1 hM
  have g2 := val_grow (s := s2) a2 hM
  rw [val_zero a1] at g1
  rw [val_zero a2] at g2
  have u1 := val_aff (s := s1) a1 e1 (show M ≤ k by omega)
  have u2 := val_aff (s := s2) a2 e2 (show M ≤ k by omega)
  have u3 := val_aff (s := s1) a1 e1 (show M ≤ k + 1 by omega)
  have u4 := val_aff (s := s2) a2 e2 (show M ≤ k + 1 by omega)
  have u5 := val_aff (s := s1) a1 e1 (show M ≤ 4 * M by omega)
  have u6 := val_aff (s := s2) a2 e2 (show M ≤ 4 * M by omega)
  have u7 := val_aff (s := s1) a1 e1 (show M ≤ 4 * M + 1 by omega)
  have u8 := val_aff (s := s2) a2 e2 (show M ≤ 4 * M + 1 by omega)
  rw [sv, sv]
  rcases hv with hv | hv
  all_goals
    rw [hv k (by omega), hv (k + 1) (by omega), hv (4 * M) (by omega), hv (4 * M + 1) (by omega), u1, u2, u3, u4, u5, u6, u7, u8]
    rcases slp_01 (k := M) a1 with q1 | q1 <;> rcases slp_01 (k := M) a2 with q2 | q2 <;> rw [q1, q2] <;> simp only [Int.zero_mul, Int.one_mul]
    all_goals
      first | unfold mnI | unfold mxI
      (repeat' split) <;> omega
theorem flat_far {M : Int} : ∀ {rs : List Pr} {b n x : Int}, Ends_ rs M → b ≤ M → 0 ≤ n → (∀ lo hi r, rs = (lo, hi) :: r → b ≤ lo) → Asc (b - 1) rs → flatF rs b n = some x → x ≤ M + n
  | [], b, n, x, _, hb, hn, _, _, h => by cases h; omega
  | (lo, none) :: r, b, n, x, e, hb, hn, _, _, h => by
    unfold flatF at h
    split at h
    · cases h; omega
    · cases h
  | (lo, some g) :: r, b, n, x, e, hb, hn, hl, ha, h => by
    obtain ⟨h1, h2, h3⟩ := ha
    unfold flatF at h
    split at h
    · cases h; omega
    · have h4 := (e _ List.mem_cons_self).2 g rfl
      have := flat_far (rs := r) (fun p hp => e p (List.mem_cons_of_mem _ hp)) h4 (by omega) (fun lo' hi' r' e => by
        have := asc_mem h3 (lo', hi') (by rw [e]; simp)
        omega) (h3.mono (by omega)) h
      omega
/-! ### least and greatest, None the greatest -/
theorem soon_self (a : Option Int) : soon a a = a := by
  cases a with
  | none => rfl
  | some x => show some (if x < x then x else x) = _; simp
theorem soon_comm (a b : Option Int) : soon a b = soon b a := by
  cases a <;> cases b <;> try rfl
  rename_i x y
  show some (if y < x then y else x) = some (if x < y then x else y)
  congr 1
  (repeat' split) <;> omega
theorem soon_assoc (a b c : Option Int) : soon (soon a b) c = soon a (soon b c) := by
  cases a <;> cases b <;> cases c <;> try rfl
  rename_i x y z
  show some (if z < (if y < x then y else x) then z else (if y < x then y else x)) = some (if (if z < y then z else y) < x then (if z < y then z else y) else x)
  congr 1
  (repeat' split) <;> omega
end NM
set_option Elab.async false
set_option linter.all false
set_option maxRecDepth 100000
set_option maxHeartbeats 4000000
namespace K21
open PySem PySem.Spec PyProof.Rows L2 DL
def topS (i : Nat) : Stmt := PySem.Challenge.pw_signedpacts_k21_whole_need_algebra.main.body.getD i (.Pass ⟨0, 0, 0, 0⟩)
structure Txt (K : PySem.W.Frag) (mg : Str → Option Value) (cNeed : Addr) : Prop where
  cl_Need : Cls K cNeed
  mg_Need : mg "Need" = some (.ref cNeed)
  sf_Need : PySem.W.selfFirst K cNeed = true
  nf_Need : PySem.W.notFirst K cNeed (.ref cNeed) = true
  is_Need : C8.InsC K cNeed
  n_Need_start : NoAttr K cNeed "start"
  n_Need_rises : NoAttr K cNeed "rises"
  n_Need_never : NoAttr K cNeed "never"
  n_Need__values : NoAttr K cNeed "_values"
  oi_Need_m___mul__ : OwnI K cNeed "__mul__" "__rmul__"
/-- a list or a tuple -/
def sq (t : Bool) (ps : List P) : P := if t then .tup ps else .lst ps
theorem pseq_sq (t : Bool) (ps : List P) : pseq (sq t ps) = some ps := by cases t <;> rfl
abbrev pR (t : Bool) (rs : List (List Int)) : List P := rs.map fun r => sq t (pI r)
theorem ixN_m1 {n : Nat} (h : 0 < n) : ixN n (-1) = some (n - 1) := by
  unfold ixN
  rw [if_neg (by decide), if_pos (by omega)]
  congr 1
  omega
theorem ixN_0 {n : Nat} (h : 0 < n) : ixN n 0 = some 0 := by
  unfold ixN
  rw [if_pos (by decide), if_pos (by omega)]
  rfl
theorem atI_m1 {α : Type} {xs : List α} {x : α} (h : xs[xs.length - 1]? = some x) : atI xs (-1) = some x := by
  unfold atI
  rw [ixN_m1 (by cases xs with | nil => cases h | cons => exact Nat.succ_pos _)]
  exact h
theorem atI_0 {α : Type} {xs : List α} {x : α} (h : xs[0]? = some x) : atI xs 0 = some x := by
  unfold atI
  rw [ixN_0 (by cases xs with | nil => cases h | cons => exact Nat.succ_pos _)]
  exact h
theorem last_map {α β : Type} {f : α → β} {xs : List α} {x : α} (h : xs[xs.length - 1]? = some x) : (xs.map f)[(xs.map f).length - 1]? = some (f x) := by
  rw [List.length_map, List.getElem?_map, h]; rfl
theorem fst_map {α β : Type} {f : α → β} {xs : List α} {x : α} (h : xs[0]? = some x) : (xs.map f)[0]? = some (f x) := by
  rw [List.getElem?_map, h]; rfl
theorem shp_rows (rs : List (List Int)) : Shp (.lst (rs.map fun r => P.lst (pI r))) 2 := .lst fun r _ => shp_ints r
theorem shp_trows (rs : List (List Int)) : Shp (.tup (rs.map fun r => P.tup (pI r))) 2 := .tup fun r _ => shp_tints r
theorem frz_oll (rows : List (List Int)) : (D.oll (rows.map pI)).frz = sq false (pR false rows) := by
  show P.lst (List.map P.lst (List.map pI rows)) = P.lst _
  rw [List.map_map]; rfl
theorem shp_oll (rs : List (List Int)) : Shp (D.oll (rs.map pI)).frz 2 := by rw [frz_oll]; exact shp_rows rs
theorem neqv {p : P} {n : Nat} (h : Shp p n) (g : (!PyData.eqv p.toD p.toD) = true) : False := by
  rw [h.refl] at g; exact Bool.noConfusion g
theorem tupO_pI : ∀ xs : List Int, tupO (.tup (pI xs))
  | [] => trivial
  | _ :: xs => ⟨trivial, tupO_pI xs⟩
theorem atIr {ps : List P} {k : Int} {p : P} (h : atI ps k = some p) : atI ps k = some p := h
theorem lookR {fs : List (Str × P)} {f : Str} {p : P} (h : fs.lookup f = some p) : fs.lookup f = some p := h
theorem look_hit {f g : Str} {p : P} {r : List (Str × P)} (h : (f == g) = true) : ((g, p) :: r).lookup f = some p := by rw [List.lookup, h]
theorem look_miss {f g : Str} {p : P} {r : List (Str × P)} {o : Option P} (h : (f == g) = false) (k : r.lookup f = o) : ((g, p) :: r).lookup f = o := by rw [List.lookup, h]; exact k
local macro_rules | `(tactic| walk_at "lk") => `(tactic| repeat' (first | exact look_hit (by decide +kernel) | refine look_miss (by decide +kernel) ?_ | exact rfl))
local macro_rules | `(tactic| walk_at "ok") => `(tactic| first | ((with_reducible show SeqAt.shaped _ = true); first | exact (shp_ints _).ok | exact (shp_tints _).ok | exact (shp_rows _).ok | exact (shp_trows _).ok | exact (shp_oll _).ok) | ((with_reducible show (_ : Bool) = true); rfl) | ((with_reducible show slots _ = _); rfl) | ((with_reducible show List.length _ = _); rfl) | ((with_reducible show _ ≤ sizeLine); first | decide | (rw [sizeLine_eq]; first | omega | (simp only [List.length_map, List.length_append, List.length_cons, List.length_nil, List.length_take]; omega))) | ((with_reducible show _ < sizeLine); first | decide | (rw [sizeLine_eq]; first | omega | (simp only [List.length_map, List.length_append, List.length_cons, List.length_nil, List.length_take]; omega))) | ((with_reducible show CDivW _ _); refine cdiv_of ?_ ?_ <;> omega) | ((with_reducible show CMulW _ _); refine cmul64 ⟨?_, ?_⟩ ⟨?_, ?_⟩ <;> omega) | ((with_reducible show (0 : Int) < _); first | decide | omega) | ((with_reducible show (_ ∧ _)); exact ⟨rfl, rfl⟩) | (with_reducible assumption) | ((with_reducible show CPow _ _); exact ⟨by decide, by decide, by decide⟩) | ((with_reducible show ClsA _ _ _); assumption) | ((with_reducible show C8.InsC _ _); assumption) | ((with_reducible show List.lookup _ _ = none); walk_at "lk") | ((with_reducible show List.length _ < 1000); exact Nat.le_of_ble_eq_true rfl) | (with_reducible rfl) | omega)
local macro_rules | `(tactic| walk_at "go") => `(tactic| ((repeat ((conv => whnf); refine And.intro (by walk_at "ok") ?_)); (try (conv => whnf))))
local macro_rules | `(tactic| walk_at "sp") => `(tactic| ((with_reducible show (_ = true → _) ∧ (_ = false → _)); refine And.intro (fun hc => ?_) (fun hc => ?_) <;> (first | exact Bool.noConfusion hc | (simp only [decide_eq_true_eq, decide_eq_false_iff_not, Bool.not_eq_true', Bool.not_eq_false', Int.not_lt, Int.not_le] at hc) | skip)))
local macro_rules | `(tactic| walk_at "ix") => `(tactic| first | ((with_reducible show ∃ p, atI (_ :: _) _ = some p ∧ _); refine ⟨_, atIr rfl, ?_⟩) | ((with_reducible show ∃ p, List.lookup _ _ = some p ∧ _); refine ⟨_, lookR (by walk_at "lk"), ?_⟩))
local macro_rules | `(tactic| walk_at "au") => `(tactic| ((walk_at "go"); repeat' (first | ((walk_at "sp") <;> (walk_at "go")) | ((walk_at "ix"); (walk_at "go")))))
local macro_rules | `(tactic| walk_at "ax") => `(tactic| ((walk_at "au"); all_goals (try (exfalso; omega))))
/-- an int that no product makes too great -/
def Sm (x : Int) : Prop := -(2 ^ 1000 : Int) < x ∧ x < 2 ^ 1000
theorem sm_mul {a b : Int} (ha : Sm a) (hb : Sm b) : CMulW a b := cmul_of 1000 1000 ha hb
theorem sm_of {v : Int} (B : Int) (h : -B ≤ v ∧ v ≤ B) (hB : B < 2 ^ 1000 := by decide +kernel) : Sm v := ⟨by omega, by omega⟩
theorem sm_div {a b : Int} (ha : 0 < b) (hb : Sm b) : CDivW a b := ⟨ha, Nat.lt_trans (log_lt (n := 1000) hb.1 hb.2 (by decide)) (by decide)⟩
theorem map_get {α : Type} {f : α → P} {xs : List α} {i : Nat} {p : P} (h : (xs.map f)[i]? = some p) : ∃ x, xs[i]? = some x ∧ p = f x := by
  rw [List.getElem?_map] at h
  cases e : xs[i]? with
  | none => rw [e] at h; cases h
  | some n => rw [e] at h; cases h; exact ⟨n, rfl, rfl⟩
theorem take_map {α β : Type} {f : α → β} {xs : List α} {i : Nat} {x : α} (h : xs[i]? = some x) : (xs.take (i + 1)).map f = (xs.take i).map f ++ [f x] := by
  rw [List.take_succ, h, List.map_append]; rfl
theorem getD_of {α : Type} {xs : List α} {i : Nat} {x d : α} (h : xs[i]? = some x) : xs.getD i d = x := by rw [List.getD_eq_getElem?_getD, h]; rfl
theorem atI0 {α : Type} {f : α → P} {xs : List α} {j : Nat} {x : α} (h : xs[j]? = some x) : atI (xs.map f) (0 + (j : Int)) = some (f x) := by
  rw [Int.zero_add]; exact atI_nat (by rw [List.getElem?_map, h]; rfl)
theorem lt_of_get {α : Type} {xs : List α} {i : Nat} {x : α} (h : xs[i]? = some x) : i < xs.length := (List.getElem?_eq_some_iff.mp h).1
theorem pI_snoc (xs : List Int) (v : Int) : pI (xs ++ [v]) = pI xs ++ [.int v] := by simp only [pI, List.map_append]; rfl
open NM (Pr con vsum Asc ascB flatF Opn bndF wsum lowsF val IsG IsL leastF mxI)
def oI : Option Int → P
  | none => .non
  | some i => .int i
def prP (p : Pr) : P := .tup [.int p.1, oI p.2]
abbrev pRs (rs : List Pr) : List P := rs.map prP
theorem pseq_prP (p : Pr) : pseq (prP p) = some [.int p.1, oI p.2] := rfl
def valsP (s : Option Int) (rs : List Pr) : List P := match s with
  | none => []
  | some s => pI (lowsF s rs)
/-- the fields of a need -/
structure Nd where
  s : Option Int
  rs : List Pr
  nv : Option Int
def ndP (c : Addr) (n : Nd) : P := .ins c [("start", oI n.s), ("rises", .tup (pRs n.rs)), ("never", oI n.nv), ("_values", .tup (valsP n.s n.rs))]
structure NOk (n : Nd) : Prop where
  s0 : ∀ v, n.s = some v → 0 ≤ v
  asc : Asc (-1) n.rs
  no : n.s = none → n.rs = []
  nv : ∀ v, n.nv = some v → ∃ s0, n.s = some s0 ∧ (∀ lo, ¬ Opn n.rs lo) ∧ s0 + wsum n.rs ≤ v
  len : n.rs.length ≤ 1000
theorem atI_map' {α : Type} {f : α → P} {xs : List α} {j : Nat} {x : α} (h : xs[j]? = some x) : atI (xs.map f) (j : Int) = some (f x) := atI_nat (by rw [List.getElem?_map, h]; rfl)
def nval (n : Nd) (k : Option Int) : Option Int := match n.s, k with
  | some s, some k => some (val s n.rs k)
  | _, _ => n.nv
def firstF (n : Nd) : Option Int := match n.s with
  | none => none
  | some s => leastF s n.rs
def mineF (n : Nd) : Nd := match n.s.bind (flatF n.rs 0) with
  | none => ⟨some 0, [(0, none)], none⟩
  | some l => ⟨some 0, if 0 < l then [(0, some l)] else [], if n.nv = none then none else some l⟩
theorem nok_id : NOk ⟨some 0, [(0, none)], none⟩ := ⟨(fun v h => by cases h; exact Int.le_refl _), ⟨by decide, rfl⟩, (fun h => by cases h), (fun v h => by cases h), by decide⟩
theorem not_opn_nil (lo : Int) : ¬ Opn [] lo := fun ⟨pre, e⟩ => by cases pre <;> cases e
theorem not_opn_one (a b lo : Int) : ¬ Opn [(a, some b)] lo := fun ⟨pre, e⟩ => by
  have := NM.opn_iff.mpr ⟨pre, e⟩
  simp at this
theorem nok_mine {n : Nd} (ok : NOk n) : NOk (mineF n) := by
  unfold mineF
  cases e : n.s.bind (flatF n.rs 0) with
  | none => exact nok_id
  | some l =>
    obtain ⟨s, hs, hf⟩ := Option.bind_eq_some_iff.mp e
    have h0 := (NM.flat_isG ok.asc (ok.s0 s hs) hf).1
    simp only
    by_cases hl : 0 < l
    · rw [if_pos hl]
      refine ⟨(fun v h => by cases h; exact Int.le_refl _), ⟨by decide, hl, trivial⟩, (fun h => by cases h), fun v h => ?_, by show 1 ≤ 1000; decide⟩
      simp only at h
      split at h
      · cases h
      · cases h
        exact ⟨0, rfl, not_opn_one 0 l, by show (0 : Int) + wsum [(0, some l)] ≤ l; simp [wsum]⟩
    · rw [if_neg hl]
      refine ⟨(fun v h => by cases h; exact Int.le_refl _), trivial, (fun h => by cases h), fun v h => ?_, by show 0 ≤ 1000; decide⟩
      simp only at h
      split at h
      · cases h
      · cases h
        exact ⟨0, rfl, not_opn_nil, by show (0 : Int) + wsum [] ≤ l; simp [wsum]; omega⟩
def theirsF (n : Nd) : Nd := match firstF n with
  | none => ⟨none, [], none⟩
  | some x => ⟨some x, [(x, none)], none⟩
theorem nok_none : NOk ⟨none, [], none⟩ := ⟨(fun v h => by cases h), trivial, fun _ => rfl, (fun v h => by cases h), by decide⟩
theorem first_nn {n : Nd} {x : Int} (ok : NOk n) (e : firstF n = some x) : 0 ≤ x := by
  unfold firstF at e
  cases hs : n.s with
  | none => rw [hs] at e; cases e
  | some s => rw [hs] at e; exact (NM.least_isL ok.asc (ok.s0 s hs) e).1
theorem nok_theirs {n : Nd} (ok : NOk n) : NOk (theirsF n) := by
  unfold theirsF
  cases e : firstF n with
  | none => exact nok_none
  | some x =>
    have := first_nn ok e
    exact ⟨(fun v h => by cases h; exact this), ⟨by show (-1 : Int) < x; omega, rfl⟩, (fun h => by cases h), (fun v h => by cases h), by show 1 ≤ 1000; decide⟩
def endlessF (n : Nd) : Nd := ⟨firstF n, [], firstF n⟩
theorem nok_endless {n : Nd} (ok : NOk n) : NOk (endlessF n) :=
  ⟨fun v h => first_nn ok h, trivial, fun _ => rfl, fun v h => ⟨v, h, not_opn_nil, by simp [endlessF, wsum]⟩, by show 0 ≤ 1000; decide⟩
theorem shp_oI (o : Option Int) : Shp (oI o) 0 := by cases o; exact shp_non; exact shp_int _
theorem shp_prP (p : Pr) : Shp (prP p) 1 := by
  have := Shp.tup (f := fun x : Option Int => oI x) (xs := [some p.1, p.2]) (n := 0) fun x _ => shp_oI x
  exact this
theorem shp_rs (rs : List Pr) : Shp (.tup (pRs rs)) 2 := .tup fun p _ => shp_prP p
def KOk (ks : List (Option Int)) : Prop := ∀ k ∈ ks, ∀ v, k = some v → 0 ≤ v
theorem KOk.app {as bs : List (Option Int)} (a : KOk as) (b : KOk bs) : KOk (as ++ bs) := fun k hk => (List.mem_append.mp hk).elim (a k) (b k)
theorem KOk.one {v : Int} {as : List (Option Int)} (h : 0 ≤ v) (a : KOk as) : KOk (some v :: as) := fun k hk w e => by
  rcases List.mem_cons.mp hk with rfl | hk
  · cases e; exact h
  · exact a k hk w e
theorem KOk.nil : KOk [] := fun _ h => absurd h List.not_mem_nil
theorem p60 : (10 : Int) ^ (60 : Int).toNat = 10 ^ 60 := rfl
abbrev needL (n : Nd) : P := .lst [oI n.s, .tup (pRs n.rs), oI n.nv]
theorem getD_rg {rs : List Int} (h : ∀ d ∈ rs, 0 ≤ d ∧ d < 1000000) (k : Nat) : 0 ≤ rs.getD k 0 ∧ rs.getD k 0 < 1000000 := by
  rw [List.getD_eq_getElem?_getD]
  cases e : rs[k]? with
  | none => decide
  | some r => exact h r (List.mem_of_getElem? e)
theorem nok_rest {rs : List Pr} (ha : Asc (-1) rs) (hl : rs.length ≤ 1000) {s : Int} (h0 : 0 ≤ s) : NOk ⟨some s, rs, none⟩ :=
  ⟨(fun v h => by cases h; exact h0), ha, (fun h => by cases h), (fun v h => by cases h), hl⟩
/-- what a need that is drawn is like -/
structure NBd (n : Nd) : Prop where
  ok : NOk n
  bd : ∀ s, n.s = some s → bndF s n.rs + 1 ≤ 10 ^ 40
  len : n.rs.length ≤ 10
  sb : ∀ s, n.s = some s → s ≤ 10 ^ 31
  nb : ∀ v, n.nv = some v → v ≤ 10 ^ 40
/-- the pairs as they grow -/
structure Gw (i : Nat) (s : Int) (rs : List Pr) (top edge : Int) : Prop where
  asc : Asc (-1) rs
  cl : ∀ p ∈ rs, ∃ h, p.2 = some h ∧ h < edge ∧ p.1 ≤ h ∧ 0 ≤ p.1
  len : rs.length = i
  top : top = s + wsum rs
  w : wsum rs ≤ 1000000000000000000000 * (i : Int)
  e0 : 0 ≤ edge
  e1 : edge ≤ 6 + 1000000000000000000000 * (i : Int)
theorem Gw.step {i : Nat} {s top edge w d : Int} {rs : List Pr} (g : Gw i s rs top edge) (h0 : 1 ≤ w) (h1 : w ≤ 600000000000000000000) (h2 : 1 ≤ d) (h3 : d ≤ 6) : Gw (i + 1) s (rs ++ [(edge, some (edge + w))]) (top + w) (edge + w + d) where
  asc := g.asc.snoc (fun p hp => by obtain ⟨h, e, h4, _⟩ := g.cl p hp; exact ⟨h, e, h4⟩) (by have := g.e0; omega) (fun h e => by cases e; omega)
  cl := fun p hp => by
    rcases List.mem_append.mp hp with hp | hp
    · obtain ⟨h, e, h4, h5, h6⟩ := g.cl p hp
      exact ⟨h, e, by omega, h5, h6⟩
    · rw [List.mem_singleton.mp hp]
      have := g.e0
      exact ⟨_, rfl, by omega, by show edge ≤ edge + w; omega, this⟩
  len := by rw [List.length_append, g.len]; rfl
  top := by rw [NM.wsum_snoc, g.top]; simp only; omega
  w := by rw [NM.wsum_snoc]; have := g.w; simp only; omega
  e0 := by have := g.e0; omega
  e1 := by have := g.e1; omega
theorem p30 : (10 : Int) ^ (30 : Int).toNat = 1000000000000000000000000000000 := by decide +kernel
theorem p20 : (10 : Int) ^ (20 : Int).toNat = 100000000000000000000 := by decide +kernel
theorem cut_init (xs : List P) (v : P) : cutP (xs ++ [v]) none (some (-1)) = xs := by
  unfold cutP
  have h1 : HT.sIx (xs ++ [v]).length 0 none = 0 := rfl
  have h2 : HT.sIx (xs ++ [v]).length (xs ++ [v]).length (some (-1)) = xs.length := by
    unfold HT.sIx
    simp
    try omega
  rw [h1, h2, List.drop_zero, Nat.sub_zero, List.take_left']
  rfl
open NM (slp Ends WA JI Goes Is)
theorem pI_len (xs : List Int) : (pI xs).length = xs.length := List.length_map _
theorem pI_take {xs : List Int} {i : Nat} {x : Int} (f : Int → Int) (h : xs[i]? = some x) : pI ((xs.take i).map f) ++ [P.int (f x)] = pI ((xs.take (i + 1)).map f) := by
  rw [NM.take_snoc h, List.map_append]; exact (pI_snoc _ _).symm
theorem cs_lt {cs : List Int} (h : cs.Pairwise (· < ·)) {i j : Nat} {x y : Int} (hi : cs[i]? = some x) (hj : cs[j]? = some y) (hij : i < j) : x < y := by
  obtain ⟨h1, rfl⟩ := List.getElem?_eq_some_iff.mp hi
  obtain ⟨h2, rfl⟩ := List.getElem?_eq_some_iff.mp hj
  exact List.pairwise_iff_getElem.mp h i j h1 h2 hij
theorem split_at {cs : List Int} {i : Nat} {c d : Int} (h1 : cs[i]? = some c) (h2 : cs[i + 1]? = some d) : cs = cs.take i ++ c :: d :: cs.drop (i + 2) := by
  rw [← NM.drop_cons h2, ← NM.drop_cons h1, List.take_append_drop]
theorem prs_inl : ∀ ps : List DL.P, prs (ps.map Sum.inl) = some ps
  | [] => rfl
  | p :: ps => by
    show (prs (ps.map Sum.inl)).map (p :: ·) = _
    rw [prs_inl ps]; rfl
def tlO (hi : Option Int) : List Int := match hi with
  | none => []
  | some h => [h]
def partO (lo : Int) (hi : Option Int) : Nat → List Int
  | 0 => []
  | 1 => [lo]
  | _ => lo :: tlO hi
theorem partO_len (lo : Int) (hi : Option Int) (j : Nat) : (partO lo hi j).length ≤ 2 := by
  rcases j with _ | _ | j
  · exact Nat.zero_le _
  · exact Nat.le_succ 1
  · cases hi
    · exact Nat.le_succ 1
    · exact Nat.le_refl 2
def endsOf (rs : List Pr) : List Int := rs.flatMap fun p => p.1 :: tlO p.2
theorem endsOf_snoc (rs : List Pr) (p : Pr) : endsOf (rs ++ [p]) = endsOf rs ++ (p.1 :: tlO p.2) := by simp [endsOf]
theorem endsOf_take {rs : List Pr} {i : Nat} {p : Pr} (h : rs[i]? = some p) : endsOf (rs.take (i + 1)) = endsOf (rs.take i) ++ (p.1 :: tlO p.2) := by rw [NM.take_snoc h, endsOf_snoc]
theorem endsOf_len : ∀ rs : List Pr, (endsOf rs).length ≤ 2 * rs.length
  | [] => Nat.le_refl _
  | p :: r => by
    have := endsOf_len r
    obtain ⟨lo, hi⟩ := p
    cases hi <;> simp [endsOf, tlO] at this ⊢ <;> omega
theorem mem_endsOf {rs : List Pr} {x : Int} : x ∈ endsOf rs ↔ ∃ p ∈ rs, x = p.1 ∨ p.2 = some x := by
  unfold endsOf
  rw [List.mem_flatMap]
  refine ⟨fun ⟨p, hp, h⟩ => ⟨p, hp, ?_⟩, fun ⟨p, hp, h⟩ => ⟨p, hp, ?_⟩⟩
  · rcases List.mem_cons.mp h with h | h
    · exact .inl h
    · cases hq : p.2 with
      | none => rw [hq] at h; cases h
      | some y => rw [hq] at h; rw [List.mem_singleton.mp h]; exact .inr rfl
  · rcases h with h | h
    · exact List.mem_cons.mpr (.inl h)
    · rw [h]; exact List.mem_cons_of_mem _ (List.mem_singleton.mpr rfl)
def rowP (s1 : Int) (r1 : List Pr) (s2 : Int) (r2 : List Pr) (c : Int) (e : Option Int) : P := .tup [.int c, oI e, .int (val s1 r1 c), .int (slp r1 c), .int (val s2 r2 c), .int (slp r2 c)]
def rowsP (s1 : Int) (r1 : List Pr) (s2 : Int) (r2 : List Pr) (cs : List Int) : List P := (List.range cs.length).map fun j => rowP s1 r1 s2 r2 (cs.getD j 0) cs[j + 1]?
structure Cuts (cs : List Int) (r1 r2 : List Pr) : Prop where
  pw : cs.Pairwise (· < ·)
  e1 : Ends r1 cs
  e2 : Ends r2 cs
  z : cs[0]? = some 0
  len : cs.length ≤ 4000
  len2 : cs.length ≤ 2 * (r1.length + r2.length) + 1
  nn : ∀ c ∈ cs, 0 ≤ c ∧ c ≤ 10 ^ 250
/-- the pairs are not far out -/
def Near (rs : List Pr) : Prop := ∀ p ∈ rs, p.1 ≤ 10 ^ 250 ∧ ∀ h, p.2 = some h → h ≤ 10 ^ 250
theorem asc_ends : ∀ {rs : List Pr} {b : Int}, Asc b rs → ∀ p ∈ rs, b < p.1 := fun {rs b} h p hp => by
  obtain ⟨n, hn⟩ := List.getElem?_of_mem hp
  exact NM.asc_lt h hn
theorem ends_nn {rs : List Pr} (a : Asc (-1) rs) (n : Near rs) {x : Int} (hx : x ∈ endsOf rs) : 0 ≤ x ∧ x ≤ 10 ^ 250 := by
  obtain ⟨p, hp, h⟩ := mem_endsOf.mp hx
  have h1 := asc_ends a p hp
  have h2 := n p hp
  rcases h with rfl | h
  · exact ⟨by omega, h2.1⟩
  · have := NM.asc_pos a p hp x h
    exact ⟨by omega, h2.2 x h⟩
theorem endsOf_app (a b : List Pr) : endsOf (a ++ b) = endsOf a ++ endsOf b := List.flatMap_append
theorem cuts_of {r1 r2 : List Pr} {cs : List Int} (a1 : Asc (-1) r1) (a2 : Asc (-1) r2) (l1 : r1.length ≤ 500) (l2 : r2.length ≤ 500) (n1 : Near r1) (n2 : Near r2) (hs : cs.Pairwise (· < ·)) (hm : ∀ k, k ∈ cs ↔ k ∈ 0 :: endsOf (r1 ++ r2)) : Cuts cs r1 r2 := by
  have nn : ∀ c ∈ cs, 0 ≤ c ∧ c ≤ 10 ^ 250 := fun c hc => by
    rcases List.mem_cons.mp ((hm c).mp hc) with rfl | h
    · exact ⟨Int.le_refl _, by decide +kernel⟩
    · rw [endsOf_app] at h
      rcases List.mem_append.mp h with h | h
      · exact ends_nn a1 n1 h
      · exact ends_nn a2 n2 h
  have sub : ∀ {rs : List Pr}, (∀ p ∈ rs, p ∈ r1 ++ r2) → Ends rs cs := fun {rs} h p hp => ⟨(hm _).mpr (List.mem_cons_of_mem _ (mem_endsOf.mpr ⟨p, h p hp, .inl rfl⟩)), fun x hx => (hm _).mpr (List.mem_cons_of_mem _ (mem_endsOf.mpr ⟨p, h p hp, .inr hx⟩))⟩
  refine ⟨hs, sub fun p hp => List.mem_append_left _ hp, sub fun p hp => List.mem_append_right _ hp, ?_, ?_, ?_, nn⟩
  · have h0 : (0 : Int) ∈ cs := (hm 0).mpr List.mem_cons_self
    cases cs with
    | nil => cases h0
    | cons a r =>
      have ha := (nn a List.mem_cons_self).1
      rcases List.mem_cons.mp h0 with h | h
      · rw [← h]; rfl
      · have := (List.pairwise_cons.mp hs).1 0 h
        omega
  · have h1 : cs.length ≤ (0 :: endsOf (r1 ++ r2)).length := List.Nodup.length_le_of_subset (List.Pairwise.imp (fun h => Int.ne_of_lt h) hs) fun x hx => (hm x).mp hx
    have h2 := endsOf_len (r1 ++ r2)
    rw [List.length_append] at h2
    rw [List.length_cons] at h1
    omega
  · have h1 : cs.length ≤ (0 :: endsOf (r1 ++ r2)).length := List.Nodup.length_le_of_subset (List.Pairwise.imp (fun h => Int.ne_of_lt h) hs) fun x hx => (hm x).mp hx
    have h2 := endsOf_len (r1 ++ r2)
    rw [List.length_append] at h2
    rw [List.length_cons] at h1
    omega
theorem cut1 (xs : List P) (h : 1 ≤ xs.length) : cutP xs (some 1) none = xs.drop 1 := by
  unfold cutP
  have h1 : HT.sIx xs.length xs.length none = xs.length := rfl
  have h2 : HT.sIx xs.length 0 (some (1 : Int)) = 1 := by
    unfold HT.sIx
    simp
    omega
  rw [h1, h2]
  apply List.take_of_length_le
  rw [List.length_drop]
  omega
theorem getD_map {cs : List Int} {j : Nat} (hj : j < cs.length) (f : Int → Int) : (pI (cs.map f)).getD j .non = P.int (f (cs.getD j 0)) := by
  rw [List.getD_eq_getElem?_getD, List.getD_eq_getElem?_getD, List.getElem?_map, List.getElem?_map, List.getElem?_eq_getElem hj]
  rfl
theorem getD_next {cs : List Int} {j : Nat} (hj : j < cs.length) : ((pI cs).drop 1 ++ [P.non]).getD j .non = oI cs[j + 1]? := by
  rw [List.getD_eq_getElem?_getD]
  rcases Nat.lt_or_ge (j + 1) cs.length with h | h
  · rw [List.getElem?_append_left (by rw [List.length_drop, pI_len]; omega), List.getElem?_drop, Nat.add_comm 1 j, List.getElem?_map, List.getElem?_eq_getElem h]
    rfl
  · rw [List.getElem?_append_right (by rw [List.length_drop, pI_len]; omega), show cs[j + 1]? = none from List.getElem?_eq_none h, List.length_drop, pI_len, show j - (cs.length - 1) = 0 by omega]
    rfl
theorem rows_eq (s1 : Int) (r1 : List Pr) (s2 : Int) (r2 : List Pr) (cs : List Int) : ((List.range cs.length).map fun j => P.tup ([pI cs, (pI cs).drop 1 ++ [P.non], pI (cs.map (val s1 r1)), pI (cs.map (slp r1)), pI (cs.map (val s2 r2)), pI (cs.map (slp r2))].map fun xs => xs.getD j .non)) = rowsP s1 r1 s2 r2 cs := by
  refine List.map_congr_left fun j hj => ?_
  have hj := List.mem_range.mp hj
  have e0 : (pI cs).getD j .non = P.int (cs.getD j 0) := by
    have := getD_map hj id
    rwa [List.map_id] at this
  unfold rowP
  simp only [List.map_cons, List.map_nil]
  rw [e0, getD_next hj, getD_map hj, getD_map hj, getD_map hj, getD_map hj]
theorem eqv_int (a b : Int) : PyData.eqv (P.int a).toD (P.int b).toD = decide (a = b) := by
  first
    | rfl
    | (show PyData.eqv (.int a) (.int b) = _; simp [PyData.eqv])
def spl (sp : Int → Option Int → List Pr) (cs : List Int) (i : Nat) : List Pr := ((List.range i).map fun j => sp (cs.getD j 0) cs[j + 1]?).flatten
theorem spl_succ (sp : Int → Option Int → List Pr) (cs : List Int) (i : Nat) : spl sp cs (i + 1) = spl sp cs i ++ sp (cs.getD i 0) cs[i + 1]? := by
  unfold spl
  rw [List.range_succ, List.map_append, List.flatten_append]
  simp
theorem spl_all (sp : Int → Option Int → List Pr) : ∀ cs : List Int, spl sp cs cs.length = NM.spansOf sp cs
  | [] => rfl
  | [c] => by
    show ([sp c none]).flatten = sp c none
    simp
  | c :: c' :: r => by
    have ih := spl_all sp (c' :: r)
    unfold spl at ih ⊢
    rw [show (c :: c' :: r).length = (c' :: r).length + 1 from rfl, List.range_succ_eq_map, List.map_cons, List.flatten_cons, List.map_map]
    show sp c (some c') ++ _ = sp c (some c') ++ NM.spansOf sp (c' :: r)
    rw [← ih]
    rfl
theorem spl_len {sp : Int → Option Int → List Pr} (h : ∀ c e, (sp c e).length ≤ 1) (cs : List Int) : ∀ i, (spl sp cs i).length ≤ i
  | 0 => Nat.le_refl _
  | i + 1 => by
    rw [spl_succ, List.length_append]
    have h1 := spl_len h cs i
    have h2 := h (cs.getD i 0) cs[i + 1]?
    omega
theorem ite_len {α : Type} (A B : Prop) [Decidable A] [Decidable B] (x y : α) : (if A then [x] else if B then [y] else []).length ≤ 1 := by
  split
  · exact Nat.le_refl _
  · split
    · exact Nat.le_refl _
    · exact Nat.zero_le _
theorem spS_len (s1 : Int) (r1 : List Pr) (s2 : Int) (r2 : List Pr) (c : Int) (e : Option Int) : (NM.spS s1 r1 s2 r2 c e).length ≤ 1 := by
  show (NM.spanS _ _ _ _ _ _).length ≤ 1
  unfold NM.spanS
  exact ite_len _ _ _ _
theorem spG_len (s1 : Int) (r1 : List Pr) (s2 : Int) (r2 : List Pr) (c : Int) (e : Option Int) : (NM.spG s1 r1 s2 r2 c e).length ≤ 1 := by
  show (NM.spanG _ _ _ _ _ _).length ≤ 1
  unfold NM.spanG
  exact ite_len _ _ _ _
theorem rows_get {s1 s2 : Int} {r1 r2 : List Pr} {cs : List Int} {i : Nat} {p : P} (h : (rowsP s1 r1 s2 r2 cs)[i]? = some p) : i < cs.length ∧ p = rowP s1 r1 s2 r2 (cs.getD i 0) cs[i + 1]? := by
  obtain ⟨j, hj, rfl⟩ := map_get h
  have hi := lt_of_get hj
  rw [List.length_range] at hi
  rw [List.getElem?_range hi] at hj
  cases hj
  exact ⟨hi, rfl⟩
theorem rows_len (s1 s2 : Int) (r1 r2 : List Pr) (cs : List Int) : (rowsP s1 r1 s2 r2 cs).length = cs.length := by
  show (List.map _ _).length = _
  rw [List.length_map, List.length_range]
theorem pRs_app (a b : List Pr) : pRs (a ++ b) = pRs a ++ pRs b := List.map_append
theorem soon_eq (x y : Int) : NM.soon (some x) (some y) = some (NM.mnI x y) := rfl
theorem top_ge {s x : Int} {rs : List Pr} {v : Option Int} (ok : NOk ⟨some s, rs, v⟩) (h : v = some x) (k : Int) : val s rs k ≤ x := by
  obtain ⟨s0, e, hc, hw⟩ := ok.nv x h
  cases e
  have h1 := NM.wsum_ge (k := k) ok.asc hc
  unfold NM.val
  have h2 : s + wsum rs ≤ x := hw
  have h3 : vsum rs k ≤ wsum rs := h1
  omega
theorem nok_or {s1 s2 : Int} {r1 r2 rs : List Pr} {v1 v2 : Option Int} (ok1 : NOk ⟨some s1, r1, v1⟩) (ok2 : NOk ⟨some s2, r2, v2⟩) (ha : Asc (-1) rs) (hv : ∀ k, 0 ≤ k → NM.mnI (val s1 r1 k) (val s2 r2 k) = NM.mnI s1 s2 + vsum rs k) (hl : rs.length ≤ 1000) : NOk ⟨some (NM.mnI s1 s2), rs, NM.soon v1 v2⟩ := by
  have h1 := ok1.s0 s1 rfl
  have h2 := ok2.s0 s2 rfl
  refine ⟨fun v h => ?_, ha, (fun h => by cases h), fun v h => ⟨_, rfl, ?_⟩, hl⟩
  · cases h
    show 0 ≤ NM.mnI s1 s2
    unfold NM.mnI
    split <;> omega
  · have hb : ∀ k, NM.mnI (val s1 r1 k) (val s2 r2 k) ≤ v := fun k => by
      cases v1 with
      | none =>
        have := top_ge ok2 (show v2 = some v from h) k
        unfold NM.mnI
        split <;> omega
      | some x =>
        cases v2 with
        | none =>
          have := top_ge ok1 (show some x = some v from h) k
          unfold NM.mnI
          split <;> omega
        | some y =>
          have g1 := top_ge ok1 rfl k
          have g2 := top_ge ok2 rfl k
          rw [show NM.soon (some x) (some y) = some (NM.mnI x y) from rfl] at h
          cases h
          unfold NM.mnI
          (repeat' split) <;> omega
    obtain ⟨g1, g2⟩ := NM.bounded (M := v - NM.mnI s1 s2) ha fun k hk => by have := hv k hk; have := hb k; omega
    exact ⟨g1, by show NM.mnI s1 s2 + wsum rs ≤ v; omega⟩
structure OrN (n1 n2 n : Nd) : Prop where
  ok : NOk n
  val : ∀ k : Option Int, (∀ x, k = some x → 0 ≤ x) → nval n k = NM.soon (nval n1 k) (nval n2 k)
  len : n.rs.length ≤ 2 * (n1.rs.length + n2.rs.length) + 1
theorem nv_none {rs : List Pr} {v : Option Int} (ok : NOk ⟨none, rs, v⟩) : v = none := by
  cases v with
  | none => rfl
  | some x =>
    obtain ⟨s0, e, _⟩ := ok.nv x rfl
    cases e
theorem soon_none (a : Option Int) : NM.soon a none = a := by cases a <;> rfl
def grO (a b : Option Int) : Option Int := match a, b with
  | none, _ => none
  | some _, none => none
  | some x, some y => some (NM.mxI x y)
theorem grO_none (a : Option Int) : grO a none = none := by cases a <;> rfl
def excB (a b : Option Int) : Bool := match b, a with
  | none, _ => false
  | some _, none => true
  | some y, some x => decide (x > y)
theorem mx2 (a b : Int) : (if b > a then b else a) = NM.mxI a b := by unfold NM.mxI; (repeat' split) <;> omega
theorem nok_and {s1 s2 : Int} {r1 r2 rs : List Pr} {v1 v2 : Option Int} (ok1 : NOk ⟨some s1, r1, v1⟩) (ok2 : NOk ⟨some s2, r2, v2⟩) (ha : Asc (-1) rs) (hv : ∀ k, 0 ≤ k → NM.mxI (val s1 r1 k) (val s2 r2 k) = NM.mxI s1 s2 + vsum rs k) (hl : rs.length ≤ 1000) : NOk ⟨some (NM.mxI s1 s2), rs, grO v1 v2⟩ := by
  have h1 := ok1.s0 s1 rfl
  have h2 := ok2.s0 s2 rfl
  refine ⟨fun v h => ?_, ha, (fun h => by cases h), fun v h => ⟨_, rfl, ?_⟩, hl⟩
  · cases h
    show 0 ≤ NM.mxI s1 s2
    unfold NM.mxI
    split <;> omega
  · have hb : ∀ k, NM.mxI (val s1 r1 k) (val s2 r2 k) ≤ v := fun k => by
      cases v1 with
      | none => cases h
      | some x =>
        cases v2 with
        | none => cases h
        | some y =>
          have g1 := top_ge ok1 rfl k
          have g2 := top_ge ok2 rfl k
          rw [show grO (some x) (some y) = some (NM.mxI x y) from rfl] at h
          cases h
          unfold NM.mxI
          (repeat' split) <;> omega
    obtain ⟨g1, g2⟩ := NM.bounded (M := v - NM.mxI s1 s2) ha fun k hk => by have := hv k hk; have := hb k; omega
    exact ⟨g1, by show NM.mxI s1 s2 + wsum rs ≤ v; omega⟩
structure AndN (n1 n2 n : Nd) : Prop where
  ok : NOk n
  val : ∀ k : Option Int, (∀ x, k = some x → 0 ≤ x) → nval n k = grO (nval n1 k) (nval n2 k)
  len : n.rs.length ≤ 2 * (n1.rs.length + n2.rs.length) + 1
theorem nok_no : NOk ⟨none, [], none⟩ := ⟨(fun v h => by cases h), trivial, fun _ => rfl, (fun v h => by cases h), Nat.zero_le _⟩
def itN (n : Nd) : Nat → Option Int → Option Int
  | 0, k => k
  | c + 1, k => nval n (itN n c k)
theorem soonN {a b : Option Int} (h : a = none) : NM.soon a b = b := by subst h; rfl
theorem take_ext {B : List Pr} {n e : Nat} {p : Pr} (h : B[e]? = some p) (hne : n ≤ e) : (B.drop n).take (e + 1 - n) = (B.drop n).take (e - n) ++ [p] := by
  rw [show e + 1 - n = (e - n) + 1 by omega]
  exact NM.take_snoc (by rw [List.getElem?_drop, show n + (e - n) = e by omega]; exact h)
theorem split3 {B : List Pr} {n e : Nat} (hne : n ≤ e) : B = B.take n ++ (B.drop n).take (e - n) ++ B.drop e := by
  have h1 : (B.drop n).drop (e - n) = B.drop e := by rw [List.drop_drop, show n + (e - n) = e by omega]
  rw [List.append_assoc, ← h1, List.take_append_drop, List.take_append_drop]
/-- what the second while holds -/
structure CW (outer : List Pr) (v lo : Int) (st : Option Int) (n e : Nat) : Prop where
  le : e ≤ outer.length
  ne : n ≤ e
  all : ∀ (j : Nat) p, n ≤ j → j < e → outer[j]? = some p → NM.ov v st p = true
theorem CW.found {outer : List Pr} {v lo : Int} {st : Option Int} {n e : Nat} (c : CW outer v lo st n e) (hb : ∀ (j : Nat) p, j < n → outer[j]? = some p → ∃ h, p.2 = some h ∧ h ≤ v) (hend : ∀ p ∈ outer.drop e, ∃ s, st = some s ∧ s ≤ p.1) : NM.piece outer v (lo - v) st = ((outer.drop n).take (e - n)).map (NM.clip v (lo - v) st) := by
  refine NM.piece_split (split3 c.ne) (fun p hp => ?_) (fun p hp => ?_) hend
  · obtain ⟨j, hj⟩ := List.getElem?_of_mem hp
    have hjn : j < n := by
      have := lt_of_get hj
      rw [List.length_take] at this
      omega
    rw [List.getElem?_take_of_lt hjn] at hj
    exact hb j p hjn hj
  · obtain ⟨j, hj⟩ := List.getElem?_of_mem hp
    have hjn : j < e - n := by
      have := lt_of_get hj
      rw [List.length_take] at this
      omega
    rw [List.getElem?_take_of_lt hjn, List.getElem?_drop] at hj
    exact c.all (n + j) p (by omega) (by omega) hj
theorem drop_far {outer : List Pr} {s : Int} (a : Asc (-1) outer) {e : Nat} {p : Pr} (h : outer[e]? = some p) (hs : s ≤ p.1) : ∀ q ∈ outer.drop e, ∃ t, some s = some t ∧ t ≤ q.1 := fun q hq => by
  obtain ⟨j, hj⟩ := List.getElem?_of_mem hq
  rw [List.getElem?_drop] at hj
  refine ⟨s, rfl, ?_⟩
  rcases Nat.eq_zero_or_pos j with rfl | hj0
  · rw [Nat.add_zero, h] at hj; cases hj; exact hs
  · have := NM.asc_sorted a h hj (by omega)
    omega
theorem drop_end {outer : List Pr} {st : Option Int} {e : Nat} (h : outer.length ≤ e) : ∀ q ∈ outer.drop e, ∃ t, st = some t ∧ t ≤ q.1 := fun q hq => by
  rw [List.drop_eq_nil_of_le h] at hq; cases hq
theorem compF_nil (v : Int) : ∀ inner : List Pr, NM.compF [] v inner = []
  | [] => rfl
  | (lo, none) :: _ => rfl
  | (lo, some hi) :: r => by show [] ++ NM.compF [] _ r = []; rw [compF_nil]; rfl
theorem val_mono {s x y : Int} {rs : List Pr} (a : Asc (-1) rs) (h : x ≤ y) : val s rs x ≤ val s rs y := by
  have := (NM.lip a h).1
  unfold val
  omega
theorem val_nn {s x : Int} {rs : List Pr} (a : Asc (-1) rs) (h : 0 ≤ s) : 0 ≤ val s rs x := by
  have := NM.vsum_nn (k := x) a
  unfold val
  omega
theorem nval_nn {n : Nd} (ok : NOk n) {k : Option Int} {x : Int} (e : nval n k = some x) : 0 ≤ x := by
  obtain ⟨s, rs, v⟩ := n
  have hv : v = some x → 0 ≤ x := fun h => by
    obtain ⟨s0, e0, hc, hw⟩ := ok.nv x h
    cases e0
    have h0 := ok.s0 s0 rfl
    have h1 := NM.wsum_ge (k := 0) ok.asc hc
    have h2 := NM.vsum_nn (k := 0) ok.asc
    simp only at h1 h2 hw
    omega
  cases s with
  | none => exact hv e
  | some s =>
    cases k with
    | none => exact hv e
    | some k =>
      cases e
      exact val_nn ok.asc (ok.s0 s rfl)
structure RsN (n1 n2 n : Nd) : Prop where
  ok : NOk n
  val : ∀ k : Option Int, (∀ x, k = some x → 0 ≤ x) → nval n k = nval n1 (nval n2 k)
  len : n.rs.length ≤ n1.rs.length + n2.rs.length
theorem nok_rs {s1 s2 : Int} {r1 r2 : List Pr} {v1 v2 : Option Int} (ok1 : NOk ⟨some s1, r1, v1⟩) (ok2 : NOk ⟨some s2, r2, v2⟩) (hl : r1.length + r2.length ≤ 1000) : RsN ⟨some s1, r1, v1⟩ ⟨some s2, r2, v2⟩ ⟨some (val s1 r1 s2), NM.compF r1 s2 r2, nval ⟨some s1, r1, v1⟩ v2⟩ := by
  have a1 : Asc (-1) r1 := ok1.asc
  have a2 : Asc (-1) r2 := ok2.asc
  have h1 := ok1.s0 s1 rfl
  have h2 := ok2.s0 s2 rfl
  have hasc : Asc (-1) (NM.compF r1 s2 r2) := NM.compF_asc a1 a2
  have hlen : (NM.compF r1 s2 r2).length ≤ r1.length + r2.length := NM.compF_len2 a1 a2
  have hval : ∀ k, val (val s1 r1 s2) (NM.compF r1 s2 r2) k = val s1 r1 (val s2 r2 k) := fun k => by
    have := NM.compF_val (v := s2) (k := k) (fun p hp x hx => NM.asc_pos a1 p hp x hx) a2
    unfold val
    omega
  refine ⟨⟨fun v h => ?_, hasc, (fun h => by cases h), fun v h => ⟨_, rfl, ?_⟩, Nat.le_trans hlen hl⟩, fun k hk => ?_, hlen⟩
  · cases h
    exact val_nn a1 h1
  · have hb : ∀ k, val s1 r1 (val s2 r2 k) ≤ v := fun k => by
      cases v2 with
      | none => exact top_ge ok1 h _
      | some y =>
        cases h
        exact val_mono a1 (top_ge ok2 rfl k)
    obtain ⟨g1, g2⟩ := NM.bounded (M := v - val s1 r1 s2) hasc fun k hk => by
      have e1 := hval k
      have e2 := hb k
      rw [← e1] at e2
      unfold val at e2 ⊢
      omega
    exact ⟨g1, by show val s1 r1 s2 + wsum (NM.compF r1 s2 r2) ≤ v; omega⟩
  · cases k with
    | none => rfl
    | some k =>
      show some _ = some _
      rw [hval]
theorem nok_rs_none {r1 : List Pr} {n2 : Nd} {v1 : Option Int} (ok1 : NOk ⟨none, r1, v1⟩) : RsN ⟨none, r1, v1⟩ n2 ⟨none, [], none⟩ := ⟨nok_no, fun k hk => by
  rw [show ∀ k, nval ⟨none, r1, v1⟩ k = v1 from fun k => by cases k <;> rfl, nv_none ok1]
  cases k <;> rfl, Nat.zero_le _⟩
theorem nok_none_rs {s1 : Int} {r1 r2 : List Pr} {v1 v2 : Option Int} (ok1 : NOk ⟨some s1, r1, v1⟩) (ok2 : NOk ⟨none, r2, v2⟩) : RsN ⟨some s1, r1, v1⟩ ⟨none, r2, v2⟩ ⟨v1, [], v1⟩ := by
  refine ⟨⟨fun v h => nval_nn (k := none) ok1 h, trivial, fun _ => rfl, fun v h => ⟨v, h, not_opn_nil, by show v + 0 ≤ v; omega⟩, Nat.zero_le _⟩, fun k hk => ?_, Nat.zero_le _⟩
  rw [show ∀ k, nval ⟨none, r2, v2⟩ k = v2 from fun k => by cases k <;> rfl, nv_none ok2]
  cases v1 with
  | none => cases k <;> rfl
  | some x =>
    cases k with
    | none => rfl
    | some k =>
      show some (x + 0) = some x
      rw [Int.add_zero]
theorem itN_add (n : Nd) (a : Nat) : ∀ (b : Nat) (k : Option Int), itN n (a + b) k = itN n b (itN n a k)
  | 0, k => rfl
  | b + 1, k => by show nval n (itN n (a + b) k) = nval n _; rw [itN_add]
theorem itN_nn {n : Nd} (ok : NOk n) {k : Option Int} (hk : ∀ x, k = some x → 0 ≤ x) : ∀ c : Nat, ∀ x, itN n c k = some x → 0 ≤ x
  | 0 => hk
  | c + 1 => fun x h => nval_nn ok h
structure PwN (n : Nd) (c : Nat) (m : Nd) : Prop where
  ok : NOk m
  val : ∀ k : Option Int, (∀ x, k = some x → 0 ≤ x) → nval m k = itN n c k
theorem PwN.step {n m1 m2 m : Nd} {a b : Nat} (ok : NOk n) (h1 : PwN n a m1) (h2 : PwN n b m2) (h : RsN m1 m2 m) : PwN n (b + a) m := ⟨h.ok, fun k hk => by
  rw [h.val k hk, h2.val k hk, h1.val _ (itN_nn ok hk b), itN_add]⟩
theorem pw_id (n : Nd) : PwN n 0 ⟨some 0, [(0, none)], none⟩ := ⟨nok_id, fun k hk => by
  cases k with
  | none => rfl
  | some k =>
    have := hk k rfl
    show some (val 0 [(0, none)] k) = some k
    unfold val
    show some (0 + (con (0, none) k + 0)) = _
    rw [NM.con_none]
    split <;> simp <;> omega⟩
theorem pw_one {n : Nd} (ok : NOk n) : PwN n 1 n := ⟨ok, fun k hk => rfl⟩
def atm (a b : Option Int) : Bool := match b, a with
  | none, _ => true
  | some _, none => false
  | some y, some x => decide (x ≤ y)
theorem atm_soon (a b : Option Int) : (if atm a b = true then a else b) = NM.soon a b := by
  cases b with
  | none => cases a <;> rfl
  | some y =>
    cases a with
    | none => rfl
    | some x =>
      show (if decide (x ≤ y) = true then some x else some y) = some (NM.mnI x y)
      unfold NM.mnI
      by_cases h : x ≤ y
      · rw [if_pos (by simpa using h), if_neg (by omega)]
      · rw [if_neg (by simpa using h), if_pos (by omega)]
theorem atm_gr (a b : Option Int) : (if atm a b = true then b else a) = grO a b := by
  cases b with
  | none => cases a <;> rfl
  | some y =>
    cases a with
    | none => rfl
    | some x =>
      show (if decide (x ≤ y) = true then some y else some x) = some (NM.mxI x y)
      unfold NM.mxI
      by_cases h : x ≤ y
      · rw [if_pos (by simpa using h), if_neg (by omega)]
      · rw [if_neg (by simpa using h), if_pos (by omega)]
/-- the pairs of a need that is drawn are not far out -/
def N25 (rs : List Pr) : Prop := ∀ p ∈ rs, p.1 ≤ 10 ^ 25 ∧ ∀ h, p.2 = some h → h ≤ 10 ^ 25
/-- the edges of both, in order -/
structure Edg (es : List Int) (l : Int) (r1 r2 : List Pr) : Prop where
  pw : es.Pairwise (· ≤ ·)
  z : es[0]? = some 0
  last : es[es.length - 1]? = some l
  nn : ∀ x ∈ es, 0 ≤ x ∧ x ≤ 10 ^ 25
  e1 : ∀ p ∈ r1, p.1 ∈ es ∧ ∀ h, p.2 = some h → h ∈ es
  e2 : ∀ p ∈ r2, p.1 ∈ es ∧ ∀ h, p.2 = some h → h ∈ es
  len : es.length ≤ 50
structure Edg0 (es : List Int) (r1 r2 : List Pr) : Prop where
  pw : es.Pairwise (· ≤ ·)
  z : es[0]? = some 0
  nn : ∀ x ∈ es, 0 ≤ x ∧ x ≤ 10 ^ 25
  e1 : ∀ p ∈ r1, p.1 ∈ es ∧ ∀ h, p.2 = some h → h ∈ es
  e2 : ∀ p ∈ r2, p.1 ∈ es ∧ ∀ h, p.2 = some h → h ∈ es
  len : es.length ≤ 50
theorem Edg0.lst {es : List Int} {r1 r2 : List Pr} {l : Int} (h : Edg0 es r1 r2) (hl : es[es.length - 1]? = some l) : Edg es l r1 r2 := ⟨h.pw, h.z, hl, h.nn, h.e1, h.e2, h.len⟩
theorem n25_nn {rs : List Pr} (a : Asc (-1) rs) (n : N25 rs) {x : Int} (hx : x ∈ endsOf rs) : 0 ≤ x ∧ x ≤ 10 ^ 25 := by
  obtain ⟨p, hp, h⟩ := mem_endsOf.mp hx
  have h1 := asc_ends a p hp
  have h2 := n p hp
  rcases h with rfl | h
  · exact ⟨by omega, h2.1⟩
  · have := NM.asc_pos a p hp x h
    exact ⟨by omega, h2.2 x h⟩
theorem edg_of {r1 r2 : List Pr} {es : List Int} (a1 : Asc (-1) r1) (a2 : Asc (-1) r2) (l1 : r1.length ≤ 10) (l2 : r2.length ≤ 10) (b1 : N25 r1) (b2 : N25 r2) (hp : es.Perm (0 :: endsOf (r1 ++ r2))) (hs : es.Pairwise (· ≤ ·)) : Edg0 es r1 r2 := by
  have hm : ∀ k, k ∈ es ↔ k ∈ 0 :: endsOf (r1 ++ r2) := fun k => hp.mem_iff
  have nn : ∀ c ∈ es, 0 ≤ c ∧ c ≤ 10 ^ 25 := fun c hc => by
    rcases List.mem_cons.mp ((hm c).mp hc) with rfl | h
    · exact ⟨Int.le_refl _, by decide +kernel⟩
    · rw [endsOf_app] at h
      rcases List.mem_append.mp h with h | h
      · exact n25_nn a1 b1 h
      · exact n25_nn a2 b2 h
  have sub : ∀ {rs : List Pr}, (∀ p ∈ rs, p ∈ r1 ++ r2) → ∀ p ∈ rs, p.1 ∈ es ∧ ∀ h, p.2 = some h → h ∈ es := fun {rs} h p hp => ⟨(hm _).mpr (List.mem_cons_of_mem _ (mem_endsOf.mpr ⟨p, h p hp, .inl rfl⟩)), fun x hx => (hm _).mpr (List.mem_cons_of_mem _ (mem_endsOf.mpr ⟨p, h p hp, .inr hx⟩))⟩
  refine ⟨hs, ?_, nn, sub fun p hp => List.mem_append_left _ hp, sub fun p hp => List.mem_append_right _ hp, ?_⟩
  · have h0 : (0 : Int) ∈ es := (hm 0).mpr List.mem_cons_self
    cases es with
    | nil => cases h0
    | cons a r =>
      have ha := (nn a List.mem_cons_self).1
      rcases List.mem_cons.mp h0 with h | h
      · rw [← h]; rfl
      · have := (List.pairwise_cons.mp hs).1 0 h
        rw [show a = 0 by omega]; rfl
  · have h1 := hp.length_eq
    have h2 := endsOf_len (r1 ++ r2)
    rw [List.length_append] at h2
    rw [List.length_cons] at h1
    omega
theorem N25.near {rs : List Pr} (h : N25 rs) : Near rs := fun p hp => ⟨by have := (h p hp).1; omega, fun x hx => by have := (h p hp).2 x hx; omega⟩
theorem row_seg {s1 s2 : Int} {r1 r2 : List Pr} {cs : List Int} {i : Nat} {c : Int} (a1 : Asc (-1) r1) (a2 : Asc (-1) r2) (hC : Cuts cs r1 r2) (hc : cs[i]? = some c) : NM.Seg (val s1 r1) (val s2 r2) c cs[i + 1]? (val s1 r1 c) (slp r1 c) (val s2 r2 c) (slp r2 c) := fun k hk hx => by
  cases hd : cs[i + 1]? with
  | none =>
    have hi := lt_of_get hc
    have hn : i + 1 = cs.length := by have := List.getElem?_eq_none_iff.mp hd; omega
    have e : cs = cs.take i ++ [c] := by rw [← NM.take_snoc hc, hn, List.take_length]
    exact ⟨NM.seg_out a1 hC.e1 hC.pw e hk, NM.seg_out a2 hC.e2 hC.pw e hk⟩
  | some d =>
    have hk' := hx d hd
    exact ⟨NM.seg_in a1 hC.e1 hC.pw (split_at hc hd) hk hk', NM.seg_in a2 hC.e2 hC.pw (split_at hc hd) hk hk'⟩
theorem Edg.sorted {es : List Int} {l : Int} {r1 r2 : List Pr} (h : Edg es l r1 r2) {i j : Nat} {x y : Int} (hij : i ≤ j) (hx : (es ++ [l + 10 ^ 40])[i]? = some x) (hy : (es ++ [l + 10 ^ 40])[j]? = some y) : x ≤ y := by
  have key : ∀ {a b : Nat} {x y : Int}, a ≤ b → es[a]? = some x → es[b]? = some y → x ≤ y := fun {a b x y} hab ha hb => by
    rcases Nat.lt_or_eq_of_le hab with h1 | h1
    · obtain ⟨g1, rfl⟩ := List.getElem?_eq_some_iff.mp ha
      obtain ⟨g2, rfl⟩ := List.getElem?_eq_some_iff.mp hb
      exact List.pairwise_iff_getElem.mp h.pw a b g1 g2 h1
    · subst h1; rw [ha] at hb; cases hb; exact Int.le_refl _
  rcases Nat.lt_or_ge j es.length with h1 | h1
  · rw [List.getElem?_append_left (by omega)] at hx
    rw [List.getElem?_append_left h1] at hy
    exact key hij hx hy
  · have hjl : j = es.length := by
      have := lt_of_get hy
      rw [List.length_append] at this
      have h2 : ([l + 10 ^ 40] : List Int).length = 1 := rfl
      omega
    subst hjl
    rw [List.getElem?_append_right (Nat.le_refl _), Nat.sub_self] at hy
    cases hy
    rcases Nat.lt_or_ge i es.length with h2 | h2
    · rw [List.getElem?_append_left h2] at hx
      have := key (show i ≤ es.length - 1 by omega) hx h.last
      omega
    · rw [List.getElem?_append_right h2, show i - es.length = 0 by omega] at hx
      cases hx
      exact Int.le_refl _
def moreB (n1 n2 : Nd) (k : Option Int) : Bool := !(atm (nval n1 k) (nval n2 k))
def Exc (n1 n2 : Nd) : Option (Option Int) → Prop
  | some (some x) => 0 ≤ x ∧ moreB n1 n2 (some x) = true ∧ ∀ k, 0 ≤ k → k < x → moreB n1 n2 (some k) = false
  | some none => (∀ k, 0 ≤ k → moreB n1 n2 (some k) = false) ∧ moreB n1 n2 none = true
  | none => (∀ k, 0 ≤ k → moreB n1 n2 (some k) = false) ∧ moreB n1 n2 none = false
def exP : Option (Option Int) → P
  | none => .tup []
  | some k => .tup [oI k]
def sureF (n : Nd) (p : Int) : Option Int := match n.s with
  | none => some (-1)
  | some s => if p < s then some (-1) else NM.riseF n.rs (p - s)
theorem exc_at (a b : Option Int) : excB a b = !(atm a b) := by
  cases b with
  | none => cases a <;> rfl
  | some y =>
    cases a with
    | none => rfl
    | some x =>
      show decide (x > y) = !(decide (x ≤ y))
      by_cases h : x ≤ y
      · rw [decide_eq_true h, decide_eq_false (by omega)]; rfl
      · rw [decide_eq_false h, decide_eq_true (by omega)]; rfl
theorem atm_n (a : Option Int) : atm a none = true := by cases a <;> rfl
theorem more_val {s1 s2 : Int} {r1 r2 : List Pr} {v1 v2 : Option Int} (k : Int) : moreB ⟨some s1, r1, v1⟩ ⟨some s2, r2, v2⟩ (some k) = decide (val s2 r2 k < val s1 r1 k) := by
  show (!(decide (val s1 r1 k ≤ val s2 r2 k))) = _
  by_cases h : val s1 r1 k ≤ val s2 r2 k
  · rw [decide_eq_true h, decide_eq_false (by omega)]; rfl
  · rw [decide_eq_false h, decide_eq_true (by omega)]; rfl
theorem more_none {s1 s2 : Option Int} {r1 r2 : List Pr} {v1 v2 : Option Int} : moreB ⟨s1, r1, v1⟩ ⟨s2, r2, v2⟩ none = excB v1 v2 := by
  rw [exc_at]
  show (!(atm _ _)) = _
  rw [show nval ⟨s1, r1, v1⟩ none = v1 by cases s1 <;> rfl, show nval ⟨s2, r2, v2⟩ none = v2 by cases s2 <;> rfl]
theorem nval_nn0 {n : Nd} (ok : NOk n) (h : n.s = none) (k : Option Int) : nval n k = none := by
  obtain ⟨s, rs, v⟩ := n
  simp only at h
  subst h
  rw [show nval ⟨none, rs, v⟩ k = v by cases k <;> rfl, nv_none ok]
theorem exc_nn {n1 n2 : Nd} (ok2 : NOk n2) (h2 : n2.s = none) : Exc n1 n2 none := by
  have : ∀ k, moreB n1 n2 k = false := fun k => by unfold moreB; rw [nval_nn0 ok2 h2, atm_n]; rfl
  exact ⟨fun k _ => this _, this _⟩
theorem exc_0 {n1 n2 : Nd} (ok1 : NOk n1) (h1 : n1.s = none) (h2 : n2.s ≠ none) : Exc n1 n2 (some (some 0)) := by
  refine ⟨Int.le_refl _, ?_, fun k a b => by omega⟩
  unfold moreB
  rw [nval_nn0 ok1 h1]
  obtain ⟨s, rs, v⟩ := n2
  cases s with
  | none => exact absurd rfl h2
  | some s => rfl
theorem exc_of {s1 s2 : Int} {r1 r2 : List Pr} {v1 v2 : Option Int} {o : Option Int} (h : NM.FirstA (val s1 r1) (val s2 r2) o) : Exc ⟨some s1, r1, v1⟩ ⟨some s2, r2, v2⟩ (match o with | some x => some (some x) | none => if excB v1 v2 = true then some none else none) := by
  cases o with
  | some x =>
    obtain ⟨h0, h1, h2⟩ := h
    refine ⟨h0, ?_, fun k a b => ?_⟩
    · rw [more_val]; exact decide_eq_true h1
    · rw [more_val]; exact decide_eq_false (by have := h2 k a b; omega)
  | none =>
    have hk : ∀ k, 0 ≤ k → moreB ⟨some s1, r1, v1⟩ ⟨some s2, r2, v2⟩ (some k) = false := fun k a => by
      rw [more_val]; exact decide_eq_false (by have := h k a; omega)
    cases hb : excB v1 v2 with
    | false => exact ⟨hk, by rw [more_none, hb]⟩
    | true => exact ⟨hk, by rw [more_none, hb]⟩
theorem Exc.uniq {n1 n2 : Nd} {a b : Option (Option Int)} (h : Exc n1 n2 a) (g : Exc n1 n2 b) : a = b := by
  rcases a with _ | _ | x <;> rcases b with _ | _ | y
  · rfl
  · have := h.2; rw [g.2] at this; cases this
  · have := h.1 y g.1; rw [g.2.1] at this; cases this
  · have := h.2; rw [g.2] at this; cases this
  · rfl
  · have := h.1 y g.1; rw [g.2.1] at this; cases this
  · have := g.1 x h.1; rw [h.2.1] at this; cases this
  · have := g.1 x h.1; rw [h.2.1] at this; cases this
  · rcases Int.lt_or_le x y with e | e
    · have := g.2.2 x h.1 e; rw [h.2.1] at this; cases this
    · rcases Int.lt_or_le y x with e2 | e2
      · have := h.2.2 y g.1 e2; rw [g.2.1] at this; cases this
      · rw [show x = y by omega]
theorem atm_self (a : Option Int) : atm a a = true := by
  cases a with
  | none => rfl
  | some x => exact decide_eq_true (Int.le_refl x)
theorem exc_self (n : Nd) : Exc n n none := ⟨fun k _ => by unfold moreB; rw [atm_self]; rfl, by unfold moreB; rw [atm_self]; rfl⟩
theorem eqv_oI (a b : Option Int) : PyData.eqv (oI a).toD (oI b).toD = decide (a = b) := by
  cases a <;> cases b
  · show PyData.eqv .none .none = _
    simp [PyData.eqv]
  · show PyData.eqv .none (.int _) = _
    simp [PyData.eqv]
  · show PyData.eqv (.int _) .none = _
    simp [PyData.eqv]
  · rename_i x y
    show PyData.eqv (.int x) (.int y) = _
    rw [PyData.eqv]
    by_cases h : x = y
    · subst h; simp
    · rw [decide_eq_false (by intro h2; exact h (Option.some.inj h2))]
      exact beq_false_of_ne h
theorem eqv_prP (p q : Pr) : PyData.eqv (prP p).toD (prP q).toD = decide (p = q) := by
  obtain ⟨l1, h1⟩ := p
  obtain ⟨l2, h2⟩ := q
  show PyData.eqv (.tuple [.int l1, (oI h1).toD]) (.tuple [.int l2, (oI h2).toD]) = _
  rw [PyData.eqv, PyData.eqvAll, PyData.eqvAll, PyData.eqvAll, eqv_oI, PyData.eqv]
  by_cases a : l1 = l2
  · by_cases b : h1 = h2
    · subst a b; simp
    · simp [a, b]
  · simp [a]
theorem eqvAll_rs : ∀ r1 r2 : List Pr, PyData.eqvAll (P.toDs (pRs r1)) (P.toDs (pRs r2)) = decide (r1 = r2)
  | [], [] => by show PyData.eqvAll [] [] = _; rw [PyData.eqvAll]; rfl
  | [], _ :: _ => by show PyData.eqvAll [] (_ :: _) = _; rw [PyData.eqvAll]; rfl
  | _ :: _, [] => by show PyData.eqvAll (_ :: _) [] = _; rw [PyData.eqvAll]; rfl
  | p :: r1, q :: r2 => by
    show PyData.eqvAll ((prP p).toD :: P.toDs (pRs r1)) ((prP q).toD :: P.toDs (pRs r2)) = _
    rw [PyData.eqvAll, eqv_prP, eqvAll_rs r1 r2]
    by_cases a : p = q
    · by_cases b : r1 = r2
      · subst a b; simp
      · simp [a, b]
    · simp [a]
theorem eqv_rs (r1 r2 : List Pr) : PyData.eqv (P.tup (pRs r1)).toD (P.tup (pRs r2)).toD = decide (r1 = r2) := by
  show PyData.eqv (.tuple (P.toDs (pRs r1))) (.tuple (P.toDs (pRs r2))) = _
  rw [PyData.eqv, eqvAll_rs]
def eqN (n1 n2 : Nd) : Bool := decide (n1.s = n2.s) && (decide (n1.rs = n2.rs) && decide (n1.nv = n2.nv))
theorem eqN_iff {n1 n2 : Nd} : eqN n1 n2 = true ↔ n1 = n2 := by
  obtain ⟨s1, r1, v1⟩ := n1
  obtain ⟨s2, r2, v2⟩ := n2
  unfold eqN
  simp
def KV (k : Option Int) : Prop := ∀ x, k = some x → 0 ≤ x
theorem nval_kv {n : Nd} (ok : NOk n) (k : Option Int) : KV (nval n k) := fun x h => nval_nn ok h
/-- needs with the same values are one -/
theorem nd_ext {a b : Nd} (oka : NOk a) (okb : NOk b) (h : ∀ k, KV k → nval a k = nval b k) : a = b := by
  have h0 := h none (fun x e => by cases e)
  obtain ⟨s1, r1, v1⟩ := a
  obtain ⟨s2, r2, v2⟩ := b
  have ev : v1 = v2 := by
    have e1 : nval ⟨s1, r1, v1⟩ none = v1 := by cases s1 <;> rfl
    have e2 : nval ⟨s2, r2, v2⟩ none = v2 := by cases s2 <;> rfl
    rw [e1, e2] at h0
    exact h0
  have hk : ∀ k : Int, 0 ≤ k → nval ⟨s1, r1, v1⟩ (some k) = nval ⟨s2, r2, v2⟩ (some k) := fun k hk => h (some k) fun x e => by cases e; exact hk
  cases s1 with
  | none =>
    cases s2 with
    | none =>
      have e1 : r1 = [] := oka.no rfl
      have e2 : r2 = [] := okb.no rfl
      subst e1 e2 ev
      rfl
    | some s2 =>
      have := hk 0 (Int.le_refl _)
      rw [nval_nn0 oka rfl] at this
      cases this
  | some s1 =>
    cases s2 with
    | none =>
      have := hk 0 (Int.le_refl _)
      rw [nval_nn0 okb rfl] at this
      cases this
    | some s2 =>
      have hv : ∀ k : Int, 0 ≤ k → val s1 r1 k = val s2 r2 k := fun k h0 => Option.some.inj (hk k h0)
      have es : s1 = s2 := by
        have := hv 0 (Int.le_refl _)
        rw [NM.val_zero oka.asc, NM.val_zero okb.asc] at this
        exact this
      have er : r1 = r2 := NM.asc_uniq oka.asc okb.asc fun k h0 => by
        have := hv k (by omega)
        unfold val at this
        omega
      subst es er ev
      rfl
/-- how large a need is -/
structure Tm (n : Nd) (L : Nat) (M : Int) : Prop where
  ok : NOk n
  len : n.rs.length ≤ L
  sb : ∀ s, n.s = some s → s ≤ M
  nb : ∀ v, n.nv = some v → v ≤ M
  nr : NM.Ends_ n.rs M
  m0 : 0 ≤ M
theorem Tm.mono {n : Nd} {L L' : Nat} {M M' : Int} (h : Tm n L M) (hL : L ≤ L') (hM : M ≤ M') : Tm n L' M' := ⟨h.ok, by have := h.len; omega, fun s e => by have := h.sb s e; omega, fun s e => by have := h.nb s e; omega, fun p hp => ⟨by have := (h.nr p hp).1; omega, fun x e => by have := (h.nr p hp).2 x e; omega⟩, by have := h.m0; omega⟩
theorem Tm.near {n : Nd} {L : Nat} {M : Int} (h : Tm n L M) (hM : M ≤ 10 ^ 250) : Near n.rs := fun p hp => ⟨by have := (h.nr p hp).1; omega, fun x e => by have := (h.nr p hp).2 x e; omega⟩
theorem Tm.rs {n1 n2 n : Nd} {L1 L2 L : Nat} {M M' : Int} (r : RsN n1 n2 n) (h1 : Tm n1 L1 M) (h2 : Tm n2 L2 M) (hL : L1 + L2 ≤ L) (hM : 4 * M ≤ M') : Tm n L M' := by
  have hm0 := h1.m0
  have hlen := r.len
  have hl1 := h1.len
  have hl2 := h2.len
  have hsz : ∀ k x, KV k → (∀ y, k = some y → y ≤ M) → nval n1 k = some x → x ≤ 2 * M := fun k x hk hy e => by
    obtain ⟨s1, r1, v1⟩ := n1
    cases s1 with
    | none => rw [nval_nn0 h1.ok rfl] at e; cases e
    | some s1 =>
      cases k with
      | none => have := h1.nb x e; omega
      | some y =>
        cases e
        have a1 : Asc (-1) r1 := h1.ok.asc
        have g1 := (NM.val_grow (s := s1) a1 (hk y rfl)).2
        rw [NM.val_zero a1] at g1
        have g2 := h1.sb s1 rfl
        have g3 := hy y rfl
        show val s1 r1 y ≤ 2 * M
        omega
  refine ⟨r.ok, by omega, fun s e => ?_, fun v e => ?_, ?_, by omega⟩
  · have e0 := r.val (some 0) (fun x h => by cases h; exact Int.le_refl _)
    have e1 : nval n (some 0) = some s := by
      obtain ⟨s', rs', v'⟩ := n
      simp only at e
      subst e
      show some (val s rs' 0) = some s
      rw [NM.val_zero r.ok.asc]
    rw [e1] at e0
    have := hsz _ s (nval_kv h2.ok _) (fun y hy => by
      obtain ⟨s2, r2, v2⟩ := n2
      cases s2 with
      | none => rw [nval_nn0 h2.ok rfl] at hy; cases hy
      | some s2 =>
        cases hy
        rw [NM.val_zero h2.ok.asc]
        exact h2.sb s2 rfl) e0.symm
    omega
  · have e0 := r.val none (fun x h => by cases h)
    have e1 : nval n none = some v := by
      obtain ⟨s', rs', v'⟩ := n
      simp only at e
      subst e
      cases s' <;> rfl
    rw [e1] at e0
    have := hsz _ v (nval_kv h2.ok _) (fun y hy => by
      obtain ⟨s2, r2, v2⟩ := n2
      exact h2.nb y (by cases s2 <;> exact hy)) e0.symm
    omega
  · obtain ⟨s1, r1, v1⟩ := n1
    obtain ⟨s2, r2, v2⟩ := n2
    obtain ⟨s, rs, v⟩ := n
    cases s with
    | none =>
      have : rs = [] := r.ok.no rfl
      subst this
      exact fun p hp => by cases hp
    | some s =>
      have hv : ∀ k : Int, 0 ≤ k → some (val s rs k) = nval ⟨s1, r1, v1⟩ (nval ⟨s2, r2, v2⟩ (some k)) := fun k h0 => r.val (some k) fun x e => by cases e; exact h0
      cases s1 with
      | none => have := hv 0 (Int.le_refl _); rw [nval_nn0 h1.ok rfl] at this; cases this
      | some s1 =>
        cases s2 with
        | none =>
          have hc : ∀ k : Int, 0 ≤ k → some (val s rs k) = v1 := fun k h0 => by
            have := hv k h0
            rw [nval_nn0 h2.ok rfl] at this
            exact this
          have ar : Asc (-1) rs := r.ok.asc
          have := NM.ends_of (M := 0) ar fun k h0 => by
            have e1 := (hc k h0).trans (hc 0 (Int.le_refl _)).symm
            have e2 := (hc (k + 1) (by omega)).trans (hc 0 (Int.le_refl _)).symm
            have e3 := (hc 1 (by decide)).trans (hc 0 (Int.le_refl _)).symm
            have e1 := Option.some.inj e1
            have e2 := Option.some.inj e2
            have e3 := Option.some.inj e3
            unfold NM.slp
            unfold val at e1 e2 e3
            rw [show (0 : Int) + 1 = 1 from rfl]
            omega
          exact fun p hp => ⟨by have := (this p hp).1; omega, fun x e => by have := (this p hp).2 x e; omega⟩
        | some s2 =>
          have := NM.ends_comp (s := s) (s1 := s1) (s2 := s2) r.ok.asc h1.ok.asc h2.ok.asc (h2.ok.s0 s2 rfl) hm0 h1.nr h2.nr fun k h0 => Option.some.inj (hv k h0)
          exact fun p hp => ⟨by have := (this p hp).1; omega, fun x e => by have := (this p hp).2 x e; omega⟩
theorem mx_le {a b M : Int} (h1 : a ≤ M) (h2 : b ≤ M) : NM.mxI a b ≤ M ∧ NM.mnI a b ≤ M := by
  unfold NM.mxI NM.mnI
  constructor <;> split <;> omega
theorem soon_le {a b : Option Int} {M x : Int} (h1 : ∀ y, a = some y → y ≤ M) (h2 : ∀ y, b = some y → y ≤ M) (h : NM.soon a b = some x) : x ≤ M := by
  cases a with
  | none => exact h2 x h
  | some y =>
    cases b with
    | none => exact h1 x h
    | some z =>
      cases h
      exact (mx_le (h1 y rfl) (h2 z rfl)).2
theorem gr_le {a b : Option Int} {M x : Int} (h1 : ∀ y, a = some y → y ≤ M) (h2 : ∀ y, b = some y → y ≤ M) (h : grO a b = some x) : x ≤ M := by
  cases a with
  | none => cases h
  | some y =>
    cases b with
    | none => cases h
    | some z =>
      cases h
      exact (mx_le (h1 y rfl) (h2 z rfl)).1
theorem nval_0 {n : Nd} (ok : NOk n) : nval n (some 0) = n.s := by
  obtain ⟨s, rs, v⟩ := n
  cases s with
  | none => exact nval_nn0 ok rfl _
  | some s =>
    show some (val s rs 0) = some s
    rw [NM.val_zero ok.asc]
theorem nval_n (n : Nd) : nval n none = n.nv := by
  obtain ⟨s, rs, v⟩ := n
  cases s <;> rfl
theorem kv0 : KV (some 0) := fun x h => by cases h; exact Int.le_refl _
theorem kvn : KV none := fun x h => by cases h
theorem Tm.or_and {n1 n2 n : Nd} {L1 L2 L : Nat} {M M' : Int} (r : OrN n1 n2 n ∨ AndN n1 n2 n) (h1 : Tm n1 L1 M) (h2 : Tm n2 L2 M) (hL : 2 * (L1 + L2) + 1 ≤ L) (hM : 4 * M ≤ M') : Tm n L M' := by
  have hm0 := h1.m0
  have hlen : n.rs.length ≤ 2 * (n1.rs.length + n2.rs.length) + 1 := r.elim (·.len) (·.len)
  have ok : NOk n := r.elim (·.ok) (·.ok)
  have hl1 := h1.len
  have hl2 := h2.len
  refine ⟨ok, by omega, fun s e => ?_, fun v e => ?_, ?_, by omega⟩
  · have : s ≤ M := by
      rcases r with r | r
      · have e0 := r.val (some 0) kv0
        rw [nval_0 ok, nval_0 h1.ok, nval_0 h2.ok, e] at e0
        exact soon_le h1.sb h2.sb e0.symm
      · have e0 := r.val (some 0) kv0
        rw [nval_0 ok, nval_0 h1.ok, nval_0 h2.ok, e] at e0
        exact gr_le h1.sb h2.sb e0.symm
    omega
  · have : v ≤ M := by
      rcases r with r | r
      · have e0 := r.val none kvn
        rw [nval_n, nval_n, nval_n, e] at e0
        exact soon_le h1.nb h2.nb e0.symm
      · have e0 := r.val none kvn
        rw [nval_n, nval_n, nval_n, e] at e0
        exact gr_le h1.nb h2.nb e0.symm
    omega
  · have wide : ∀ {rs : List Pr}, NM.Ends_ rs (4 * M) → NM.Ends_ rs M' := fun h p hp => ⟨by have := (h p hp).1; omega, fun x e => by have := (h p hp).2 x e; omega⟩
    have wid2 : ∀ {rs : List Pr}, NM.Ends_ rs M → NM.Ends_ rs M' := fun h p hp => ⟨by have := (h p hp).1; omega, fun x e => by have := (h p hp).2 x e; omega⟩
    obtain ⟨s1, r1, v1⟩ := n1
    obtain ⟨s2, r2, v2⟩ := n2
    obtain ⟨s, rs, v⟩ := n
    have ar : Asc (-1) rs := ok.asc
    have a1 : Asc (-1) r1 := h1.ok.asc
    have a2 : Asc (-1) r2 := h2.ok.asc
    cases s with
    | none =>
      have : rs = [] := ok.no rfl
      subst this
      exact fun p hp => by cases hp
    | some s =>
      have same : ∀ {s' : Int} {r' : List Pr}, Asc (-1) r' → (∀ k : Int, 0 ≤ k → val s rs k = val s' r' k) → rs = r' := fun {s' r'} a' h => NM.asc_uniq ar a' fun k hk => by
        have e1 := h k (by omega)
        have e2 := h 0 (Int.le_refl _)
        rw [NM.val_zero ar, NM.val_zero a'] at e2
        unfold val at e1
        omega
      cases s1 with
      | none =>
        cases s2 with
        | none =>
          exfalso
          rcases r with r | r
          · have e0 := r.val (some 0) kv0
            rw [nval_nn0 h1.ok rfl, nval_nn0 h2.ok rfl] at e0
            cases e0
          · have e0 := r.val (some 0) kv0
            rw [nval_nn0 h1.ok rfl] at e0
            cases e0
        | some s2 =>
          rcases r with r | r
          · rw [same a2 (s' := s2) fun k h0 => by
              have e0 := r.val (some k) fun x e => by cases e; exact h0
              rw [nval_nn0 h1.ok rfl] at e0
              exact Option.some.inj e0]
            exact wid2 h2.nr
          · exfalso
            have e0 := r.val (some 0) kv0
            rw [nval_nn0 h1.ok rfl] at e0
            cases e0
      | some s1 =>
        cases s2 with
        | none =>
          rcases r with r | r
          · rw [same a1 (s' := s1) fun k h0 => by
              have e0 := r.val (some k) fun x e => by cases e; exact h0
              rw [nval_nn0 h2.ok rfl, soon_none] at e0
              exact Option.some.inj e0]
            exact wid2 h1.nr
          · exfalso
            have e0 := r.val (some 0) kv0
            rw [nval_nn0 h2.ok rfl, grO_none] at e0
            cases e0
        | some s2 =>
          refine wide (NM.ends_mn (s := s) (s1 := s1) (s2 := s2) ar a1 a2 (h1.ok.s0 s1 rfl) (h2.ok.s0 s2 rfl) (h1.sb s1 rfl) (h2.sb s2 rfl) h1.nr h2.nr ?_)
          rcases r with r | r
          · exact .inl fun k h0 => Option.some.inj (r.val (some k) fun x e => by cases e; exact h0)
          · exact .inr fun k h0 => Option.some.inj (r.val (some k) fun x e => by cases e; exact h0)
/-! the laws of least and greatest -/
theorem mxmn (x y z : Int) : (NM.mxI x x = x ∧ NM.mnI x (NM.mxI x y) = x ∧ NM.mxI x (NM.mnI x y) = x ∧ NM.mxI x y = NM.mxI y x) ∧ NM.mxI x (NM.mnI y z) = NM.mnI (NM.mxI x y) (NM.mxI x z) := by
  unfold NM.mxI NM.mnI
  refine ⟨⟨?_, ?_, ?_, ?_⟩, ?_⟩ <;> (repeat' split) <;> omega
theorem gr_self (a : Option Int) : grO a a = a := by
  cases a with
  | none => rfl
  | some x => show some (NM.mxI x x) = _; rw [(mxmn x x x).1.1]
theorem gr_comm (a b : Option Int) : grO a b = grO b a := by
  cases a <;> cases b <;> try rfl
  rename_i x y
  show some (NM.mxI x y) = some (NM.mxI y x)
  rw [(mxmn x y y).1.2.2.2]
theorem soon_gr (a b : Option Int) : NM.soon a (grO a b) = a := by
  cases a <;> cases b <;> try rfl
  rename_i x y
  show some (NM.mnI x (NM.mxI x y)) = _
  rw [(mxmn x y y).1.2.1]
theorem gr_soon (a b : Option Int) : grO a (NM.soon a b) = a := by
  cases a <;> cases b <;> try rfl
  · rename_i x
    show some (NM.mxI x x) = _
    rw [(mxmn x x x).1.1]
  · rename_i x y
    show some (NM.mxI x (NM.mnI x y)) = _
    rw [(mxmn x y y).1.2.2.1]
theorem gr_dist (a b c : Option Int) : grO a (NM.soon b c) = NM.soon (grO a b) (grO a c) := by
  cases a <;> cases b <;> cases c <;> try rfl
  rename_i x y z
  show some (NM.mxI x (NM.mnI y z)) = some (NM.mnI (NM.mxI x y) (NM.mxI x z))
  rw [(mxmn x y z).2]
theorem OrN.of {a b n : Nd} (h : OrN a b n) {k : Option Int} (hk : KV k) : nval n k = NM.soon (nval a k) (nval b k) := h.val k hk
abbrev T0 (n : Nd) : Prop := Tm n 10 (10 ^ 41)
abbrev T1 (n : Nd) : Prop := Tm n 50 (10 ^ 42)
theorem T0.t1 {n : Nd} (h : T0 n) : T1 n := h.mono (by decide) (by decide +kernel)
theorem t_rs {a b n : Nd} (r : RsN a b n) (h1 : T0 a) (h2 : T0 b) : T1 n := Tm.rs r h1 h2 (by decide) (by decide +kernel)
theorem t_or {a b n : Nd} (r : OrN a b n) (h1 : T0 a) (h2 : T0 b) : T1 n := Tm.or_and (.inl r) h1 h2 (by decide) (by decide +kernel)
theorem t_and {a b n : Nd} (r : AndN a b n) (h1 : T0 a) (h2 : T0 b) : T1 n := Tm.or_and (.inr r) h1 h2 (by decide) (by decide +kernel)
theorem pr {a b : Nd} (h1 : T1 a) (h2 : T1 b) : NOk a ∧ NOk b ∧ a.rs.length ≤ 200 ∧ b.rs.length ≤ 200 ∧ Near a.rs ∧ Near b.rs := ⟨h1.ok, h2.ok, by have := h1.len; omega, by have := h2.len; omega, h1.near (by decide +kernel), h2.near (by decide +kernel)⟩
theorem pq {a b : Nd} (h1 : T1 a) (h2 : T1 b) : NOk a ∧ NOk b ∧ a.rs.length ≤ 500 ∧ b.rs.length ≤ 500 := ⟨h1.ok, h2.ok, by have := h1.len; omega, by have := h2.len; omega⟩
theorem or_rs {f g h a b c d e : Nd} (okh : NOk h) (ha : OrN f g a) (hb : RsN a h b) (hc : RsN f h c) (hd : RsN g h d) (he : OrN c d e) : b = e := nd_ext hb.ok he.ok fun k hk => by rw [hb.val k hk, ha.val _ (nval_kv okh k), he.val k hk, hc.val k hk, hd.val k hk]
theorem and_rs {f g h a b c d e : Nd} (okh : NOk h) (ha : AndN f g a) (hb : RsN a h b) (hc : RsN f h c) (hd : RsN g h d) (he : AndN c d e) : b = e := nd_ext hb.ok he.ok fun k hk => by rw [hb.val k hk, ha.val _ (nval_kv okh k), he.val k hk, hc.val k hk, hd.val k hk]
theorem or_self {f a : Nd} (ok : NOk f) (h : OrN f f a) : a = f := nd_ext h.ok ok fun k hk => by rw [h.val k hk, NM.soon_self]
theorem and_self_ {f a : Nd} (ok : NOk f) (h : AndN f f a) : a = f := nd_ext h.ok ok fun k hk => by rw [h.val k hk, gr_self]
theorem or_and {f g a b : Nd} (ok : NOk f) (ha : AndN f g a) (h : OrN f a b) : b = f := nd_ext h.ok ok fun k hk => by rw [h.val k hk, ha.val k hk, soon_gr]
theorem and_or {f g a b : Nd} (ok : NOk f) (ha : OrN f g a) (h : AndN f a b) : b = f := nd_ext h.ok ok fun k hk => by rw [h.val k hk, ha.val k hk, gr_soon]
theorem or_comm_ {f g a b : Nd} (ha : OrN f g a) (hb : OrN g f b) : a = b := nd_ext ha.ok hb.ok fun k hk => by rw [ha.val k hk, hb.val k hk, NM.soon_comm]
theorem and_comm_ {f g a b : Nd} (ha : AndN f g a) (hb : AndN g f b) : a = b := nd_ext ha.ok hb.ok fun k hk => by rw [ha.val k hk, hb.val k hk, gr_comm]
theorem or_assoc_ {f g h a b c d : Nd} (ha : OrN f g a) (hb : OrN a h b) (hc : OrN g h c) (hd : OrN f c d) : b = d := nd_ext hb.ok hd.ok fun k hk => by rw [hb.val k hk, ha.val k hk, hd.val k hk, hc.val k hk, NM.soon_assoc]
theorem and_dist {f g h a b c d e : Nd} (ha : OrN g h a) (hb : AndN f a b) (hc : AndN f g c) (hd : AndN f h d) (he : OrN c d e) : b = e := nd_ext hb.ok he.ok fun k hk => by rw [hb.val k hk, ha.val k hk, he.val k hk, hc.val k hk, hd.val k hk, gr_dist]
theorem rs_assoc {f g h a b c d : Nd} (okh : NOk h) (ha : RsN f g a) (hb : RsN a h b) (hc : RsN g h c) (hd : RsN f c d) : b = d := nd_ext hb.ok hd.ok fun k hk => by rw [hb.val k hk, ha.val _ (nval_kv okh k), hd.val k hk, hc.val k hk]
theorem atm_anti {a b : Option Int} (h1 : atm a b = true) (h2 : atm b a = true) : a = b := by
  cases a with
  | none =>
    cases b with
    | none => rfl
    | some y => cases h1
  | some x =>
    cases b with
    | none => cases h2
    | some y =>
      have := of_decide_eq_true h1
      have := of_decide_eq_true h2
      rw [show x = y by omega]
theorem exc_none {n1 n2 : Nd} (h : Exc n1 n2 none) (k : Option Int) (hk : KV k) : atm (nval n1 k) (nval n2 k) = true := by
  have : moreB n1 n2 k = false := by
    cases k with
    | none => exact h.2
    | some x => exact h.1 x (hk x rfl)
  unfold moreB at this
  cases e : atm (nval n1 k) (nval n2 k) with
  | true => rfl
  | false => rw [e] at this; cases this
theorem exc_both {n1 n2 : Nd} (ok1 : NOk n1) (ok2 : NOk n2) (h1 : Exc n1 n2 none) (h2 : Exc n2 n1 none) : n1 = n2 := nd_ext ok1 ok2 fun k hk => atm_anti (exc_none h1 k hk) (exc_none h2 k hk)
theorem exc_mk {n1 n2 : Nd} (h : ∀ k, KV k → atm (nval n1 k) (nval n2 k) = true) : Exc n1 n2 none := ⟨fun k hk => by unfold moreB; rw [h (some k) fun x e => by cases e; exact hk]; rfl, by unfold moreB; rw [h none kvn]; rfl⟩
theorem shp_ex (o : Option (Option Int)) : Shp (exP o) 1 := by
  cases o with
  | none => exact ⟨rfl, by decide⟩
  | some o =>
    have := Shp.tup (f := oI) (xs := [o]) (n := 0) fun x _ => shp_oI x
    exact this
theorem eqv_exN : PyData.eqv (exP none).toD (P.tup []).toD = true := by
  show PyData.eqv (.tuple []) (.tuple []) = true
  rw [PyData.eqv, PyData.eqvAll]
theorem eqv_exS (o : Option Int) : PyData.eqv (exP (some o)).toD (P.tup []).toD = false := by
  show PyData.eqv (.tuple [(oI o).toD]) (.tuple []) = false
  rw [PyData.eqv, PyData.eqvAll]
theorem eqv_bl (a b : Bool) : PyData.eqv (P.bl a).toD (P.bl b).toD = (a == b) := by
  show PyData.eqv (.bool a) (.bool b) = _
  rw [PyData.eqv]
theorem mine_val {l k : Int} (h0 : 0 ≤ l) (hk : 0 ≤ k) : val 0 (if 0 < l then [(0, some l)] else []) k = if l < k then l else k := by
  by_cases h : 0 < l
  · rw [if_pos h]
    unfold val
    show 0 + (con (0, some l) k + 0) = _
    rw [NM.con_some]
    (repeat' split) <;> omega
  · rw [if_neg h]
    show (0 : Int) + 0 = _
    (repeat' split) <;> omega
theorem id_val {k : Int} (h : 0 ≤ k) : val 0 [(0, none)] k = k := by
  unfold val
  show 0 + (con (0, none) k + 0) = _
  rw [NM.con_none]
  split <;> omega
/-- where a need has no greatest number that it needs, all are needed -/
theorem flat_all {s k : Int} {rs : List Pr} (a : Asc (-1) rs) (hs : 0 ≤ s) (h : flatF rs 0 s = none) (hk : 0 ≤ k) : k ≤ val s rs k := by
  obtain ⟨lo, h1, h2, h3⟩ := NM.flat_none (b := 0) a hs h
  rcases Int.lt_or_le k lo with q | q
  · have := (NM.val_grow (s := s) a (Int.le_of_lt q)).2
    unfold val at this ⊢
    omega
  · have := NM.opn_from a h1 q
    unfold val
    omega
theorem flat_opn {s : Int} {rs : List Pr} (a : Asc (-1) rs) (hs : 0 ≤ s) (h : flatF rs 0 s = none) : ∃ lo, Opn rs lo := by
  obtain ⟨lo, h1, _⟩ := NM.flat_none (b := 0) a hs h
  exact ⟨lo, h1⟩
theorem mine_cases {n : Nd} (ok : NOk n) : (mineF n = ⟨some 0, [(0, none)], none⟩ ∧ n.nv = none ∧ ∀ s, n.s = some s → ∀ k, 0 ≤ k → k ≤ val s n.rs k) ∨ ∃ s l, n.s = some s ∧ NM.IsG s n.rs l ∧ flatF n.rs 0 s = some l ∧ mineF n = ⟨some 0, if 0 < l then [(0, some l)] else [], if n.nv = none then none else some l⟩ := by
  obtain ⟨o, rs, v⟩ := n
  have a : Asc (-1) rs := ok.asc
  cases o with
  | none => exact .inl ⟨rfl, nv_none ok, fun s h => by cases h⟩
  | some s =>
    have hs := ok.s0 s rfl
    cases h : flatF rs 0 s with
    | none =>
      refine .inl ⟨?_, ?_, fun s' e k hk => by cases e; exact flat_all a hs h hk⟩
      · unfold mineF
        show (match flatF rs 0 s with | none => _ | some l => _) = _
        rw [h]
      · cases v with
        | none => rfl
        | some x =>
          obtain ⟨s0, _, hc, _⟩ := ok.nv x rfl
          obtain ⟨lo, hlo⟩ := flat_opn a hs h
          exact absurd hlo (hc lo)
    | some l =>
      refine .inr ⟨s, l, rfl, NM.flat_isG a hs h, h, ?_⟩
      unfold mineF
      show (match flatF rs 0 s with | none => _ | some l => _) = _
      rw [h]
theorem mine_rs {n a : Nd} (ok : NOk n) (h : RsN (mineF n) (mineF n) a) : a = mineF n := nd_ext h.ok (nok_mine ok) fun k hk => by
  rw [h.val k hk]
  rcases mine_cases ok with ⟨e, _⟩ | ⟨s, l, _, hg, _, e⟩
  · rw [e]
    cases k with
    | none => rfl
    | some k =>
      have h0 := hk k rfl
      show some (val 0 [(0, none)] (val 0 [(0, none)] k)) = some (val 0 [(0, none)] k)
      rw [id_val h0, id_val h0]
  · have h0 := hg.1
    rw [e]
    cases k with
    | none =>
      show nval _ (if n.nv = none then none else some l) = if n.nv = none then none else some l
      by_cases hn : n.nv = none
      · rw [if_pos hn]; rfl
      · rw [if_neg hn]
        show some (val 0 _ l) = some l
        rw [mine_val h0 h0, if_neg (by omega)]
    | some k =>
      have hk0 := hk k rfl
      show some (val 0 _ (val 0 _ k)) = some (val 0 _ k)
      rw [mine_val h0 hk0, mine_val h0 (by split <;> omega)]
      congr 1
      (repeat' split) <;> omega
theorem mine_mine {n : Nd} (ok : NOk n) : mineF (mineF n) = mineF n := by
  rcases mine_cases ok with ⟨e, _⟩ | ⟨s, l, _, hg, _, e⟩
  · rw [e]
    rfl
  · have h0 := hg.1
    rw [e]
    by_cases hl : 0 < l
    · rw [if_pos hl]
      have hq : flatF [(0, some l)] 0 0 = some l := by unfold flatF; rw [if_neg (by omega)]; unfold flatF; simp
      have hm : ∀ v, mineF ⟨some 0, [(0, some l)], v⟩ = ⟨some 0, if 0 < l then [(0, some l)] else [], if v = none then none else some l⟩ := fun v => by
        unfold mineF
        show (match (some (0 : Int)).bind (flatF [(0, some l)] 0) with | none => (⟨some 0, [(0, none)], none⟩ : Nd) | some l => ⟨some 0, if 0 < l then [(0, some l)] else [], if v = none then none else some l⟩) = _
        rw [show (some (0 : Int)).bind (flatF [(0, some l)] 0) = some l from hq]
      rw [hm, if_pos hl]
      by_cases hn : n.nv = none
      · simp [hn]
      · simp [hn]
    · have h1 : l = 0 := by omega
      subst h1
      rw [if_neg hl]
      have hm : ∀ v, mineF ⟨some 0, [], v⟩ = ⟨some 0, [], if v = none then none else some 0⟩ := fun v => rfl
      rw [hm]
      by_cases hn : n.nv = none
      · simp [hn]
      · simp [hn]
theorem mine_exc {n : Nd} (ok : NOk n) : Exc (mineF n) n none := exc_mk fun k hk => by
  obtain ⟨o, rs, v⟩ := n
  have a : Asc (-1) rs := ok.asc
  rcases mine_cases ok with ⟨e, hn, hall⟩ | ⟨s, l, hs, hg, hf, e⟩
  · simp only at hn hall
    subst hn
    cases k with
    | none => rw [nval_n, nval_n]; exact atm_n _
    | some k =>
      cases o with
      | none => rw [nval_nn0 ok rfl]; exact atm_n _
      | some s =>
        rw [e]
        show decide (val 0 [(0, none)] k ≤ val s rs k) = true
        rw [id_val (hk k rfl)]
        exact decide_eq_true (hall s rfl k (hk k rfl))
  · simp only at hs hg hf
    subst hs
    obtain ⟨g0, g1, g2⟩ := hg
    rw [e]
    cases k with
    | none =>
      rw [nval_n, nval_n]
      cases v with
      | none => exact atm_n _
      | some x =>
        show decide (l ≤ x) = true
        have := top_ge ok rfl l
        exact decide_eq_true (by omega)
    | some k =>
      have hk0 := hk k rfl
      show decide (val 0 _ k ≤ val s rs k) = true
      rw [mine_val g0 hk0]
      refine decide_eq_true ?_
      by_cases hlk : l < k
      · rw [if_pos hlk]
        have := (NM.val_grow (s := s) a (Int.le_of_lt hlk)).1
        omega
      · rw [if_neg hlk]
        have := (NM.val_grow (s := s) a (show k ≤ l by omega)).2
        omega
theorem th_val {x k : Int} : val x [(x, none)] k = if x < k then k else x := by
  unfold val
  show x + (con (x, none) k + 0) = _
  rw [NM.con_none]
  (repeat' split) <;> omega
theorem first_L {n : Nd} {x : Int} (ok : NOk n) (h : firstF n = some x) : ∃ s, n.s = some s ∧ NM.IsL s n.rs x := by
  unfold firstF at h
  cases hs : n.s with
  | none => rw [hs] at h; cases h
  | some s => rw [hs] at h; exact ⟨s, rfl, NM.least_isL ok.asc (ok.s0 s hs) h⟩
theorem th_cases {n : Nd} : (firstF n = none ∧ theirsF n = ⟨none, [], none⟩) ∨ ∃ x, firstF n = some x ∧ theirsF n = ⟨some x, [(x, none)], none⟩ := by
  unfold theirsF
  cases h : firstF n with
  | none => exact .inl ⟨rfl, rfl⟩
  | some x => exact .inr ⟨x, rfl, rfl⟩
theorem th_rs {n a : Nd} (ok : NOk n) (h : RsN (theirsF n) (theirsF n) a) : a = theirsF n := nd_ext h.ok (nok_theirs ok) fun k hk => by
  rw [h.val k hk]
  rcases th_cases (n := n) with ⟨_, e⟩ | ⟨x, hx, e⟩
  · rw [e]; cases k <;> rfl
  · rw [e]
    cases k with
    | none => rfl
    | some k =>
      show some (val x [(x, none)] (val x [(x, none)] k)) = some (val x [(x, none)] k)
      rw [th_val, th_val]
      congr 1
      (repeat' split) <;> omega
theorem th_th {n : Nd} (ok : NOk n) : theirsF (theirsF n) = theirsF n := by
  rcases th_cases (n := n) with ⟨_, e⟩ | ⟨x, hx, e⟩
  · rw [e]; rfl
  · have h0 := first_nn ok hx
    have hf : firstF ⟨some x, [(x, none)], none⟩ = some x := by
      show leastF x [(x, none)] = some x
      unfold leastF
      by_cases hx0 : x = 0
      · rw [if_pos hx0, hx0]
      · rw [if_neg hx0]
        unfold flatF
        rw [if_pos (by omega)]
        show some (0 + (x - 1) + 1) = _
        congr 1
        omega
    rw [e]
    unfold theirsF
    rw [hf]
theorem th_exc {n : Nd} (ok : NOk n) : Exc n (theirsF n) none := exc_mk fun k hk => by
  rcases th_cases (n := n) with ⟨_, e⟩ | ⟨x, hx, e⟩
  · rw [e]
    cases k <;> exact atm_n _
  · obtain ⟨s, hs, g0, g1, g2⟩ := first_L ok hx
    rw [e]
    cases k with
    | none => exact atm_n _
    | some k =>
      obtain ⟨o, rs, v⟩ := n
      simp only at hs g1 g2
      subst hs
      have a : Asc (-1) rs := ok.asc
      show decide (val s rs k ≤ val x [(x, none)] k) = true
      rw [th_val]
      refine decide_eq_true ?_
      by_cases h : x < k
      · rw [if_pos h]
        have := (NM.val_grow (s := s) a (Int.le_of_lt h)).2
        omega
      · rw [if_neg h]
        have := (NM.val_grow (s := s) a (show k ≤ x by omega)).1
        omega
theorem end_rs {n g a : Nd} (ok : NOk n) (okg : NOk g) (h : RsN (endlessF n) g a) : a = endlessF n := nd_ext h.ok (nok_endless ok) fun k hk => by
  rw [h.val k hk]
  have key : ∀ k, nval (endlessF n) k = firstF n := fun k => by
    unfold endlessF
    cases hf : firstF n with
    | none => cases k <;> rfl
    | some x =>
      cases k with
      | none => rfl
      | some k => show some (x + 0) = _; rw [Int.add_zero]
  rw [key, key]
theorem rs_end {n a : Nd} (ok : NOk n) (h : RsN n (endlessF n) a) : a = endlessF n := nd_ext h.ok (nok_endless ok) fun k hk => by
  rw [h.val k hk]
  have key : ∀ k, nval (endlessF n) k = firstF n := fun k => by
    unfold endlessF
    cases hf : firstF n with
    | none => cases k <;> rfl
    | some x =>
      cases k with
      | none => rfl
      | some k => show some (x + 0) = _; rw [Int.add_zero]
  rw [key]
  cases hf : firstF n with
  | none =>
    rw [nval_n]
    obtain ⟨o, rs, v⟩ := n
    have a : Asc (-1) rs := ok.asc
    cases o with
    | none => exact nv_none ok
    | some s =>
      have hs := ok.s0 s rfl
      have hf2 : leastF s rs = none := hf
      unfold leastF at hf2
      by_cases h0 : s = 0
      · rw [if_pos h0] at hf2; cases hf2
      · rw [if_neg h0] at hf2
        have hf3 : flatF rs 0 (s - 1) = none := by
          cases hq : flatF rs 0 (s - 1) with
          | none => rfl
          | some z => rw [hq] at hf2; cases hf2
        obtain ⟨lo, hlo⟩ := flat_opn a (by omega) hf3
        cases v with
        | none => rfl
        | some y =>
          obtain ⟨s0, _, hc, _⟩ := ok.nv y rfl
          exact absurd hlo (hc lo)
  | some x =>
    obtain ⟨s, hs, g0, g1, g2⟩ := first_L ok hf
    obtain ⟨o, rs, v⟩ := n
    simp only at hs g1 g2
    subst hs
    have a : Asc (-1) rs := ok.asc
    show some (val s rs x) = some x
    congr 1
    rcases Int.lt_or_le 0 x with q | q
    · have h1 := g2 q
      have h2 := (NM.val_grow (s := s) a (show x - 1 ≤ x by omega)).1
      omega
    · have h0 := ok.s0 s rfl
      have := val_nn (x := x) a h0
      omega
theorem t_mine {n : Nd} (t : T0 n) : T1 (mineF n) := by
  have ok := t.ok
  rcases mine_cases ok with ⟨e, _⟩ | ⟨s, l, hs, hg, hf, e⟩
  · rw [e]
    exact ⟨nok_id, by show 1 ≤ 50; decide, (fun s h => by cases h; decide +kernel), (fun v h => by cases h), (fun p hp => by rw [List.mem_singleton.mp hp]; exact ⟨by decide +kernel, fun h e => by cases e⟩), by decide +kernel⟩
  · have hl : l ≤ 10 ^ 41 + s := NM.flat_far t.nr t.m0 (ok.s0 s hs) (fun lo hi r h => by have := NM.asc_mem ok.asc (lo, hi) (by rw [h]; simp); simp only at this; omega) ok.asc hf
    have hsb := t.sb s hs
    have h2 : l ≤ 10 ^ 42 := by omega
    have okm := nok_mine ok
    rw [e] at okm ⊢
    refine ⟨okm, ?_, (fun s h => by cases h; decide +kernel), fun v h => ?_, fun p hp => ?_, by decide +kernel⟩
    · show (if 0 < l then [(0, some l)] else [] : List Pr).length ≤ 50
      split
      · show 1 ≤ 50; decide
      · show 0 ≤ 50; decide
    · simp only at h
      split at h
      · cases h
      · cases h; exact h2
    · simp only at hp
      split at hp
      · rw [List.mem_singleton.mp hp]
        exact ⟨by show (0 : Int) ≤ 10 ^ 42; decide +kernel, fun h e => by cases e; exact h2⟩
      · cases hp
theorem t_theirs {n : Nd} (t : T0 n) : T1 (theirsF n) := by
  have ok := t.ok
  rcases th_cases (n := n) with ⟨_, e⟩ | ⟨x, hx, e⟩
  · rw [e]
    exact ⟨nok_no, Nat.zero_le _, (fun s h => by cases h), (fun v h => by cases h), (fun p hp => by cases hp), by decide +kernel⟩
  · have hx2 : x ≤ 10 ^ 42 := by
      unfold firstF at hx
      cases hs : n.s with
      | none => rw [hs] at hx; cases hx
      | some s =>
        rw [hs] at hx
        have hsb := t.sb s hs
        have hs0 := ok.s0 s hs
        have hx3 : leastF s n.rs = some x := hx
        unfold leastF at hx3
        by_cases h0 : s = 0
        · rw [if_pos h0] at hx3; cases hx3; decide +kernel
        · rw [if_neg h0] at hx3
          cases hq : flatF n.rs 0 (s - 1) with
          | none => rw [hq] at hx3; cases hx3
          | some z =>
            rw [hq] at hx3
            cases hx3
            have hl : z ≤ 10 ^ 41 + (s - 1) := NM.flat_far t.nr t.m0 (by omega) (fun lo hi r h => by have := NM.asc_mem ok.asc (lo, hi) (by rw [h]; simp); simp only at this; omega) ok.asc hq
            show z + 1 ≤ 10 ^ 42
            omega
    have okt := nok_theirs ok
    rw [e] at okt ⊢
    exact ⟨okt, by show 1 ≤ 50; decide, (fun s h => by cases h; exact hx2), (fun v h => by cases h), (fun p hp => by rw [List.mem_singleton.mp hp]; exact ⟨hx2, fun h e => by cases e⟩), by decide +kernel⟩
/-! ### are_rises -/
abbrev s_are_rises : Stmt := topS 7
theorem sc_are_rises : FnScope ["pairs", "before", "low", "high"] ["pairs"] (defScope s_are_rises) := ⟨rfl, rfl, rfl, by decide +kernel, rfl, by decide +kernel, by decide +kernel⟩
def fs_are_rises (cNeed : Addr) : FSp := fun ds Q => ∃ (t : Bool) (rs : List Pr), ds = [.sh (sq t (pRs rs))] ∧ Q (.sh (.bl (ascB (some (-1)) rs))) ds
theorem ok_are_rises {Pg : Program} {w : World} {K : PySem.W.Frag} {mg : Str → Option Value} {base : Heap} {a : Addr} {fd : FuncData} (F : L2.Fun K "are_rises" "are_rises" s_are_rises a fd)
    {cNeed : Addr} (T : Txt K mg cNeed) :
    FnOk Pg w K mg base CX0 1 a fd ["pairs"] (spD K (fs_are_rises cNeed)) := by
  have n_Need_start : ClsA K cNeed "start" := ⟨T.cl_Need, T.n_Need_start⟩
  have n_Need_rises : ClsA K cNeed "rises" := ⟨T.cl_Need, T.n_Need_rises⟩
  have n_Need_never : ClsA K cNeed "never" := ⟨T.cl_Need, T.n_Need_never⟩
  have n_Need__values : ClsA K cNeed "_values" := ⟨T.cl_Need, T.n_Need__values⟩
  have is_Need := T.is_Need
  refine Fun.okD [] F sc_are_rises (fun ds QD h => ?_) (fun cdv A outer s H E hr => ⟨_, _, (dss_cons (ds_asg (de_un un_neg us_neg de_int) (dg_name (pg_name (i := 1) sc_are_rises.nd rfl (by first | exact .inl rfl | exact .inr rfl))))
    (dss_cons (ds_for PassesOwn.never rfl (di_seq (de_v 0 (pv 0))) (dg_seq (fun h => pg_tup rfl h) (fun h => pg_unl rfl h) (dgs_cons (dg_name (pg_name (i := 2) sc_are_rises.nd rfl (by first | exact .inl rfl | exact .inr rfl))) (dgs_cons (dg_name (pg_name (i := 3) sc_are_rises.nd rfl (by first | exact .inl rfl | exact .inr rfl))) dgs_nil)))
    (dss_cons (ds_if (DW.pt (dw_or (dt_cmp op_isN os_isN (de_v 1 (pv 1)) de_non (nomark _)) (dw_or (dt_cmp op_le os_le (de_v 2 (pv 2)) (de_v 1 (pv 1)) (nomark _)) (dw_or1 (DW.pt (dw_and (dt_cmp op_notN os_notN (de_v 3 (pv 3)) de_non (nomark _)) (dw_and1 (dt_cmp op_le os_le (de_v 3 (pv 3)) (de_v 2 (pv 2)) (nomark _)))))))))
    (dss_one (ds_ret de_bl))
    dss_nil)
    (dss_one (ds_asg (de_v 3 (pv 3)) (dg_name (pg_name (i := 1) sc_are_rises.nd rfl (by first | exact .inl rfl | exact .inr rfl)))))))
    (dss_one (ds_ret de_bl)))), fun ds QD h => ?_⟩)
  · first
      | (obtain ⟨rfl, _⟩ := h; exact ⟨rfl, rfl⟩)
      | (obtain ⟨_, rfl, _⟩ := h; exact ⟨rfl, rfl⟩)
      | (obtain ⟨_, _, rfl, _⟩ := h; exact ⟨rfl, rfl⟩)
      | (obtain ⟨_, _, _, rfl, _⟩ := h; exact ⟨rfl, rfl⟩)
      | (obtain ⟨_, _, _, _, rfl, _⟩ := h; exact ⟨rfl, rfl⟩)
      | (obtain ⟨_, _, _, _, _, rfl, _⟩ := h; exact ⟨rfl, rfl⟩)
      | (obtain ⟨_, _, _, _, _, _, rfl, _⟩ := h; exact ⟨rfl, rfl⟩)
      | (obtain ⟨_, _, _, _, _, _, _, rfl, _⟩ := h; exact ⟨rfl, rfl⟩)
      | (obtain ⟨_, _, _, _, _, _, _, _, rfl, _⟩ := h; exact ⟨rfl, rfl⟩)
      | (obtain ⟨_, _, _, _, _, _, _, _, _, rfl, _⟩ := h; exact ⟨rfl, rfl⟩)
      | (obtain ⟨_, _, _, _, _, _, _, _, _, _, rfl, _⟩ := h; exact ⟨rfl, rfl⟩)
      | (obtain ⟨_, _, _, _, _, _, _, _, _, _, _, rfl, _⟩ := h; exact ⟨rfl, rfl⟩)
  · obtain ⟨t, rs, rfl, q⟩ := h
    walk_at "go"
    rw [pseq_sq]
    conv => whnf
    refine ⟨fun i env => ∃ b lv hv, env = [some (.sh (sq t (pRs rs))), some (.sh (oI b)), lv, hv] ∧ ascB b (rs.drop i) = ascB (some (-1)) rs, ⟨some (-1), none, none, rfl, rfl⟩, fun i p e hp hI => ?_, fun e hI => ?_⟩
    · obtain ⟨b, lv, hv, rfl, hb⟩ := hI
      obtain ⟨⟨lo, hi⟩, hr, rfl⟩ := map_get hp
      have hd : rs.drop i = (lo, hi) :: rs.drop (i + 1) := by
        rw [List.drop_eq_getElem_cons (lt_of_get hr)]
        congr 1
        exact Option.some.inj ((List.getElem?_eq_getElem (lt_of_get hr)).symm.trans hr)
      rw [hd] at hb
      cases b with
      | none =>
        walk_at "au"
        rw [← hb] at q
        exact q
      | some b =>
        cases hi with
        | none =>
          walk_at "au"
          · rw [← hb, show ascB (some b) ((lo, none) :: rs.drop (i + 1)) = false by simp [ascB]; omega] at q
            exact q
          · refine ⟨none, _, _, rfl, ?_⟩
            rw [← hb]
            simp [ascB]; omega
        | some g =>
          walk_at "au"
          · rw [← hb, show ascB (some b) ((lo, some g) :: rs.drop (i + 1)) = false by simp [ascB]; omega] at q
            exact q
          · rw [← hb, show ascB (some b) ((lo, some g) :: rs.drop (i + 1)) = false by simp [ascB]; omega] at q
            exact q
          · refine ⟨some g, _, _, rfl, ?_⟩
            rw [← hb]
            simp [ascB]; omega
    · obtain ⟨b, lv, hv, rfl, hb⟩ := hI
      rw [show (rs.map prP).length = rs.length from List.length_map _, List.drop_length] at hb
      rw [← hb] at q
      cases b <;> exact ⟨rfl, q⟩
/-! ### is_open -/
abbrev s_is_open : Stmt := topS 8
theorem sc_is_open : FnScope ["rises"] ["rises"] (defScope s_is_open) := ⟨rfl, rfl, rfl, by decide +kernel, rfl, by decide +kernel, by decide +kernel⟩
def fs_is_open (cNeed : Addr) : FSp := fun ds Q => ∃ (t : Bool) (rs : List Pr), ds = [.sh (sq t (pRs rs))] ∧ rs.length ≤ 1000 ∧ Q (.sh (.bl (NM.opnB rs))) ds
theorem ok_is_open {Pg : Program} {w : World} {K : PySem.W.Frag} {mg : Str → Option Value} {base : Heap} {a : Addr} {fd : FuncData} (F : L2.Fun K "is_open" "is_open" s_is_open a fd)
    (m_len : mg "len" = none)
    {cNeed : Addr} (T : Txt K mg cNeed) :
    FnOk Pg w K mg base CX0 1 a fd ["rises"] (spD K (fs_is_open cNeed)) := by
  have n_Need_start : ClsA K cNeed "start" := ⟨T.cl_Need, T.n_Need_start⟩
  have n_Need_rises : ClsA K cNeed "rises" := ⟨T.cl_Need, T.n_Need_rises⟩
  have n_Need_never : ClsA K cNeed "never" := ⟨T.cl_Need, T.n_Need_never⟩
  have n_Need__values : ClsA K cNeed "_values" := ⟨T.cl_Need, T.n_Need__values⟩
  have is_Need := T.is_Need
  refine Fun.okD [] F sc_is_open (fun ds QD h => ?_) (fun cdv A outer s H E hr => ⟨_, _, (dss_one (ds_ret (de_and (de_cmp op_gt os_gt (de_cb (fun h => pe_callB call_len (by rfl) m_len PySem.boot_len h) cs_len (da_cons (de_v 0 (pv 0)) da_nil)) de_int (nomark _)) (de_one (de_cmp op_isN os_isN (de_ix ix_seq os_ix (de_ix ix_seq os_ix (de_v 0 (pv 0)) (de_un un_neg us_neg de_int)) de_int) de_non (nomark _)))))), fun ds QD h => ?_⟩)
  · first
      | (obtain ⟨rfl, _⟩ := h; exact ⟨rfl, rfl⟩)
      | (obtain ⟨_, rfl, _⟩ := h; exact ⟨rfl, rfl⟩)
      | (obtain ⟨_, _, rfl, _⟩ := h; exact ⟨rfl, rfl⟩)
      | (obtain ⟨_, _, _, rfl, _⟩ := h; exact ⟨rfl, rfl⟩)
      | (obtain ⟨_, _, _, _, rfl, _⟩ := h; exact ⟨rfl, rfl⟩)
      | (obtain ⟨_, _, _, _, _, rfl, _⟩ := h; exact ⟨rfl, rfl⟩)
      | (obtain ⟨_, _, _, _, _, _, rfl, _⟩ := h; exact ⟨rfl, rfl⟩)
      | (obtain ⟨_, _, _, _, _, _, _, rfl, _⟩ := h; exact ⟨rfl, rfl⟩)
      | (obtain ⟨_, _, _, _, _, _, _, _, rfl, _⟩ := h; exact ⟨rfl, rfl⟩)
      | (obtain ⟨_, _, _, _, _, _, _, _, _, rfl, _⟩ := h; exact ⟨rfl, rfl⟩)
      | (obtain ⟨_, _, _, _, _, _, _, _, _, _, rfl, _⟩ := h; exact ⟨rfl, rfl⟩)
      | (obtain ⟨_, _, _, _, _, _, _, _, _, _, _, rfl, _⟩ := h; exact ⟨rfl, rfl⟩)
  · obtain ⟨t, rs, rfl, hl, q⟩ := h
    rcases Nat.eq_zero_or_pos rs.length with h0 | h0
    · have e := List.length_eq_zero_iff.mp h0
      subst e
      cases t <;> walk_at "au" <;> first | exact q | (exfalso; simp at *)
    · obtain ⟨⟨lo, hi⟩, hp⟩ : ∃ p, rs[rs.length - 1]? = some p := ⟨_, List.getElem?_eq_getElem (by omega)⟩
      have e : NM.opnB rs = DL.isNon (oI hi) := by
        unfold NM.opnB
        rw [List.getLast?_eq_getElem?, hp]
        cases hi <;> rfl
      rw [e] at q
      cases t
      all_goals
        walk_at "au"
        rotate_left
        · exfalso
          simp only [pRs, List.length_map] at *
          omega
        refine ⟨_, atI_m1 (last_map hp), ?_⟩
        walk_at "au"
        exact q
/-! ### values_at_lows -/
abbrev s_values_at_lows : Stmt := topS 9
theorem sc_values_at_lows : FnScope ["start", "rises", "found", "value", "low", "high"] ["start", "rises"] (defScope s_values_at_lows) := ⟨rfl, rfl, rfl, by decide +kernel, rfl, by decide +kernel, by decide +kernel⟩
def fs_values_at_lows (cNeed : Addr) : FSp := fun ds Q => ∃ (t : Bool) (s : Int) (rs : List Pr), ds = [.sh (.int s), .sh (sq t (pRs rs))] ∧ rs.length ≤ 1000 ∧ Q (.sh (.tup (pI (lowsF s rs)))) ds
theorem ok_values_at_lows {Pg : Program} {w : World} {K : PySem.W.Frag} {mg : Str → Option Value} {base : Heap} {a : Addr} {fd : FuncData} (F : L2.Fun K "values_at_lows" "values_at_lows" s_values_at_lows a fd)
    (m_tuple : mg "tuple" = none)
    {cNeed : Addr} (T : Txt K mg cNeed) :
    FnOk Pg w K mg base CX0 1 a fd ["start", "rises"] (spD K (fs_values_at_lows cNeed)) := by
  have n_Need_start : ClsA K cNeed "start" := ⟨T.cl_Need, T.n_Need_start⟩
  have n_Need_rises : ClsA K cNeed "rises" := ⟨T.cl_Need, T.n_Need_rises⟩
  have n_Need_never : ClsA K cNeed "never" := ⟨T.cl_Need, T.n_Need_never⟩
  have n_Need__values : ClsA K cNeed "_values" := ⟨T.cl_Need, T.n_Need__values⟩
  have is_Need := T.is_Need
  refine Fun.okD [] F sc_values_at_lows (fun ds QD h => ?_) (fun cdv A outer s H E hr => ⟨_, _, (dss_cons (ds_put (do_lst da_nil) (pg_name (i := 2) sc_values_at_lows.nd rfl (by first | exact .inl rfl | exact .inr rfl)))
    (dss_cons (ds_asg (de_v 0 (pv 0)) (dg_name (pg_name (i := 3) sc_values_at_lows.nd rfl (by first | exact .inl rfl | exact .inr rfl))))
    (dss_cons (ds_for PassesOwn.never rfl (di_seq (de_v 1 (pv 1))) (dg_seq (fun h => pg_tup rfl h) (fun h => pg_unl rfl h) (dgs_cons (dg_name (pg_name (i := 4) sc_values_at_lows.nd rfl (by first | exact .inl rfl | exact .inr rfl))) (dgs_cons (dg_name (pg_name (i := 5) sc_values_at_lows.nd rfl (by first | exact .inl rfl | exact .inr rfl))) dgs_nil)))
    (dss_cons (ds_app (fun h => pe_bm PySem.F.plainAttrs_list PySem.F.slot_list_append PySem.F.type_list_append mt_append (pv 2) h) (de_v 3 (pv 3)))
    (dss_one (ds_if (dt_cmp op_notN os_notN (de_v 5 (pv 5)) de_non (nomark _))
    (dss_one (ds_asg (de_op op_sub os_sub (de_op op_add os_add (de_v 3 (pv 3)) (de_v 5 (pv 5))) (de_v 4 (pv 4))) (dg_name (pg_name (i := 3) sc_values_at_lows.nd rfl (by first | exact .inl rfl | exact .inr rfl)))))
    dss_nil))))
    (dss_one (ds_ret (de_cb (fun h => pe_callTy call_tuple_of (by rfl) m_tuple (by decide +kernel) h) cs_tuple (da_cons (de_vF 2 (pv 2)) da_nil))))))), fun ds QD h => ?_⟩)
  · first
      | (obtain ⟨rfl, _⟩ := h; exact ⟨rfl, rfl⟩)
      | (obtain ⟨_, rfl, _⟩ := h; exact ⟨rfl, rfl⟩)
      | (obtain ⟨_, _, rfl, _⟩ := h; exact ⟨rfl, rfl⟩)
      | (obtain ⟨_, _, _, rfl, _⟩ := h; exact ⟨rfl, rfl⟩)
      | (obtain ⟨_, _, _, _, rfl, _⟩ := h; exact ⟨rfl, rfl⟩)
      | (obtain ⟨_, _, _, _, _, rfl, _⟩ := h; exact ⟨rfl, rfl⟩)
      | (obtain ⟨_, _, _, _, _, _, rfl, _⟩ := h; exact ⟨rfl, rfl⟩)
      | (obtain ⟨_, _, _, _, _, _, _, rfl, _⟩ := h; exact ⟨rfl, rfl⟩)
      | (obtain ⟨_, _, _, _, _, _, _, _, rfl, _⟩ := h; exact ⟨rfl, rfl⟩)
      | (obtain ⟨_, _, _, _, _, _, _, _, _, rfl, _⟩ := h; exact ⟨rfl, rfl⟩)
      | (obtain ⟨_, _, _, _, _, _, _, _, _, _, rfl, _⟩ := h; exact ⟨rfl, rfl⟩)
      | (obtain ⟨_, _, _, _, _, _, _, _, _, _, _, rfl, _⟩ := h; exact ⟨rfl, rfl⟩)
  · obtain ⟨t, s, rs, rfl, hl, q⟩ := h
    walk_at "au"
    rw [pseq_sq]
    conv => whnf
    refine ⟨fun i env => ∃ lv hv, env = [some (.sh (.int s)), some (.sh (sq t (pRs rs))), some (.ol (pI (lowsF s (rs.take i)))), some (.sh (.int (s + wsum (rs.take i)))), lv, hv], ⟨none, none, by simp [wsum, lowsF]; rfl⟩, fun i p e hp hI => ?_, fun e hI => ?_⟩
    · obtain ⟨lv, hv, rfl⟩ := hI
      obtain ⟨⟨lo, hi⟩, hr, rfl⟩ := map_get hp
      have hi' := lt_of_get hr
      have el : (pI (lowsF s (rs.take i))).length = i := by
        rw [List.length_map, NM.lowsF_len, List.length_take]; omega
      have e1 : pI (lowsF s (rs.take i)) ++ [P.int (s + wsum (rs.take i))] = pI (lowsF s (rs.take (i + 1))) := by
        rw [NM.take_snoc hr, NM.lowsF_snoc, pI, pI, List.map_append]; rfl
      cases hi with
      | none =>
        walk_at "au"
        rw [← e1, NM.take_snoc hr, NM.wsum_snoc]
        simp only [Int.add_zero]
        exact ⟨_, _, rfl⟩
      | some g =>
        walk_at "au"
        rw [← e1, NM.take_snoc hr, NM.wsum_snoc]
        simp only
        rw [← show s + wsum (rs.take i) + g - lo = s + (wsum (rs.take i) + (g - lo)) by omega]
        exact ⟨_, _, rfl⟩
    · obtain ⟨lv, hv, rfl⟩ := hI
      rw [show (rs.map prP).length = rs.length from List.length_map _, List.take_length]
      walk_at "au"
      exact q
/-! ### greatest_value -/
abbrev s_greatest_value : Stmt := topS 10
theorem sc_greatest_value : FnScope ["start", "rises", "low", "high"] ["start", "rises"] (defScope s_greatest_value) := ⟨rfl, rfl, rfl, by decide +kernel, rfl, by decide +kernel, by decide +kernel⟩
def fs_greatest_value (cNeed : Addr) : FSp := fun ds Q => ∃ (t : Bool) (s : Int) (rs : List Pr), ds = [.sh (.int s), .sh (sq t (pRs rs))] ∧ rs.length ≤ 1000 ∧ (∀ p ∈ rs, ∃ h, p.2 = some h) ∧ Q (.sh (.int (s + wsum rs))) ds
theorem ok_greatest_value {Pg : Program} {w : World} {K : PySem.W.Frag} {mg : Str → Option Value} {base : Heap} {a : Addr} {fd : FuncData} (F : L2.Fun K "greatest_value" "greatest_value" s_greatest_value a fd)
    (m_sum : mg "sum" = none)
    {cNeed : Addr} (T : Txt K mg cNeed) :
    FnOk Pg w K mg base CX0 1 a fd ["start", "rises"] (spD K (fs_greatest_value cNeed)) := by
  have n_Need_start : ClsA K cNeed "start" := ⟨T.cl_Need, T.n_Need_start⟩
  have n_Need_rises : ClsA K cNeed "rises" := ⟨T.cl_Need, T.n_Need_rises⟩
  have n_Need_never : ClsA K cNeed "never" := ⟨T.cl_Need, T.n_Need_never⟩
  have n_Need__values : ClsA K cNeed "_values" := ⟨T.cl_Need, T.n_Need__values⟩
  have is_Need := T.is_Need
  refine Fun.okD [] F sc_greatest_value (fun ds QD h => ?_) (fun cdv A outer s H E hr => ⟨_, _, (dss_one (ds_ret (de_op op_add os_add (de_v 0 (pv 0)) (de_cb (fun h => pe_callB (cr_sum rfl) (by rfl) m_sum (by decide +kernel) h) cs_sum (da_cons (de_o (do_lcP (own := [("low", 2), ("high", 3)]) (n := 4) rfl sc_greatest_value.nd (di_seq (de_v 1 (pv 1))) (blkOk_by (N := ["start", "rises", "low", "high"]) (sc := defScope s_greatest_value) (own := [("low", 2), ("high", 3)]) (by decide +kernel)) (fun _ _ _ _ _ => (dg_seq (fun h => pg_tup rfl h) (fun h => pg_unl rfl h) (dgs_cons (dg_name (pg_name (i := 2) sc_greatest_value.nd rfl (by first | exact .inl rfl | exact .inr rfl))) (dgs_cons (dg_name (pg_name (i := 3) sc_greatest_value.nd rfl (by first | exact .inl rfl | exact .inr rfl))) dgs_nil)))) (fun _ _ _ _ _ => dts_nil) (fun _ _ _ _ _ => (de_op op_sub os_sub (de_v 3 (pv 3)) (de_v 2 (pv 2)))))) da_nil))))), fun ds QD h => ?_⟩)
  · first
      | (obtain ⟨rfl, _⟩ := h; exact ⟨rfl, rfl⟩)
      | (obtain ⟨_, rfl, _⟩ := h; exact ⟨rfl, rfl⟩)
      | (obtain ⟨_, _, rfl, _⟩ := h; exact ⟨rfl, rfl⟩)
      | (obtain ⟨_, _, _, rfl, _⟩ := h; exact ⟨rfl, rfl⟩)
      | (obtain ⟨_, _, _, _, rfl, _⟩ := h; exact ⟨rfl, rfl⟩)
      | (obtain ⟨_, _, _, _, _, rfl, _⟩ := h; exact ⟨rfl, rfl⟩)
      | (obtain ⟨_, _, _, _, _, _, rfl, _⟩ := h; exact ⟨rfl, rfl⟩)
      | (obtain ⟨_, _, _, _, _, _, _, rfl, _⟩ := h; exact ⟨rfl, rfl⟩)
      | (obtain ⟨_, _, _, _, _, _, _, _, rfl, _⟩ := h; exact ⟨rfl, rfl⟩)
      | (obtain ⟨_, _, _, _, _, _, _, _, _, rfl, _⟩ := h; exact ⟨rfl, rfl⟩)
      | (obtain ⟨_, _, _, _, _, _, _, _, _, _, rfl, _⟩ := h; exact ⟨rfl, rfl⟩)
      | (obtain ⟨_, _, _, _, _, _, _, _, _, _, _, rfl, _⟩ := h; exact ⟨rfl, rfl⟩)
  · obtain ⟨t, s, rs, rfl, hl, hc, q⟩ := h
    walk_at "au"
    rw [pseq_sq]
    walk_at "go"
    refine ⟨fun j acc => acc = pI ((rs.map NM.width).take j), rfl, fun j p acc hp hI => ?_, fun acc hI => ?_⟩
    · subst hI
      obtain ⟨⟨lo, hi⟩, hr, rfl⟩ := map_get hp
      have hj := lt_of_get hr
      obtain ⟨g, hg⟩ := hc _ (List.mem_of_getElem? hr)
      simp only at hg
      subst hg
      walk_at "au"
      have : (rs.map NM.width)[j]? = some (g - lo) := by rw [List.getElem?_map, hr]; rfl
      exact (take_map (f := P.int) this).symm
    · subst hI
      have e2 : (rs.map prP).length = (rs.map NM.width).length := by rw [List.length_map, List.length_map]
      rw [e2, List.take_length]
      walk_at "go"
      rw [DL.ints_map]
      walk_at "go"
      rw [NM.wsum_eq] at q
      exact q
/-! ### pair_at -/
abbrev s_pair_at : Stmt := topS 11
theorem sc_pair_at : FnScope ["rises", "k", "first", "behind", "middle"] ["rises", "k"] (defScope s_pair_at) := ⟨rfl, rfl, rfl, by decide +kernel, rfl, by decide +kernel, by decide +kernel⟩
def fs_pair_at (cNeed : Addr) : FSp := fun ds Q => ∃ (t : Bool) (rs : List Pr) (k : Int), ds = [.sh (sq t (pRs rs)), .sh (.int k)] ∧ Asc (-1) rs ∧ rs.length ≤ 1000 ∧
  (∀ n : Nat, n ≤ rs.length → (∀ (j : Nat) p, rs[j]? = some p → j < n → p.1 ≤ k) → (∀ (j : Nat) p, rs[j]? = some p → n ≤ j → k < p.1) → Q (.sh (.int ((n : Int) - 1))) ds)
theorem ok_pair_at {Pg : Program} {w : World} {K : PySem.W.Frag} {mg : Str → Option Value} {base : Heap} {a : Addr} {fd : FuncData} (F : L2.Fun K "pair_at" "pair_at" s_pair_at a fd)
    (m_len : mg "len" = none)
    {cNeed : Addr} (T : Txt K mg cNeed) :
    FnOk Pg w K mg base CX0 1 a fd ["rises", "k"] (spD K (fs_pair_at cNeed)) := by
  have n_Need_start : ClsA K cNeed "start" := ⟨T.cl_Need, T.n_Need_start⟩
  have n_Need_rises : ClsA K cNeed "rises" := ⟨T.cl_Need, T.n_Need_rises⟩
  have n_Need_never : ClsA K cNeed "never" := ⟨T.cl_Need, T.n_Need_never⟩
  have n_Need__values : ClsA K cNeed "_values" := ⟨T.cl_Need, T.n_Need__values⟩
  have is_Need := T.is_Need
  refine Fun.okD [] F sc_pair_at (fun ds QD h => ?_) (fun cdv A outer s H E hr => ⟨_, _, (dss_cons (ds_par (i := 2) (j := 3) (fun h => ps_par (i := 2) (j := 3) rfl sc_pair_at.nd rfl rfl (by decide) rfl rfl h (by rfl)) (da_cons de_int (da_cons (de_cb (fun h => pe_callB call_len (by rfl) m_len PySem.boot_len h) cs_len (da_cons (de_v 0 (pv 0)) da_nil)) da_nil)))
    (dss_cons (ds_while PassesOwn.never (dt_cmp op_lt os_lt (de_v 2 (pv 2)) (de_v 3 (pv 3)) (nomark _))
    (dss_cons (ds_asg (de_op op_fdivW os_div (de_op op_add os_add (de_v 2 (pv 2)) (de_v 3 (pv 3))) de_int) (dg_name (pg_name (i := 4) sc_pair_at.nd rfl (by first | exact .inl rfl | exact .inr rfl))))
    (dss_one (ds_if (dt_cmp op_le os_le (de_ix ix_seq os_ix (de_ix ix_seq os_ix (de_v 0 (pv 0)) (de_v 4 (pv 4))) de_int) (de_v 1 (pv 1)) (nomark _))
    (dss_one (ds_asg (de_op op_add os_add (de_v 4 (pv 4)) de_int) (dg_name (pg_name (i := 2) sc_pair_at.nd rfl (by first | exact .inl rfl | exact .inr rfl)))))
    (dss_one (ds_asg (de_v 4 (pv 4)) (dg_name (pg_name (i := 3) sc_pair_at.nd rfl (by first | exact .inl rfl | exact .inr rfl)))))))))
    (dss_one (ds_ret (de_op op_sub os_sub (de_v 2 (pv 2)) de_int))))), fun ds QD h => ?_⟩)
  · first
      | (obtain ⟨rfl, _⟩ := h; exact ⟨rfl, rfl⟩)
      | (obtain ⟨_, rfl, _⟩ := h; exact ⟨rfl, rfl⟩)
      | (obtain ⟨_, _, rfl, _⟩ := h; exact ⟨rfl, rfl⟩)
      | (obtain ⟨_, _, _, rfl, _⟩ := h; exact ⟨rfl, rfl⟩)
      | (obtain ⟨_, _, _, _, rfl, _⟩ := h; exact ⟨rfl, rfl⟩)
      | (obtain ⟨_, _, _, _, _, rfl, _⟩ := h; exact ⟨rfl, rfl⟩)
      | (obtain ⟨_, _, _, _, _, _, rfl, _⟩ := h; exact ⟨rfl, rfl⟩)
      | (obtain ⟨_, _, _, _, _, _, _, rfl, _⟩ := h; exact ⟨rfl, rfl⟩)
      | (obtain ⟨_, _, _, _, _, _, _, _, rfl, _⟩ := h; exact ⟨rfl, rfl⟩)
      | (obtain ⟨_, _, _, _, _, _, _, _, _, rfl, _⟩ := h; exact ⟨rfl, rfl⟩)
      | (obtain ⟨_, _, _, _, _, _, _, _, _, _, rfl, _⟩ := h; exact ⟨rfl, rfl⟩)
      | (obtain ⟨_, _, _, _, _, _, _, _, _, _, _, rfl, _⟩ := h; exact ⟨rfl, rfl⟩)
  · obtain ⟨t, rs, k, rfl, ha, hl, q⟩ := h
    have el : (pRs rs).length = rs.length := List.length_map _
    cases t
    all_goals
      walk_at "au"
      refine ⟨fun m e => ∃ (a b : Nat) (mv : Option D), e = [some (.sh (sq _ (pRs rs))), some (.sh (.int k)), some (.sh (.int (a : Int))), some (.sh (.int (b : Int))), mv] ∧ a ≤ b ∧ b ≤ rs.length ∧ m = b - a ∧
        (∀ (j : Nat) p, rs[j]? = some p → j < a → p.1 ≤ k) ∧ (∀ (j : Nat) p, rs[j]? = some p → b ≤ j → k < p.1), ⟨rs.length, 0, rs.length, none, by rw [el]; rfl, Nat.zero_le _, Nat.le_refl _, rfl, fun j p _ h => absurd h (Nat.not_lt_zero _), fun j p h1 h2 => absurd (lt_of_get h1) (by omega)⟩, fun m e hI => ?_⟩
      obtain ⟨a, b, mv, rfl, h1, h2, rfl, h3, h4⟩ := hI
      walk_at "au"
      · have hab : a < b := by omega
        have em : ((a : Int) + (b : Int)) / 2 = (((a + b) / 2 : Nat) : Int) := by omega
        obtain ⟨p, hp⟩ : ∃ p, rs[(a + b) / 2]? = some p := ⟨_, List.getElem?_eq_getElem (by omega)⟩
        rw [em]
        refine ⟨_, atI_map' hp, ?_⟩
        walk_at "au"
        · refine ⟨b - ((a + b) / 2 + 1), by omega, (a + b) / 2 + 1, b, _, rfl, by omega, h2, rfl, fun j q' hq hj => ?_, h4⟩
          by_cases e : j = (a + b) / 2
          · subst e; rw [hp] at hq; cases hq; assumption
          · have := NM.asc_sorted ha hq hp (by omega)
            omega
        · refine ⟨(a + b) / 2 - a, by omega, a, (a + b) / 2, _, rfl, by omega, by omega, rfl, h3, fun j q' hq hj => ?_⟩
          by_cases e : j = (a + b) / 2
          · subst e; rw [hp] at hq; cases hq; assumption
          · have := NM.asc_sorted ha hp hq (by omega)
            omega
      · have hab : a = b := by omega
        subst hab
        exact q a h2 h3 h4
/-! ### flat_place -/
abbrev s_flat_place : Stmt := topS 13
theorem sc_flat_place : FnScope ["rises", "number", "left", "before", "low", "high"] ["rises", "number"] (defScope s_flat_place) := ⟨rfl, rfl, rfl, by decide +kernel, rfl, by decide +kernel, by decide +kernel⟩
def fs_flat_place (cNeed : Addr) : FSp := fun ds Q => ∃ (t : Bool) (rs : List Pr) (n : Int), ds = [.sh (sq t (pRs rs)), .sh (.int n)] ∧ Q (.sh (oI (flatF rs 0 n))) ds
theorem ok_flat_place {Pg : Program} {w : World} {K : PySem.W.Frag} {mg : Str → Option Value} {base : Heap} {a : Addr} {fd : FuncData} (F : L2.Fun K "flat_place" "flat_place" s_flat_place a fd)
    {cNeed : Addr} (T : Txt K mg cNeed) :
    FnOk Pg w K mg base CX0 1 a fd ["rises", "number"] (spD K (fs_flat_place cNeed)) := by
  have n_Need_start : ClsA K cNeed "start" := ⟨T.cl_Need, T.n_Need_start⟩
  have n_Need_rises : ClsA K cNeed "rises" := ⟨T.cl_Need, T.n_Need_rises⟩
  have n_Need_never : ClsA K cNeed "never" := ⟨T.cl_Need, T.n_Need_never⟩
  have n_Need__values : ClsA K cNeed "_values" := ⟨T.cl_Need, T.n_Need__values⟩
  have is_Need := T.is_Need
  refine Fun.okD [] F sc_flat_place (fun ds QD h => ?_) (fun cdv A outer s H E hr => ⟨_, _, (dss_cons (ds_asg (de_v 1 (pv 1)) (dg_name (pg_name (i := 2) sc_flat_place.nd rfl (by first | exact .inl rfl | exact .inr rfl))))
    (dss_cons (ds_asg de_int (dg_name (pg_name (i := 3) sc_flat_place.nd rfl (by first | exact .inl rfl | exact .inr rfl))))
    (dss_cons (ds_for PassesOwn.never rfl (di_seq (de_v 0 (pv 0))) (dg_seq (fun h => pg_tup rfl h) (fun h => pg_unl rfl h) (dgs_cons (dg_name (pg_name (i := 4) sc_flat_place.nd rfl (by first | exact .inl rfl | exact .inr rfl))) (dgs_cons (dg_name (pg_name (i := 5) sc_flat_place.nd rfl (by first | exact .inl rfl | exact .inr rfl))) dgs_nil)))
    (dss_cons (ds_if (dt_cmp op_lt os_lt (de_v 2 (pv 2)) (de_op op_sub os_sub (de_v 4 (pv 4)) (de_v 3 (pv 3))) (nomark _))
    (dss_one (ds_ret (de_op op_add os_add (de_v 3 (pv 3)) (de_v 2 (pv 2)))))
    dss_nil)
    (dss_cons (ds_if (dt_cmp op_isN os_isN (de_v 5 (pv 5)) de_non (nomark _))
    (dss_one (ds_ret de_non))
    dss_nil)
    (dss_cons (ds_asg (de_op op_sub os_sub (de_v 2 (pv 2)) (de_op op_sub os_sub (de_v 4 (pv 4)) (de_v 3 (pv 3)))) (dg_name (pg_name (i := 2) sc_flat_place.nd rfl (by first | exact .inl rfl | exact .inr rfl))))
    (dss_one (ds_asg (de_v 5 (pv 5)) (dg_name (pg_name (i := 3) sc_flat_place.nd rfl (by first | exact .inl rfl | exact .inr rfl)))))))))
    (dss_one (ds_ret (de_op op_add os_add (de_v 3 (pv 3)) (de_v 2 (pv 2)))))))), fun ds QD h => ?_⟩)
  · first
      | (obtain ⟨rfl, _⟩ := h; exact ⟨rfl, rfl⟩)
      | (obtain ⟨_, rfl, _⟩ := h; exact ⟨rfl, rfl⟩)
      | (obtain ⟨_, _, rfl, _⟩ := h; exact ⟨rfl, rfl⟩)
      | (obtain ⟨_, _, _, rfl, _⟩ := h; exact ⟨rfl, rfl⟩)
      | (obtain ⟨_, _, _, _, rfl, _⟩ := h; exact ⟨rfl, rfl⟩)
      | (obtain ⟨_, _, _, _, _, rfl, _⟩ := h; exact ⟨rfl, rfl⟩)
      | (obtain ⟨_, _, _, _, _, _, rfl, _⟩ := h; exact ⟨rfl, rfl⟩)
      | (obtain ⟨_, _, _, _, _, _, _, rfl, _⟩ := h; exact ⟨rfl, rfl⟩)
      | (obtain ⟨_, _, _, _, _, _, _, _, rfl, _⟩ := h; exact ⟨rfl, rfl⟩)
      | (obtain ⟨_, _, _, _, _, _, _, _, _, rfl, _⟩ := h; exact ⟨rfl, rfl⟩)
      | (obtain ⟨_, _, _, _, _, _, _, _, _, _, rfl, _⟩ := h; exact ⟨rfl, rfl⟩)
      | (obtain ⟨_, _, _, _, _, _, _, _, _, _, _, rfl, _⟩ := h; exact ⟨rfl, rfl⟩)
  · obtain ⟨t, rs, n, rfl, q⟩ := h
    walk_at "au"
    rw [pseq_sq]
    conv => whnf
    refine ⟨fun i env => ∃ l b lv hv, env = [some (.sh (sq t (pRs rs))), some (.sh (.int n)), some (.sh (.int l)), some (.sh (.int b)), lv, hv] ∧ flatF (rs.drop i) b l = flatF rs 0 n, ⟨n, 0, none, none, rfl, rfl⟩, fun i p e hp hI => ?_, fun e hI => ?_⟩
    · obtain ⟨l, b, lv, hv, rfl, hb⟩ := hI
      obtain ⟨⟨lo, hi⟩, hr, rfl⟩ := map_get hp
      rw [NM.drop_cons hr] at hb
      cases hi with
      | none =>
        walk_at "au"
        · rw [← hb, flatF, if_pos (by assumption)] at q
          exact q
        · rw [← hb, flatF, if_neg (by omega)] at q
          exact q
      | some g =>
        walk_at "au"
        · rw [← hb, flatF, if_pos (by assumption)] at q
          exact q
        · refine ⟨_, _, _, _, rfl, ?_⟩
          rw [← hb, flatF, if_neg (by omega)]
    · obtain ⟨l, b, lv, hv, rfl, hb⟩ := hI
      rw [show (rs.map prP).length = rs.length from List.length_map _, List.drop_length] at hb
      walk_at "au"
      rw [← hb] at q
      exact q
/-! ### sooner -/
abbrev s_sooner : Stmt := topS 14
theorem sc_sooner : FnScope ["one", "other"] ["one", "other"] (defScope s_sooner) := ⟨rfl, rfl, rfl, by decide +kernel, rfl, by decide +kernel, by decide +kernel⟩
def fs_sooner (cNeed : Addr) : FSp := fun ds Q => ∃ (a b : Option Int), ds = [.sh (oI a), .sh (oI b)] ∧ Q (.sh (oI (NM.soon a b))) ds
theorem ok_sooner {Pg : Program} {w : World} {K : PySem.W.Frag} {mg : Str → Option Value} {base : Heap} {a : Addr} {fd : FuncData} (F : L2.Fun K "sooner" "sooner" s_sooner a fd)
    (m_min : mg "min" = none)
    {cNeed : Addr} (T : Txt K mg cNeed) :
    FnOk Pg w K mg base CX0 1 a fd ["one", "other"] (spD K (fs_sooner cNeed)) := by
  have n_Need_start : ClsA K cNeed "start" := ⟨T.cl_Need, T.n_Need_start⟩
  have n_Need_rises : ClsA K cNeed "rises" := ⟨T.cl_Need, T.n_Need_rises⟩
  have n_Need_never : ClsA K cNeed "never" := ⟨T.cl_Need, T.n_Need_never⟩
  have n_Need__values : ClsA K cNeed "_values" := ⟨T.cl_Need, T.n_Need__values⟩
  have is_Need := T.is_Need
  refine Fun.okD [] F sc_sooner (fun ds QD h => ?_) (fun cdv A outer s H E hr => ⟨_, _, (dss_cons (ds_if (DW.pt (dw_or (dt_cmp op_isN os_isN (de_v 0 (pv 0)) de_non (nomark _)) (dw_or1 (dt_cmp op_isN os_isN (de_v 1 (pv 1)) de_non (nomark _)))))
    (dss_one (ds_ret (de_ifExp (dt_cmp op_isN os_isN (de_v 0 (pv 0)) de_non (nomark _)) (de_v 1 (pv 1)) (de_v 0 (pv 0)))))
    dss_nil)
    (dss_one (ds_ret (de_cb (fun h => pe_callB (call_min2 rfl) (by rfl) m_min (by decide +kernel) h) cs_min2 (da_cons (de_v 0 (pv 0)) (da_cons (de_v 1 (pv 1)) da_nil)))))), fun ds QD h => ?_⟩)
  · first
      | (obtain ⟨rfl, _⟩ := h; exact ⟨rfl, rfl⟩)
      | (obtain ⟨_, rfl, _⟩ := h; exact ⟨rfl, rfl⟩)
      | (obtain ⟨_, _, rfl, _⟩ := h; exact ⟨rfl, rfl⟩)
      | (obtain ⟨_, _, _, rfl, _⟩ := h; exact ⟨rfl, rfl⟩)
      | (obtain ⟨_, _, _, _, rfl, _⟩ := h; exact ⟨rfl, rfl⟩)
      | (obtain ⟨_, _, _, _, _, rfl, _⟩ := h; exact ⟨rfl, rfl⟩)
      | (obtain ⟨_, _, _, _, _, _, rfl, _⟩ := h; exact ⟨rfl, rfl⟩)
      | (obtain ⟨_, _, _, _, _, _, _, rfl, _⟩ := h; exact ⟨rfl, rfl⟩)
      | (obtain ⟨_, _, _, _, _, _, _, _, rfl, _⟩ := h; exact ⟨rfl, rfl⟩)
      | (obtain ⟨_, _, _, _, _, _, _, _, _, rfl, _⟩ := h; exact ⟨rfl, rfl⟩)
      | (obtain ⟨_, _, _, _, _, _, _, _, _, _, rfl, _⟩ := h; exact ⟨rfl, rfl⟩)
      | (obtain ⟨_, _, _, _, _, _, _, _, _, _, _, rfl, _⟩ := h; exact ⟨rfl, rfl⟩)
  · obtain ⟨a, b, rfl, q⟩ := h
    cases a with
    | none =>
      cases b with
      | none =>
        walk_at "ax"
        exact q
      | some y =>
        walk_at "ax"
        exact q
    | some x =>
      cases b with
      | none =>
        walk_at "ax"
        exact q
      | some y =>
        walk_at "ax"
        exact q
/-! ### slopes_behind -/
abbrev s_slopes_behind : Stmt := topS 16
theorem sc_slopes_behind : FnScope ["rises", "cuts", "found", "at", "cut"] ["rises", "cuts"] (defScope s_slopes_behind) := ⟨rfl, rfl, rfl, by decide +kernel, rfl, by decide +kernel, by decide +kernel⟩
def fs_slopes_behind (cNeed : Addr) : FSp := fun ds Q => ∃ (t : Bool) (rs : List Pr) (cs : List Int), ds = [.sh (sq t (pRs rs)), .sh (.lst (pI cs))] ∧ (Asc (-1) rs ∧ rs.length ≤ 1000 ∧ cs.Pairwise (· < ·) ∧ cs.length ≤ 5000) ∧ Q (.ol (pI (cs.map (slp rs)))) ds
theorem ok_slopes_behind {Pg : Program} {w : World} {K : PySem.W.Frag} {mg : Str → Option Value} {base : Heap} {a : Addr} {fd : FuncData} (F : L2.Fun K "slopes_behind" "slopes_behind" s_slopes_behind a fd)
    (m_len : mg "len" = none)
    {cNeed : Addr} (T : Txt K mg cNeed) :
    FnOk Pg w K mg base CX0 1 a fd ["rises", "cuts"] (spD K (fs_slopes_behind cNeed)) := by
  have n_Need_start : ClsA K cNeed "start" := ⟨T.cl_Need, T.n_Need_start⟩
  have n_Need_rises : ClsA K cNeed "rises" := ⟨T.cl_Need, T.n_Need_rises⟩
  have n_Need_never : ClsA K cNeed "never" := ⟨T.cl_Need, T.n_Need_never⟩
  have n_Need__values : ClsA K cNeed "_values" := ⟨T.cl_Need, T.n_Need__values⟩
  have is_Need := T.is_Need
  refine Fun.okD [] F sc_slopes_behind (fun ds QD h => ?_) (fun cdv A outer s H E hr => ⟨_, _, (dss_cons (ds_put (do_lst da_nil) (pg_name (i := 2) sc_slopes_behind.nd rfl (by first | exact .inl rfl | exact .inr rfl)))
    (dss_cons (ds_asg de_int (dg_name (pg_name (i := 3) sc_slopes_behind.nd rfl (by first | exact .inl rfl | exact .inr rfl))))
    (dss_cons (ds_for PassesOwn.never rfl (di_seq (de_v 1 (pv 1))) (dg_name (pg_name (i := 4) sc_slopes_behind.nd rfl (by first | exact .inl rfl | exact .inr rfl)))
    (dss_cons (ds_while PassesOwn.never (DW.pt (dw_and (dt_cmp op_lt os_lt (de_v 3 (pv 3)) (de_cb (fun h => pe_callB call_len (by rfl) m_len PySem.boot_len h) cs_len (da_cons (de_v 0 (pv 0)) da_nil)) (nomark _)) (dw_and (dt_cmp op_notN os_notN (de_ix ix_seq os_ix (de_ix ix_seq os_ix (de_v 0 (pv 0)) (de_v 3 (pv 3))) de_int) de_non (nomark _)) (dw_and1 (dt_cmp op_le os_le (de_ix ix_seq os_ix (de_ix ix_seq os_ix (de_v 0 (pv 0)) (de_v 3 (pv 3))) de_int) (de_v 4 (pv 4)) (nomark _))))))
    (dss_one (ds_aug (i := 3) (by decide) (fun h => ps_aug (i := 3) sc_slopes_behind.nd rfl (by first | exact .inl rfl | exact .inr rfl) h ip_add) de_int)))
    (dss_one (ds_app (fun h => pe_bm PySem.F.plainAttrs_list PySem.F.slot_list_append PySem.F.type_list_append mt_append (pv 2) h) (de_ifExp (DW.pt (dw_and (dt_cmp op_lt os_lt (de_v 3 (pv 3)) (de_cb (fun h => pe_callB call_len (by rfl) m_len PySem.boot_len h) cs_len (da_cons (de_v 0 (pv 0)) da_nil)) (nomark _)) (dw_and1 (dt_cmp op_le os_le (de_ix ix_seq os_ix (de_ix ix_seq os_ix (de_v 0 (pv 0)) (de_v 3 (pv 3))) de_int) (de_v 4 (pv 4)) (nomark _))))) de_int de_int)))))
    (dss_one (ds_retV 2 (pv 2)))))), fun ds QD h => ?_⟩)
  · first
      | (obtain ⟨rfl, _⟩ := h; exact ⟨rfl, rfl⟩)
      | (obtain ⟨_, rfl, _⟩ := h; exact ⟨rfl, rfl⟩)
      | (obtain ⟨_, _, rfl, _⟩ := h; exact ⟨rfl, rfl⟩)
      | (obtain ⟨_, _, _, rfl, _⟩ := h; exact ⟨rfl, rfl⟩)
      | (obtain ⟨_, _, _, _, rfl, _⟩ := h; exact ⟨rfl, rfl⟩)
      | (obtain ⟨_, _, _, _, _, rfl, _⟩ := h; exact ⟨rfl, rfl⟩)
      | (obtain ⟨_, _, _, _, _, _, rfl, _⟩ := h; exact ⟨rfl, rfl⟩)
      | (obtain ⟨_, _, _, _, _, _, _, rfl, _⟩ := h; exact ⟨rfl, rfl⟩)
      | (obtain ⟨_, _, _, _, _, _, _, _, rfl, _⟩ := h; exact ⟨rfl, rfl⟩)
      | (obtain ⟨_, _, _, _, _, _, _, _, _, rfl, _⟩ := h; exact ⟨rfl, rfl⟩)
      | (obtain ⟨_, _, _, _, _, _, _, _, _, _, rfl, _⟩ := h; exact ⟨rfl, rfl⟩)
      | (obtain ⟨_, _, _, _, _, _, _, _, _, _, _, rfl, _⟩ := h; exact ⟨rfl, rfl⟩)
  · obtain ⟨t, rs, cs, rfl, ⟨ha, hl, hp, hc⟩, q⟩ := h
    have ecl := pI_len cs
    have erl : (pRs rs).length = rs.length := List.length_map _
    cases t
    all_goals (
      walk_at "ax"
      refine ⟨fun i env => ∃ (n : Nat) (cv : Option D), env = [some (.sh (sq _ (pRs rs))), some (.sh (.lst (pI cs))), some (.ol (pI ((cs.take i).map (slp rs)))), some (.sh (.int (n : Int))), cv] ∧ n ≤ rs.length ∧ ∀ (j : Nat) p, j < n → rs[j]? = some p → ∃ h, p.2 = some h ∧ ∀ (m : Nat) c, i ≤ m → cs[m]? = some c → h ≤ c, ⟨0, none, rfl, Nat.zero_le _, fun j p h => absurd h (Nat.not_lt_zero _)⟩, fun i p e hp' hI => ?_, fun e hI => ?_⟩
      · obtain ⟨n0, cv, rfl, hn0, hb0⟩ := hI
        obtain ⟨c, hci, rfl⟩ := map_get hp'
        have hil : i < cs.length := lt_of_get hci
        have efl : (pI ((cs.take i).map (slp rs))).length = i := by rw [pI_len, List.length_map, List.length_take]; omega
        walk_at "ax"
        refine ⟨fun m e => ∃ (n : Nat), e = [some (.sh (sq _ (pRs rs))), some (.sh (.lst (pI cs))), some (.ol (pI ((cs.take i).map (slp rs)))), some (.sh (.int (n : Int))), some (.sh (.int c))] ∧ n ≤ rs.length ∧ (∀ (j : Nat) p, j < n → rs[j]? = some p → ∃ h, p.2 = some h ∧ h ≤ c) ∧ m = rs.length - n, ⟨_, n0, rfl, hn0, fun j p h1 h2 => by
          obtain ⟨h, e, hh⟩ := hb0 j p h1 h2
          exact ⟨h, e, hh i c (Nat.le_refl _) hci⟩, rfl⟩, fun m e hI => ?_⟩
        obtain ⟨n, rfl, hn, hb, rfl⟩ := hI
        have nxt : ∀ j p, j < n → rs[j]? = some p → ∃ h, p.2 = some h ∧ ∀ (m : Nat) d, i + 1 ≤ m → cs[m]? = some d → h ≤ d := fun j p h1 h2 => by
          obtain ⟨h, e, hh⟩ := hb j p h1 h2
          exact ⟨h, e, fun m d hm hd => by have := cs_lt hp hci hd (by omega); omega⟩
        by_cases hlt : n < rs.length
        · obtain ⟨⟨lo, hi⟩, hrn⟩ : ∃ p, rs[n]? = some p := ⟨_, List.getElem?_eq_getElem hlt⟩
          cases hi with
          | none =>
            have es := NM.slp_at (c := c) ha hb (fun p h h' e => by rw [hrn] at h; cases h; cases e)
            rw [hrn] at es
            simp only at es
            walk_at "ax"
            refine ⟨_, atI_map' hrn, ?_⟩
            walk_at "ax"
            refine ⟨_, atI_map' hrn, ?_⟩
            walk_at "ax"
            · rw [show (P.int 1) = P.int (slp rs c) by rw [es, if_pos (by assumption)], pI_take _ hci]
              exact ⟨n, _, rfl, hn, nxt⟩
            · rw [show (P.int 0) = P.int (slp rs c) by rw [es, if_neg (by omega)], pI_take _ hci]
              exact ⟨n, _, rfl, hn, nxt⟩
          | some x =>
            walk_at "ax"
            refine ⟨_, atI_map' hrn, ?_⟩
            walk_at "ax"
            refine ⟨_, atI_map' hrn, ?_⟩
            walk_at "ax"
            · refine ⟨rs.length - (n + 1), by omega, n + 1, rfl, by omega, fun j p h1 h2 => ?_, rfl⟩
              rcases Nat.lt_or_ge j n with h3 | h3
              · exact hb j p h3 h2
              · have e : j = n := by omega
                subst e
                rw [hrn] at h2
                cases h2
                exact ⟨x, rfl, by assumption⟩
            · have hcx : c < x := by assumption
              have es := NM.slp_at (c := c) ha hb (fun p h h' e => by rw [hrn] at h; cases h; cases e; exact hcx)
              rw [hrn] at es
              simp only at es
              refine ⟨_, atI_map' hrn, ?_⟩
              walk_at "ax"
              · rw [show (P.int 1) = P.int (slp rs c) by rw [es, if_pos (by assumption)], pI_take _ hci]
                exact ⟨n, _, rfl, hn, nxt⟩
              · rw [show (P.int 0) = P.int (slp rs c) by rw [es, if_neg (by omega)], pI_take _ hci]
                exact ⟨n, _, rfl, hn, nxt⟩
        · have es := NM.slp_at (c := c) (n := n) ha hb (fun p h => by rw [List.getElem?_eq_none (by omega)] at h; cases h)
          rw [List.getElem?_eq_none (by omega)] at es
          simp only at es
          walk_at "ax"
          rw [show (P.int 0) = P.int (slp rs c) by rw [es], pI_take _ hci]
          exact ⟨n, _, rfl, hn, nxt⟩
      · obtain ⟨n0, cv, rfl, hn0, hb0⟩ := hI
        rw [ecl, List.take_length]
        walk_at "ax"
        exact q)
/-! ### values_at_cuts -/
abbrev s_values_at_cuts : Stmt := topS 17
theorem sc_values_at_cuts : FnScope ["start", "slopes", "cuts", "found", "at"] ["start", "slopes", "cuts"] (defScope s_values_at_cuts) := ⟨rfl, rfl, rfl, by decide +kernel, rfl, by decide +kernel, by decide +kernel⟩
def fs_values_at_cuts (cNeed : Addr) : FSp := fun ds Q => ∃ (s : Int) (rs : List Pr) (cs : List Int), ds = [.sh (.int s), .sh (.lst (pI (cs.map (slp rs)))), .sh (.lst (pI cs))] ∧ (Asc (-1) rs ∧ Ends rs cs ∧ cs.Pairwise (· < ·) ∧ cs[0]? = some 0 ∧ cs.length ≤ 5000 ∧ ∀ c ∈ cs, 0 ≤ c ∧ c ≤ 10 ^ 250) ∧ Q (.ol (pI (cs.map (val s rs)))) ds
theorem ok_values_at_cuts {Pg : Program} {w : World} {K : PySem.W.Frag} {mg : Str → Option Value} {base : Heap} {a : Addr} {fd : FuncData} (F : L2.Fun K "values_at_cuts" "values_at_cuts" s_values_at_cuts a fd)
    (m_range : mg "range" = none)
    (m_len : mg "len" = none)
    {cNeed : Addr} (T : Txt K mg cNeed) :
    FnOk Pg w K mg base CX0 1 a fd ["start", "slopes", "cuts"] (spD K (fs_values_at_cuts cNeed)) := by
  have n_Need_start : ClsA K cNeed "start" := ⟨T.cl_Need, T.n_Need_start⟩
  have n_Need_rises : ClsA K cNeed "rises" := ⟨T.cl_Need, T.n_Need_rises⟩
  have n_Need_never : ClsA K cNeed "never" := ⟨T.cl_Need, T.n_Need_never⟩
  have n_Need__values : ClsA K cNeed "_values" := ⟨T.cl_Need, T.n_Need__values⟩
  have is_Need := T.is_Need
  refine Fun.okD [] F sc_values_at_cuts (fun ds QD h => ?_) (fun cdv A outer s H E hr => ⟨_, _, (dss_cons (ds_put (do_lst (da_cons (de_v 0 (pv 0)) da_nil)) (pg_name (i := 3) sc_values_at_cuts.nd rfl (by first | exact .inl rfl | exact .inr rfl)))
    (dss_cons (ds_for PassesOwn.never rfl (di_rng1 (fun h => pi_range1 (by rfl) m_range h) (da_cons (de_op op_sub os_sub (de_cb (fun h => pe_callB call_len (by rfl) m_len PySem.boot_len h) cs_len (da_cons (de_v 2 (pv 2)) da_nil)) de_int) da_nil)) (dg_name (pg_name (i := 4) sc_values_at_cuts.nd rfl (by first | exact .inl rfl | exact .inr rfl)))
    (dss_one (ds_app (fun h => pe_bm PySem.F.plainAttrs_list PySem.F.slot_list_append PySem.F.type_list_append mt_append (pv 3) h) (de_op op_add os_add (de_itm 3 (fun h => pe_ix ix_list (pv 3) h (fun _ _ => rfl)) (de_v 4 (pv 4))) (de_op op_mulW os_mul (de_ix ix_seq os_ix (de_v 1 (pv 1)) (de_v 4 (pv 4))) (de_op op_sub os_sub (de_ix ix_seq os_ix (de_v 2 (pv 2)) (de_op op_add os_add (de_v 4 (pv 4)) de_int)) (de_ix ix_seq os_ix (de_v 2 (pv 2)) (de_v 4 (pv 4)))))))))
    (dss_one (ds_retV 3 (pv 3))))), fun ds QD h => ?_⟩)
  · first
      | (obtain ⟨rfl, _⟩ := h; exact ⟨rfl, rfl⟩)
      | (obtain ⟨_, rfl, _⟩ := h; exact ⟨rfl, rfl⟩)
      | (obtain ⟨_, _, rfl, _⟩ := h; exact ⟨rfl, rfl⟩)
      | (obtain ⟨_, _, _, rfl, _⟩ := h; exact ⟨rfl, rfl⟩)
      | (obtain ⟨_, _, _, _, rfl, _⟩ := h; exact ⟨rfl, rfl⟩)
      | (obtain ⟨_, _, _, _, _, rfl, _⟩ := h; exact ⟨rfl, rfl⟩)
      | (obtain ⟨_, _, _, _, _, _, rfl, _⟩ := h; exact ⟨rfl, rfl⟩)
      | (obtain ⟨_, _, _, _, _, _, _, rfl, _⟩ := h; exact ⟨rfl, rfl⟩)
      | (obtain ⟨_, _, _, _, _, _, _, _, rfl, _⟩ := h; exact ⟨rfl, rfl⟩)
      | (obtain ⟨_, _, _, _, _, _, _, _, _, rfl, _⟩ := h; exact ⟨rfl, rfl⟩)
      | (obtain ⟨_, _, _, _, _, _, _, _, _, _, rfl, _⟩ := h; exact ⟨rfl, rfl⟩)
      | (obtain ⟨_, _, _, _, _, _, _, _, _, _, _, rfl, _⟩ := h; exact ⟨rfl, rfl⟩)
  · obtain ⟨s, rs, cs, rfl, ⟨ha, he, hp, h0, hc, hcb⟩, q⟩ := h
    have ecl := pI_len cs
    have esl : (pI (cs.map (slp rs))).length = cs.length := by rw [pI_len, List.length_map]
    have hl0 : 0 < cs.length := lt_of_get h0
    walk_at "ax"
    refine ⟨fun i env => ∃ (av : Option D), env = [some (.sh (.int s)), some (.sh (.lst (pI (cs.map (slp rs))))), some (.sh (.lst (pI cs))), some (.ol (pI ((cs.take (i + 1)).map (val s rs)))), av], ⟨none, ?_⟩, fun i p e hp' hI => ?_, fun e hI => ?_⟩
    · obtain ⟨r, rfl⟩ : ∃ r, cs = 0 :: r := by
        cases cs with
        | nil => cases h0
        | cons a r => cases h0; exact ⟨r, rfl⟩
      rw [show ((((0 : Int) :: r).take (0 + 1)).map (val s rs)) = [s] by show [val s rs 0] = [s]; rw [NM.val_zero ha]]
      rfl
    · obtain ⟨av, rfl⟩ := hI
      obtain ⟨hi, rfl⟩ := rngP_get hp'
      rw [ecl] at hi
      have hi' : i + 1 < cs.length := by omega
      obtain ⟨c, hci⟩ : ∃ c, cs[i]? = some c := ⟨_, List.getElem?_eq_getElem (by omega)⟩
      obtain ⟨d, hdi⟩ : ∃ d, cs[i + 1]? = some d := ⟨_, List.getElem?_eq_getElem hi'⟩
      have eg := NM.seg_in (s := s) (k := d) ha he hp (split_at hci hdi) (Int.le_of_lt (cs_lt hp hci hdi (Nat.lt_succ_self i))) (Int.le_refl _)
      have hc1 := hcb c (List.mem_of_getElem? hci)
      have hd1 := hcb d (List.mem_of_getElem? hdi)
      have hs1 := NM.slp_01 (k := c) ha
      have efl : (pI ((cs.take (i + 1)).map (val s rs))).length = i + 1 := by rw [pI_len, List.length_map, List.length_take]; omega
      walk_at "ax"
      refine ⟨_, atI0 (x := val s rs c) (by rw [List.getElem?_map, List.getElem?_take_of_lt (by omega), hci]; rfl), ?_⟩
      walk_at "ax"
      refine ⟨_, atI0 (x := slp rs c) (by rw [List.getElem?_map, hci]; rfl), ?_⟩
      walk_at "ax"
      refine ⟨P.int d, by rw [show (0 : Int) + (i : Int) + 1 = ((i + 1 : Nat) : Int) by omega]; exact atI_map' hdi, ?_⟩
      walk_at "ax"
      refine ⟨_, atI0 hci, ?_⟩
      walk_at "ax"
      refine ⟨cmul_of 64 1000 ⟨by omega, by omega⟩ ⟨by omega, by omega⟩, ?_⟩
      walk_at "ax"
      rw [show (fun (i j : Int) => P.int (i + j)) (val s rs c) (slp rs c * (d - c)) = P.int (val s rs d) from congrArg P.int eg.symm, pI_take _ hdi]
      exact ⟨_, rfl⟩
    · obtain ⟨av, rfl⟩ := hI
      rw [rngP_len, ecl, show ((cs.length : Int) - 1).toNat + 1 = cs.length by omega, List.take_length]
      walk_at "ax"
      exact q
/-! ### joined -/
abbrev s_joined : Stmt := topS 19
theorem sc_joined : FnScope ["spans", "found", "low", "high"] ["spans"] (defScope s_joined) := ⟨rfl, rfl, rfl, by decide +kernel, rfl, by decide +kernel, by decide +kernel⟩
def fs_joined (cNeed : Addr) : FSp := fun ds Q => ∃ (ps : List Pr), ds = [.sh (.lst (pRs ps))] ∧ (WA 0 ps ∧ ps.length ≤ 5000) ∧ ∀ rs, (Asc (-1) rs ∧ (∀ k, vsum rs k = vsum ps k) ∧ rs.length ≤ ps.length) → Q (.sh (.tup (pRs rs))) ds
theorem ok_joined {Pg : Program} {w : World} {K : PySem.W.Frag} {mg : Str → Option Value} {base : Heap} {a : Addr} {fd : FuncData} (F : L2.Fun K "joined" "joined" s_joined a fd)
    (m_tuple : mg "tuple" = none)
    {cNeed : Addr} (T : Txt K mg cNeed) :
    FnOk Pg w K mg base CX0 1 a fd ["spans"] (spD K (fs_joined cNeed)) := by
  have n_Need_start : ClsA K cNeed "start" := ⟨T.cl_Need, T.n_Need_start⟩
  have n_Need_rises : ClsA K cNeed "rises" := ⟨T.cl_Need, T.n_Need_rises⟩
  have n_Need_never : ClsA K cNeed "never" := ⟨T.cl_Need, T.n_Need_never⟩
  have n_Need__values : ClsA K cNeed "_values" := ⟨T.cl_Need, T.n_Need__values⟩
  have is_Need := T.is_Need
  refine Fun.okD [] F sc_joined (fun ds QD h => ?_) (fun cdv A outer s H E hr => ⟨_, _, (dss_cons (ds_put (do_lst da_nil) (pg_name (i := 1) sc_joined.nd rfl (by first | exact .inl rfl | exact .inr rfl)))
    (dss_cons (ds_for PassesOwn.never rfl (di_seq (de_v 0 (pv 0))) (dg_seq (fun h => pg_tup rfl h) (fun h => pg_unl rfl h) (dgs_cons (dg_name (pg_name (i := 2) sc_joined.nd rfl (by first | exact .inl rfl | exact .inr rfl))) (dgs_cons (dg_name (pg_name (i := 3) sc_joined.nd rfl (by first | exact .inl rfl | exact .inr rfl))) dgs_nil)))
    (dss_one (ds_if (dt_lend 1 (DW.pt (dw_and (dt_tru (de_v 1 (pv 1))) (dw_and1 (dt_cmp (op_eqD hr.units) os_eqD (de_ix ix_seq os_ix (de_ix ix_seq os_ix (de_v 1 (pv 1)) (de_un un_neg us_neg de_int)) de_int) (de_v 2 (pv 2)) (nomark _))))))
    (dss_one (ds_setI (fun h => pg_sub (pv 1) h set_list) (de_un un_neg us_neg de_int) (de_tup (da_cons (de_lend 1 (de_ix ix_seq os_ix (de_ix ix_seq os_ix (de_v 1 (pv 1)) (de_un un_neg us_neg de_int)) de_int)) (da_cons (de_v 3 (pv 3)) da_nil)))))
    (dss_one (ds_app (fun h => pe_bm PySem.F.plainAttrs_list PySem.F.slot_list_append PySem.F.type_list_append mt_append (pv 1) h) (de_tup (da_cons (de_v 2 (pv 2)) (da_cons (de_v 3 (pv 3)) da_nil))))))))
    (dss_one (ds_ret (de_cb (fun h => pe_callTy call_tuple_of (by rfl) m_tuple (by decide +kernel) h) cs_tuple (da_cons (de_vF 1 (pv 1)) da_nil)))))), fun ds QD h => ?_⟩)
  · first
      | (obtain ⟨rfl, _⟩ := h; exact ⟨rfl, rfl⟩)
      | (obtain ⟨_, rfl, _⟩ := h; exact ⟨rfl, rfl⟩)
      | (obtain ⟨_, _, rfl, _⟩ := h; exact ⟨rfl, rfl⟩)
      | (obtain ⟨_, _, _, rfl, _⟩ := h; exact ⟨rfl, rfl⟩)
      | (obtain ⟨_, _, _, _, rfl, _⟩ := h; exact ⟨rfl, rfl⟩)
      | (obtain ⟨_, _, _, _, _, rfl, _⟩ := h; exact ⟨rfl, rfl⟩)
      | (obtain ⟨_, _, _, _, _, _, rfl, _⟩ := h; exact ⟨rfl, rfl⟩)
      | (obtain ⟨_, _, _, _, _, _, _, rfl, _⟩ := h; exact ⟨rfl, rfl⟩)
      | (obtain ⟨_, _, _, _, _, _, _, _, rfl, _⟩ := h; exact ⟨rfl, rfl⟩)
      | (obtain ⟨_, _, _, _, _, _, _, _, _, rfl, _⟩ := h; exact ⟨rfl, rfl⟩)
      | (obtain ⟨_, _, _, _, _, _, _, _, _, _, rfl, _⟩ := h; exact ⟨rfl, rfl⟩)
      | (obtain ⟨_, _, _, _, _, _, _, _, _, _, _, rfl, _⟩ := h; exact ⟨rfl, rfl⟩)
  · obtain ⟨ps, rfl, ⟨hw, hl⟩, q⟩ := h
    have epl : (pRs ps).length = ps.length := List.length_map _
    walk_at "ax"
    refine ⟨fun i env => ∃ (acc : List Pr) (lv hv : Option D), env = [some (.sh (.lst (pRs ps))), some (.ol (pRs acc)), lv, hv] ∧ (∀ k, vsum acc k = vsum (ps.take i) k) ∧ acc.length ≤ i ∧ Asc (-1) acc ∧ (ps.drop i = [] ∨ ∃ b, JI acc b ∧ WA b (ps.drop i)), ⟨[], none, none, rfl, fun k => rfl, Nat.le_refl _, trivial, .inr ⟨0, NM.ji_nil, hw⟩⟩, fun i p e hp' hI => ?_, fun e hI => ?_⟩
    · obtain ⟨acc, lv, hv, rfl, hv0, hal, hA, hJ⟩ := hI
      obtain ⟨⟨lo, hi⟩, hpi, rfl⟩ := map_get hp'
      have hil : i < ps.length := lt_of_get hpi
      have eal : (pRs acc).length = acc.length := List.length_map _
      rw [NM.drop_cons hpi] at hJ
      obtain ⟨b, J, hW⟩ := hJ.resolve_left (by simp)
      have hb : b ≤ lo := by cases hi <;> exact hW.1
      have hh : ∀ h, hi = some h → lo < h := fun h e => by subst e; exact hW.2.1
      have hW2 : ∀ h, hi = some h → WA h (ps.drop (i + 1)) := fun h e => by subst e; exact hW.2.2
      have hW3 : hi = none → ps.drop (i + 1) = [] := fun e => by subst e; exact hW.2
      have out : ∀ acc' : List Pr, Asc (-1) acc' → (∀ k, vsum acc' k = vsum acc k + NM.con (lo, hi) k) → (∀ h, hi = some h → JI acc' h) → (∀ k, vsum acc' k = vsum (ps.take (i + 1)) k) ∧ Asc (-1) acc' ∧ (ps.drop (i + 1) = [] ∨ ∃ b, JI acc' b ∧ WA b (ps.drop (i + 1))) := fun acc' h1 h2 h3 => ⟨fun k => by rw [h2, hv0, NM.take_snoc hpi, NM.vsum_snoc], h1, by
        cases hi with
        | none => exact .inl (hW3 rfl)
        | some h => exact .inr ⟨h, h3 h rfl, hW2 h rfl⟩⟩
      rcases J.last with rfl | ⟨pre, a, rfl⟩
      · obtain ⟨j1, j2, j3⟩ := J.add hb (.inl rfl) hh
        obtain ⟨o1, o2, o3⟩ := out _ j1 j2 j3
        walk_at "ax"
        exact ⟨[] ++ [(lo, hi)], _, _, rfl, o1, by simp, o2, o3⟩
      · have hla : (pRs (pre ++ [(a, some b)]))[(pRs (pre ++ [(a, some b)])).length - 1]? = some (prP (a, some b)) := by simp [pRs]
        have e2 : ∀ p : Pr, pRs ((pre ++ [(a, some b)]) ++ [p]) = pRs (pre ++ [(a, some b)]) ++ [prP p] := fun p => by simp [pRs]
        have e3 : (pRs (pre ++ [(a, some b)])).set ((pRs (pre ++ [(a, some b)])).length - 1) (prP (a, hi)) = pRs (pre ++ [(a, hi)]) := by
          simp [pRs]
        have hpos : 0 < (pRs (pre ++ [(a, some b)])).length := by rw [eal, List.length_append]; show 0 < pre.length + 1; omega
        walk_at "ax"
        · refine ⟨_, atI_m1 hla, ?_⟩
          walk_at "ax"
          · rename_i hc1 hc2
            have hbl : b = lo := of_decide_eq_true ((eqv_int b lo).symm.trans hc2)
            subst hbl
            obtain ⟨j1, j2, j3⟩ := J.join hh
            obtain ⟨o1, o2, o3⟩ := out _ j1 j2 j3
            refine ⟨_, atI_m1 hla, ?_⟩
            walk_at "ax"
            refine ⟨trivial, ?_⟩
            walk_at "ax"
            refine ⟨_, ixN_m1 hpos, ?_⟩
            have e4 : (pRs (pre ++ [(a, some b)])).set ((pRs (pre ++ [(a, some b)])).length - 1) (P.tup [.int a, oI hi]) = pRs (pre ++ [(a, hi)]) := e3
            rw [show (pRs (pre ++ [(a, some b)])).set ((pRs (pre ++ [(a, some b)])).length - 1) (P.tup ((fun x => P.int (a, some b).fst :: x) ((fun x => oI (b, hi).snd :: x) []))) = pRs (pre ++ [(a, hi)]) from e4]
            exact ⟨pre ++ [(a, hi)], _, _, rfl, o1, by rw [List.length_append] at hal ⊢; exact Nat.le_succ_of_le hal, o2, o3⟩
          · rename_i hc1 hc2
            have hbl : b ≠ lo := of_decide_eq_false ((eqv_int b lo).symm.trans hc2)
            obtain ⟨j1, j2, j3⟩ := J.add hb (.inr hbl) hh
            obtain ⟨o1, o2, o3⟩ := out _ j1 j2 j3
            exact ⟨(pre ++ [(a, some b)]) ++ [(lo, hi)], _, _, by rw [e2]; rfl, o1, by rw [List.length_append]; show _ + 1 ≤ _; omega, o2, o3⟩
        · rename_i hc1 hc2
          simp [pRs] at hc1
    · obtain ⟨acc, lv, hv, rfl, hv0, hal, hA, hJ⟩ := hI
      rw [epl, List.take_length] at hv0
      rw [epl] at hal
      walk_at "ax"
      exact q acc ⟨hA, hv0, hal⟩
/-! ### first_above -/
abbrev s_first_above : Stmt := topS 22
theorem sc_first_above : FnScope ["pieces", "low", "high", "one", "slope", "other", "other_slope", "met"] ["pieces"] (defScope s_first_above) := ⟨rfl, rfl, rfl, by decide +kernel, rfl, by decide +kernel, by decide +kernel⟩
def fs_first_above (cNeed : Addr) : FSp := fun ds Q => ∃ (s1 s2 : Int) (r1 r2 : List Pr) (cs : List Int), ds = [.sh (.lst (rowsP s1 r1 s2 r2 cs))] ∧ (Asc (-1) r1 ∧ Asc (-1) r2 ∧ Cuts cs r1 r2) ∧ ∀ o, NM.FirstA (val s1 r1) (val s2 r2) o → Q (.sh (oI o)) ds
theorem ok_first_above {Pg : Program} {w : World} {K : PySem.W.Frag} {mg : Str → Option Value} {base : Heap} {a : Addr} {fd : FuncData} (F : L2.Fun K "first_above" "first_above" s_first_above a fd)
    {cNeed : Addr} (T : Txt K mg cNeed) :
    FnOk Pg w K mg base CX0 1 a fd ["pieces"] (spD K (fs_first_above cNeed)) := by
  have n_Need_start : ClsA K cNeed "start" := ⟨T.cl_Need, T.n_Need_start⟩
  have n_Need_rises : ClsA K cNeed "rises" := ⟨T.cl_Need, T.n_Need_rises⟩
  have n_Need_never : ClsA K cNeed "never" := ⟨T.cl_Need, T.n_Need_never⟩
  have n_Need__values : ClsA K cNeed "_values" := ⟨T.cl_Need, T.n_Need__values⟩
  have is_Need := T.is_Need
  refine Fun.okD [] F sc_first_above (fun ds QD h => ?_) (fun cdv A outer s H E hr => ⟨_, _, (dss_cons (ds_for PassesOwn.never rfl (di_seq (de_v 0 (pv 0))) (dg_seq (fun h => pg_tup rfl h) (fun h => pg_unl rfl h) (dgs_cons (dg_name (pg_name (i := 1) sc_first_above.nd rfl (by first | exact .inl rfl | exact .inr rfl))) (dgs_cons (dg_name (pg_name (i := 2) sc_first_above.nd rfl (by first | exact .inl rfl | exact .inr rfl))) (dgs_cons (dg_name (pg_name (i := 3) sc_first_above.nd rfl (by first | exact .inl rfl | exact .inr rfl))) (dgs_cons (dg_name (pg_name (i := 4) sc_first_above.nd rfl (by first | exact .inl rfl | exact .inr rfl))) (dgs_cons (dg_name (pg_name (i := 5) sc_first_above.nd rfl (by first | exact .inl rfl | exact .inr rfl))) (dgs_cons (dg_name (pg_name (i := 6) sc_first_above.nd rfl (by first | exact .inl rfl | exact .inr rfl))) dgs_nil)))))))
    (dss_cons (ds_if (dt_cmp op_gt os_gt (de_v 3 (pv 3)) (de_v 5 (pv 5)) (nomark _))
    (dss_one (ds_ret (de_v 1 (pv 1))))
    dss_nil)
    (dss_cons (ds_asg (de_op op_add os_add (de_op op_sub os_sub (de_op op_add os_add (de_v 1 (pv 1)) (de_v 5 (pv 5))) (de_v 3 (pv 3))) de_int) (dg_name (pg_name (i := 7) sc_first_above.nd rfl (by first | exact .inl rfl | exact .inr rfl))))
    (dss_one (ds_if (DW.pt (dw_and (dt_cmp op_gt os_gt (de_v 4 (pv 4)) (de_v 6 (pv 6)) (nomark _)) (dw_and1 (DW.pt (dw_or (dt_cmp op_isN os_isN (de_v 2 (pv 2)) de_non (nomark _)) (dw_or1 (dt_cmp op_le os_le (de_v 7 (pv 7)) (de_v 2 (pv 2)) (nomark _))))))))
    (dss_one (ds_ret (de_v 7 (pv 7))))
    dss_nil)))))
    (dss_one (ds_ret de_non))), fun ds QD h => ?_⟩)
  · first
      | (obtain ⟨rfl, _⟩ := h; exact ⟨rfl, rfl⟩)
      | (obtain ⟨_, rfl, _⟩ := h; exact ⟨rfl, rfl⟩)
      | (obtain ⟨_, _, rfl, _⟩ := h; exact ⟨rfl, rfl⟩)
      | (obtain ⟨_, _, _, rfl, _⟩ := h; exact ⟨rfl, rfl⟩)
      | (obtain ⟨_, _, _, _, rfl, _⟩ := h; exact ⟨rfl, rfl⟩)
      | (obtain ⟨_, _, _, _, _, rfl, _⟩ := h; exact ⟨rfl, rfl⟩)
      | (obtain ⟨_, _, _, _, _, _, rfl, _⟩ := h; exact ⟨rfl, rfl⟩)
      | (obtain ⟨_, _, _, _, _, _, _, rfl, _⟩ := h; exact ⟨rfl, rfl⟩)
      | (obtain ⟨_, _, _, _, _, _, _, _, rfl, _⟩ := h; exact ⟨rfl, rfl⟩)
      | (obtain ⟨_, _, _, _, _, _, _, _, _, rfl, _⟩ := h; exact ⟨rfl, rfl⟩)
      | (obtain ⟨_, _, _, _, _, _, _, _, _, _, rfl, _⟩ := h; exact ⟨rfl, rfl⟩)
      | (obtain ⟨_, _, _, _, _, _, _, _, _, _, _, rfl, _⟩ := h; exact ⟨rfl, rfl⟩)
  · obtain ⟨s1, s2, r1, r2, cs, rfl, ⟨a1, a2, hC⟩, q⟩ := h
    have erl := rows_len s1 s2 r1 r2 cs
    have hcl := hC.len
    walk_at "ax"
    refine ⟨fun i env => ∃ (u1 u2 u3 u4 u5 u6 u7 : Option D), env = [some (.sh (.lst (rowsP s1 r1 s2 r2 cs))), u1, u2, u3, u4, u5, u6, u7] ∧ ∀ k, 0 ≤ k → (∀ c, cs[i]? = some c → k < c) → val s1 r1 k ≤ val s2 r2 k, ⟨none, none, none, none, none, none, none, rfl, fun k h0 h => by have := h 0 hC.z; omega⟩, fun i p e hp' hI => ?_, fun e hI => ?_⟩
    · obtain ⟨u1, u2, u3, u4, u5, u6, u7, rfl, hb⟩ := hI
      obtain ⟨hi, rfl⟩ := rows_get hp'
      obtain ⟨c, hci⟩ : ∃ c, cs[i]? = some c := ⟨_, List.getElem?_eq_getElem hi⟩
      have hcd : cs.getD i 0 = c := by rw [List.getD_eq_getElem?_getD, hci]; rfl
      rw [hcd]
      have hb1 : ∀ k, 0 ≤ k → k < c → val s1 r1 k ≤ val s2 r2 k := fun k h0 h => hb k h0 fun d hd => by rw [hci] at hd; cases hd; exact h
      have hs := row_seg (s1 := s1) (s2 := s2) a1 a2 hC hci
      have hc0 := (hC.nn c (List.mem_of_getElem? hci)).1
      have hce : ∀ x, cs[i + 1]? = some x → c < x := fun x hx => cs_lt hC.pw hci hx (Nat.lt_succ_self i)
      generalize hee : cs[i + 1]? = e at *
      have nxt : val s1 r1 c ≤ val s2 r2 c → (slp r2 c < slp r1 c → ∃ x, e = some x ∧ x < c + val s2 r2 c - val s1 r1 c + 1) → ∀ k, 0 ≤ k → (∀ d, e = some d → k < d) → val s1 r1 k ≤ val s2 r2 k := fun hv hm k h0 hk => by
        rcases Int.lt_or_le k c with h | h
        · exact hb1 k h0 h
        · exact NM.seg_not hs (NM.slp_01 a1) (NM.slp_01 a2) hv hm h fun x hx => Int.le_of_lt (hk x hx)
      have fst : val s1 r1 c > val s2 r2 c → NM.FirstA (val s1 r1) (val s2 r2) (some c) := fun hv => NM.seg_first hs (fun x hx => Int.le_of_lt (hce x hx)) hc0 hb1 hv
      have met : slp r1 c = 1 → slp r2 c = 0 → val s1 r1 c ≤ val s2 r2 c → (∀ x, e = some x → c + val s2 r2 c - val s1 r1 c + 1 ≤ x) → NM.FirstA (val s1 r1) (val s2 r2) (some (c + val s2 r2 c - val s1 r1 c + 1)) := fun e1 e2 hv hm => by
        rw [e1, e2] at hs
        exact NM.seg_met hs hc0 hb1 hv hm
      clear hs
      unfold rowP
      generalize val s1 r1 c = v1 at *
      generalize val s2 r2 c = v2 at *
      have h1 := NM.slp_01 (k := c) a1
      have h2 := NM.slp_01 (k := c) a2
      generalize slp r1 c = t1 at *
      generalize slp r2 c = t2 at *
      cases e with
      | none =>
        walk_at "ax"
        · exact q _ (fst (by assumption))
        · exact q _ (met (by omega) (by omega) (by omega) (fun x h => by cases h))
        · exact ⟨_, _, _, _, _, _, _, rfl, by rw [hee]; exact nxt (by omega) (by omega)⟩
      | some x =>
        walk_at "ax"
        · exact q _ (fst (by assumption))
        · exact q _ (met (by omega) (by omega) (by omega) (fun y h => by cases h; omega))
        · exact ⟨_, _, _, _, _, _, _, rfl, by rw [hee]; exact nxt (by omega) (fun _ => ⟨x, rfl, by omega⟩)⟩
        · exact ⟨_, _, _, _, _, _, _, rfl, by rw [hee]; exact nxt (by omega) (by omega)⟩
    · obtain ⟨u1, u2, u3, u4, u5, u6, u7, rfl, hb⟩ := hI
      rw [erl] at hb
      walk_at "ax"
      exact q none fun k h0 => hb k h0 fun c hc => by rw [List.getElem?_eq_none (Nat.le_refl _)] at hc; cases hc
/-! ### exceeds -/
abbrev s_exceeds : Stmt := topS 25
theorem sc_exceeds : FnScope ["one", "other"] ["one", "other"] (defScope s_exceeds) := ⟨rfl, rfl, rfl, by decide +kernel, rfl, by decide +kernel, by decide +kernel⟩
def fs_exceeds (cNeed : Addr) : FSp := fun ds Q => ∃ (a b : Option Int), ds = [.sh (oI a), .sh (oI b)] ∧ Q (.sh (.bl (excB a b))) ds
theorem ok_exceeds {Pg : Program} {w : World} {K : PySem.W.Frag} {mg : Str → Option Value} {base : Heap} {a : Addr} {fd : FuncData} (F : L2.Fun K "exceeds" "exceeds" s_exceeds a fd)
    {cNeed : Addr} (T : Txt K mg cNeed) :
    FnOk Pg w K mg base CX0 1 a fd ["one", "other"] (spD K (fs_exceeds cNeed)) := by
  have n_Need_start : ClsA K cNeed "start" := ⟨T.cl_Need, T.n_Need_start⟩
  have n_Need_rises : ClsA K cNeed "rises" := ⟨T.cl_Need, T.n_Need_rises⟩
  have n_Need_never : ClsA K cNeed "never" := ⟨T.cl_Need, T.n_Need_never⟩
  have n_Need__values : ClsA K cNeed "_values" := ⟨T.cl_Need, T.n_Need__values⟩
  have is_Need := T.is_Need
  refine Fun.okD [] F sc_exceeds (fun ds QD h => ?_) (fun cdv A outer s H E hr => ⟨_, _, (dss_one (ds_ret (de_and (de_cmp op_notN os_notN (de_v 1 (pv 1)) de_non (nomark _)) (de_one (de_or (de_cmp op_isN os_isN (de_v 0 (pv 0)) de_non (nomark _)) (de_one (de_cmp op_gt os_gt (de_v 0 (pv 0)) (de_v 1 (pv 1)) (nomark _)))))))), fun ds QD h => ?_⟩)
  · first
      | (obtain ⟨rfl, _⟩ := h; exact ⟨rfl, rfl⟩)
      | (obtain ⟨_, rfl, _⟩ := h; exact ⟨rfl, rfl⟩)
      | (obtain ⟨_, _, rfl, _⟩ := h; exact ⟨rfl, rfl⟩)
      | (obtain ⟨_, _, _, rfl, _⟩ := h; exact ⟨rfl, rfl⟩)
      | (obtain ⟨_, _, _, _, rfl, _⟩ := h; exact ⟨rfl, rfl⟩)
      | (obtain ⟨_, _, _, _, _, rfl, _⟩ := h; exact ⟨rfl, rfl⟩)
      | (obtain ⟨_, _, _, _, _, _, rfl, _⟩ := h; exact ⟨rfl, rfl⟩)
      | (obtain ⟨_, _, _, _, _, _, _, rfl, _⟩ := h; exact ⟨rfl, rfl⟩)
      | (obtain ⟨_, _, _, _, _, _, _, _, rfl, _⟩ := h; exact ⟨rfl, rfl⟩)
      | (obtain ⟨_, _, _, _, _, _, _, _, _, rfl, _⟩ := h; exact ⟨rfl, rfl⟩)
      | (obtain ⟨_, _, _, _, _, _, _, _, _, _, rfl, _⟩ := h; exact ⟨rfl, rfl⟩)
      | (obtain ⟨_, _, _, _, _, _, _, _, _, _, _, rfl, _⟩ := h; exact ⟨rfl, rfl⟩)
  · obtain ⟨a, b, rfl, q⟩ := h
    cases b with
    | none =>
      walk_at "ax"
      exact q
    | some y =>
      cases a with
      | none =>
        walk_at "ax"
        exact q
      | some x =>
        walk_at "ax"
        exact q
/-! ### Need.__eq__ -/
abbrev s_Need_m___eq__ : Stmt := inClass (topS 26) 8
theorem sc_Need_m___eq__ : FnScope ["self", "other"] ["self", "other"] (defScope s_Need_m___eq__) := ⟨rfl, rfl, rfl, by decide +kernel, rfl, by decide +kernel, by decide +kernel⟩
def fs_Need_m___eq__ (cNeed : Addr) : FSp := fun ds Q => ∃ (n1 n2 : Nd), ds = [.sh (ndP cNeed n1), .sh (ndP cNeed n2)] ∧ Q (.sh (.bl (eqN n1 n2))) ds
theorem ok_Need_m___eq__ {Pg : Program} {w : World} {K : PySem.W.Frag} {mg : Str → Option Value} {base : Heap} {a : Addr} {fd : FuncData} (F : L2.Fun K "__eq__" "Need.__eq__" s_Need_m___eq__ a fd)
    (m_isinstance : mg "isinstance" = none)
    {cNeed : Addr} (T : Txt K mg cNeed) :
    FnOk Pg w K mg base CX0 1 a fd ["self", "other"] (spD K (fs_Need_m___eq__ cNeed)) := by
  have n_Need_start : ClsA K cNeed "start" := ⟨T.cl_Need, T.n_Need_start⟩
  have n_Need_rises : ClsA K cNeed "rises" := ⟨T.cl_Need, T.n_Need_rises⟩
  have n_Need_never : ClsA K cNeed "never" := ⟨T.cl_Need, T.n_Need_never⟩
  have n_Need__values : ClsA K cNeed "_values" := ⟨T.cl_Need, T.n_Need__values⟩
  have is_Need := T.is_Need
  refine Fun.okD [] F sc_Need_m___eq__ (fun ds QD h => ?_) (fun cdv A outer s H E hr => ⟨_, _, (dss_one (ds_ret (de_and (de_cb (fun h => pe_callB call_isO (by rfl) m_isinstance (by decide +kernel) h) cs_isiO (da_cons (de_v 1 (pv 1)) (da_cons (de_glob (v := .ref cNeed) (p := .ob cNeed) (pe_glob (by rfl) T.mg_Need rfl) (fun _ => rfl)) da_nil))) (de_and (de_cmp (op_eqD hr.units) os_eqD (de_fld (de_v 0 (pv 0))) (de_fld (de_v 1 (pv 1))) (nomark _)) (de_and (de_cmp (op_eqD hr.units) os_eqD (de_fld (de_v 0 (pv 0))) (de_fld (de_v 1 (pv 1))) (nomark _)) (de_one (de_cmp (op_eqD hr.units) os_eqD (de_fld (de_v 0 (pv 0))) (de_fld (de_v 1 (pv 1))) (nomark _)))))))), fun ds QD h => ?_⟩)
  · first
      | (obtain ⟨rfl, _⟩ := h; exact ⟨rfl, rfl⟩)
      | (obtain ⟨_, rfl, _⟩ := h; exact ⟨rfl, rfl⟩)
      | (obtain ⟨_, _, rfl, _⟩ := h; exact ⟨rfl, rfl⟩)
      | (obtain ⟨_, _, _, rfl, _⟩ := h; exact ⟨rfl, rfl⟩)
      | (obtain ⟨_, _, _, _, rfl, _⟩ := h; exact ⟨rfl, rfl⟩)
      | (obtain ⟨_, _, _, _, _, rfl, _⟩ := h; exact ⟨rfl, rfl⟩)
      | (obtain ⟨_, _, _, _, _, _, rfl, _⟩ := h; exact ⟨rfl, rfl⟩)
      | (obtain ⟨_, _, _, _, _, _, _, rfl, _⟩ := h; exact ⟨rfl, rfl⟩)
      | (obtain ⟨_, _, _, _, _, _, _, _, rfl, _⟩ := h; exact ⟨rfl, rfl⟩)
      | (obtain ⟨_, _, _, _, _, _, _, _, _, rfl, _⟩ := h; exact ⟨rfl, rfl⟩)
      | (obtain ⟨_, _, _, _, _, _, _, _, _, _, rfl, _⟩ := h; exact ⟨rfl, rfl⟩)
      | (obtain ⟨_, _, _, _, _, _, _, _, _, _, _, rfl, _⟩ := h; exact ⟨rfl, rfl⟩)
  · obtain ⟨⟨s1, r1, v1⟩, ⟨s2, r2, v2⟩, rfl, q⟩ := h
    walk_at "au"
    refine ⟨(shp_oI s1).ok, (shp_oI s2).ok, ?_⟩
    simp only [eqv_oI]
    unfold eqN at q
    simp only at q
    generalize decide (s1 = s2) = b1 at *
    cases b1
    · walk_at "au"
      exact q
    walk_at "au"
    refine ⟨(shp_rs r1).ok, (shp_rs r2).ok, ?_⟩
    simp only [eqv_rs]
    generalize decide (r1 = r2) = b2 at *
    cases b2
    · walk_at "au"
      exact q
    walk_at "au"
    refine ⟨(shp_oI v1).ok, (shp_oI v2).ok, ?_⟩
    simp only [eqv_oI]
    generalize decide (v1 = v2) = b3 at *
    cases b3
    all_goals (
      walk_at "au"
      exact q)
/-! ### _law_cell -/
abbrev s__law_cell : Stmt := topS 28
theorem sc__law_cell : FnScope ["_law_script", "_law_k"] ["_law_script", "_law_k"] (defScope s__law_cell) := ⟨rfl, rfl, rfl, by decide +kernel, rfl, by decide +kernel, by decide +kernel⟩
def fs__law_cell (cNeed : Addr) : FSp := fun ds Q => ∃ (ns : List Int) (k : Nat), ds = [.sh (.rol (pI ns)), .sh (.int (k : Int))] ∧ Q (.sh (.int (ns.getD k 0))) ds
theorem ok__law_cell {Pg : Program} {w : World} {K : PySem.W.Frag} {mg : Str → Option Value} {base : Heap} {a : Addr} {fd : FuncData} (F : L2.Fun K "_law_cell" "_law_cell" s__law_cell a fd)
    (m_len : mg "len" = none)
    (m_int : mg "int" = none)
    {cNeed : Addr} (T : Txt K mg cNeed) :
    FnOk Pg w K mg base CX0 1 a fd ["_law_script", "_law_k"] (spD K (fs__law_cell cNeed)) := by
  have n_Need_start : ClsA K cNeed "start" := ⟨T.cl_Need, T.n_Need_start⟩
  have n_Need_rises : ClsA K cNeed "rises" := ⟨T.cl_Need, T.n_Need_rises⟩
  have n_Need_never : ClsA K cNeed "never" := ⟨T.cl_Need, T.n_Need_never⟩
  have n_Need__values : ClsA K cNeed "_values" := ⟨T.cl_Need, T.n_Need__values⟩
  have is_Need := T.is_Need
  refine Fun.okD [] F sc__law_cell (fun ds QD h => ?_) (fun cdv A outer s H E hr => ⟨_, _, (dss_cons (ds_if (dt_cmp op_lt os_lt (de_v 1 (pv 1)) (de_cb (fun h => pe_callB call_len (by rfl) m_len PySem.boot_len h) cs_len (da_cons (de_v 0 (pv 0)) da_nil)) (nomark _))
    (dss_one (ds_ret (de_cb (fun h => pe_callTy call_int1 (by rfl) m_int (by decide +kernel) h) cs_int (da_cons (de_ix ix_seq os_ix (de_v 0 (pv 0)) (de_v 1 (pv 1))) da_nil))))
    dss_nil)
    (dss_one (ds_ret de_int))), fun ds QD h => ?_⟩)
  · first
      | (obtain ⟨rfl, _⟩ := h; exact ⟨rfl, rfl⟩)
      | (obtain ⟨_, rfl, _⟩ := h; exact ⟨rfl, rfl⟩)
      | (obtain ⟨_, _, rfl, _⟩ := h; exact ⟨rfl, rfl⟩)
      | (obtain ⟨_, _, _, rfl, _⟩ := h; exact ⟨rfl, rfl⟩)
      | (obtain ⟨_, _, _, _, rfl, _⟩ := h; exact ⟨rfl, rfl⟩)
      | (obtain ⟨_, _, _, _, _, rfl, _⟩ := h; exact ⟨rfl, rfl⟩)
      | (obtain ⟨_, _, _, _, _, _, rfl, _⟩ := h; exact ⟨rfl, rfl⟩)
      | (obtain ⟨_, _, _, _, _, _, _, rfl, _⟩ := h; exact ⟨rfl, rfl⟩)
      | (obtain ⟨_, _, _, _, _, _, _, _, rfl, _⟩ := h; exact ⟨rfl, rfl⟩)
      | (obtain ⟨_, _, _, _, _, _, _, _, _, rfl, _⟩ := h; exact ⟨rfl, rfl⟩)
      | (obtain ⟨_, _, _, _, _, _, _, _, _, _, rfl, _⟩ := h; exact ⟨rfl, rfl⟩)
      | (obtain ⟨_, _, _, _, _, _, _, _, _, _, _, rfl, _⟩ := h; exact ⟨rfl, rfl⟩)
  · obtain ⟨ns, k, rfl, q⟩ := h
    conv => whnf
    refine ⟨fun e => ?_, fun e => ?_⟩
    · conv => whnf
      have hk : k < ns.length := by
        have := of_decide_eq_true e
        simp only [List.length_map] at this
        omega
      refine ⟨_, atI_map hk, ?_⟩
      refine ⟨rfl, ?_⟩
      rw [show ns.getD k 0 = ns[k] by rw [List.getD_eq_getElem?_getD, List.getElem?_eq_getElem hk]; rfl] at q
      exact q
    · have hk : ¬ k < ns.length := by
        have := of_decide_eq_false e
        simp only [List.length_map] at this
        omega
      rw [show ns.getD k 0 = 0 by rw [List.getD_eq_getElem?_getD, List.getElem?_eq_none (by omega)]; rfl] at q
      exact ⟨rfl, q⟩
/-! ### _law_draws -/
abbrev s__law_draws : Stmt := topS 29
theorem sc__law_draws : FnScope ["_law_cell_here", "_law_many", "_law_rest", "_law_large", "_law_seed", "_law_found", "_law_k"] ["_law_cell_here", "_law_many"] (defScope s__law_draws) := ⟨rfl, rfl, rfl, by decide +kernel, rfl, by decide +kernel, by decide +kernel⟩
/-- one draw: the seed, what is left of the cell, the draws -/
def dstep (large : Bool) (i : Nat) (s : Int × Int × List Int) : Int × Int × List Int :=
  let seed := (s.1 * 48271 + 40692 * (i : Int) + 69621) % 2147483647
  if large = true ∧ 0 < s.2.1 then (seed, s.2.1 / 1000000, s.2.2 ++ [s.2.1 % 1000000])
  else (seed, s.2.1, s.2.2 ++ [((seed * 16807 + 7919 * (i : Int)) % 2147483629 / 1009) % 1000000])
def dst (large : Bool) (seed rest : Int) : Nat → Int × Int × List Int
  | 0 => (seed, rest, [])
  | i + 1 => dstep large i (dst large seed rest i)
def absI (c : Int) : Int := if c < 0 then -c else c
def drawsF (c : Int) (many : Nat) : List Int := (dst (decide (10 ^ 18 ≤ absI c)) (absI c % 2147483647) (absI c) many).2.2
theorem absI_nn (c : Int) : 0 ≤ absI c := by unfold absI; split <;> omega
structure DOk (i : Nat) (s : Int × Int × List Int) : Prop where
  s0 : 0 ≤ s.1
  s1 : s.1 < 2147483648
  r0 : 0 ≤ s.2.1
  len : s.2.2.length = i
  rg : ∀ d ∈ s.2.2, 0 ≤ d ∧ d < 1000000
theorem dstep_ok {large : Bool} {i : Nat} {s : Int × Int × List Int} (h : DOk i s) : DOk (i + 1) (dstep large i s) := by
  unfold dstep
  have e0 : 0 ≤ (s.1 * 48271 + 40692 * (i : Int) + 69621) % 2147483647 := Int.emod_nonneg _ (by decide)
  have e1 : (s.1 * 48271 + 40692 * (i : Int) + 69621) % 2147483647 < 2147483647 := Int.emod_lt_of_pos _ (by decide)
  dsimp only
  split
  · refine ⟨e0, by omega, Int.ediv_nonneg h.r0 (by decide), by rw [List.length_append, h.len]; rfl, fun d hd => ?_⟩
    rcases List.mem_append.mp hd with hd | hd
    · exact h.rg d hd
    · rw [List.mem_singleton.mp hd]
      exact ⟨Int.emod_nonneg _ (by decide), Int.emod_lt_of_pos _ (by decide)⟩
  · refine ⟨e0, by omega, h.r0, by rw [List.length_append, h.len]; rfl, fun d hd => ?_⟩
    rcases List.mem_append.mp hd with hd | hd
    · exact h.rg d hd
    · rw [List.mem_singleton.mp hd]
      exact ⟨Int.emod_nonneg _ (by decide), Int.emod_lt_of_pos _ (by decide)⟩
theorem dst_ok {large : Bool} {seed rest : Int} (h0 : 0 ≤ seed) (h1 : seed < 2147483648) (h2 : 0 ≤ rest) : ∀ i, DOk i (dst large seed rest i)
  | 0 => ⟨h0, h1, h2, rfl, fun d hd => absurd hd List.not_mem_nil⟩
  | i + 1 => dstep_ok (dst_ok h0 h1 h2 i)
theorem draws_ok (c : Int) (many : Nat) : DOk many (dst (decide (10 ^ 18 ≤ absI c)) (absI c % 2147483647) (absI c) many) :=
  dst_ok (Int.emod_nonneg _ (by decide)) (by have := Int.emod_lt_of_pos (absI c) (show (0 : Int) < 2147483647 by decide); omega) (absI_nn c) many
theorem drawsF_len (c : Int) (many : Nat) : (drawsF c many).length = many := (draws_ok c many).len
theorem drawsF_rg (c : Int) (many : Nat) : ∀ d ∈ drawsF c many, 0 ≤ d ∧ d < 1000000 := (draws_ok c many).rg
def fs__law_draws (cNeed : Addr) : FSp := fun ds Q => ∃ (c : Int) (many : Nat), ds = [.sh (.int c), .sh (.int (many : Int))] ∧ many ≤ 100000 ∧ Q (.ol (pI (drawsF c many))) ds
theorem ok__law_draws {Pg : Program} {w : World} {K : PySem.W.Frag} {mg : Str → Option Value} {base : Heap} {a : Addr} {fd : FuncData} (F : L2.Fun K "_law_draws" "_law_draws" s__law_draws a fd)
    (m_abs : mg "abs" = none)
    (m_int : mg "int" = none)
    (m_range : mg "range" = none)
    {cNeed : Addr} (T : Txt K mg cNeed) :
    FnOk Pg w K mg base CX0 1 a fd ["_law_cell_here", "_law_many"] (spD K (fs__law_draws cNeed)) := by
  have n_Need_start : ClsA K cNeed "start" := ⟨T.cl_Need, T.n_Need_start⟩
  have n_Need_rises : ClsA K cNeed "rises" := ⟨T.cl_Need, T.n_Need_rises⟩
  have n_Need_never : ClsA K cNeed "never" := ⟨T.cl_Need, T.n_Need_never⟩
  have n_Need__values : ClsA K cNeed "_values" := ⟨T.cl_Need, T.n_Need__values⟩
  have is_Need := T.is_Need
  refine Fun.okD [] F sc__law_draws (fun ds QD h => ?_) (fun cdv A outer s H E hr => ⟨_, _, (dss_cons (ds_asg (de_cb (fun h => pe_callB call_abs (by rfl) m_abs (by decide +kernel) h) cs_abs (da_cons (de_cb (fun h => pe_callTy call_int1 (by rfl) m_int (by decide +kernel) h) cs_int (da_cons (de_v 0 (pv 0)) da_nil)) da_nil)) (dg_name (pg_name (i := 2) sc__law_draws.nd rfl (by first | exact .inl rfl | exact .inr rfl))))
    (dss_cons (ds_asg (de_cmp op_ge os_ge (de_v 2 (pv 2)) (de_op op_pow os_pow de_int de_int) (nomark _)) (dg_name (pg_name (i := 3) sc__law_draws.nd rfl (by first | exact .inl rfl | exact .inr rfl))))
    (dss_cons (ds_asg (de_op op_mod os_mod (de_cb (fun h => pe_callTy call_int1 (by rfl) m_int (by decide +kernel) h) cs_int (da_cons (de_v 2 (pv 2)) da_nil)) de_int) (dg_name (pg_name (i := 4) sc__law_draws.nd rfl (by first | exact .inl rfl | exact .inr rfl))))
    (dss_cons (ds_put (do_lst da_nil) (pg_name (i := 5) sc__law_draws.nd rfl (by first | exact .inl rfl | exact .inr rfl)))
    (dss_cons (ds_for PassesOwn.never rfl (di_rng1 (fun h => pi_range1 (by rfl) m_range h) (da_cons (de_v 1 (pv 1)) da_nil)) (dg_name (pg_name (i := 6) sc__law_draws.nd rfl (by first | exact .inl rfl | exact .inr rfl)))
    (dss_cons (ds_asg (de_op op_mod os_mod (de_cb (fun h => pe_callTy call_int1 (by rfl) m_int (by decide +kernel) h) cs_int (da_cons (de_op op_add os_add (de_op op_add os_add (de_op op_mulW os_mul (de_v 4 (pv 4)) de_int) (de_op op_mulW os_mul de_int (de_v 6 (pv 6)))) de_int) da_nil)) de_int) (dg_name (pg_name (i := 4) sc__law_draws.nd rfl (by first | exact .inl rfl | exact .inr rfl))))
    (dss_one (ds_if (DW.pt (dw_and (dt_tru (de_v 3 (pv 3))) (dw_and1 (dt_cmp op_gt os_gt (de_v 2 (pv 2)) de_int (nomark _)))))
    (dss_cons (ds_app (fun h => pe_bm PySem.F.plainAttrs_list PySem.F.slot_list_append PySem.F.type_list_append mt_append (pv 5) h) (de_op op_mod os_mod (de_cb (fun h => pe_callTy call_int1 (by rfl) m_int (by decide +kernel) h) cs_int (da_cons (de_v 2 (pv 2)) da_nil)) de_int))
    (dss_one (ds_asg (de_op op_fdivW os_div (de_v 2 (pv 2)) de_int) (dg_name (pg_name (i := 2) sc__law_draws.nd rfl (by first | exact .inl rfl | exact .inr rfl))))))
    (dss_one (ds_app (fun h => pe_bm PySem.F.plainAttrs_list PySem.F.slot_list_append PySem.F.type_list_append mt_append (pv 5) h) (de_op op_mod os_mod (de_cb (fun h => pe_callTy call_int1 (by rfl) m_int (by decide +kernel) h) cs_int (da_cons (de_op op_fdivW os_div (de_op op_mod os_mod (de_cb (fun h => pe_callTy call_int1 (by rfl) m_int (by decide +kernel) h) cs_int (da_cons (de_op op_add os_add (de_op op_mulW os_mul (de_v 4 (pv 4)) de_int) (de_op op_mulW os_mul de_int (de_v 6 (pv 6)))) da_nil)) de_int) de_int) da_nil)) de_int)))))))
    (dss_one (ds_retV 5 (pv 5)))))))), fun ds QD h => ?_⟩)
  · first
      | (obtain ⟨rfl, _⟩ := h; exact ⟨rfl, rfl⟩)
      | (obtain ⟨_, rfl, _⟩ := h; exact ⟨rfl, rfl⟩)
      | (obtain ⟨_, _, rfl, _⟩ := h; exact ⟨rfl, rfl⟩)
      | (obtain ⟨_, _, _, rfl, _⟩ := h; exact ⟨rfl, rfl⟩)
      | (obtain ⟨_, _, _, _, rfl, _⟩ := h; exact ⟨rfl, rfl⟩)
      | (obtain ⟨_, _, _, _, _, rfl, _⟩ := h; exact ⟨rfl, rfl⟩)
      | (obtain ⟨_, _, _, _, _, _, rfl, _⟩ := h; exact ⟨rfl, rfl⟩)
      | (obtain ⟨_, _, _, _, _, _, _, rfl, _⟩ := h; exact ⟨rfl, rfl⟩)
      | (obtain ⟨_, _, _, _, _, _, _, _, rfl, _⟩ := h; exact ⟨rfl, rfl⟩)
      | (obtain ⟨_, _, _, _, _, _, _, _, _, rfl, _⟩ := h; exact ⟨rfl, rfl⟩)
      | (obtain ⟨_, _, _, _, _, _, _, _, _, _, rfl, _⟩ := h; exact ⟨rfl, rfl⟩)
      | (obtain ⟨_, _, _, _, _, _, _, _, _, _, _, rfl, _⟩ := h; exact ⟨rfl, rfl⟩)
  · obtain ⟨c, many, rfl, hm, q⟩ := h
    have hz : sizeLine = 16777216 := sizeLine_eq
    conv => whnf
    refine And.intro rfl ?_
    conv => whnf
    refine And.intro ⟨by decide, by decide, by decide⟩ ?_
    walk_at "go"
    refine ⟨fun i env => ∃ kv, env = [some (.sh (.int c)), some (.sh (.int many)), some (.sh (.int (dst (decide (10 ^ 18 ≤ absI c)) (absI c % 2147483647) (absI c) i).2.1)), some (.sh (.bl (decide (10 ^ 18 ≤ absI c)))),
      some (.sh (.int (dst (decide (10 ^ 18 ≤ absI c)) (absI c % 2147483647) (absI c) i).1)), some (.ol (pI (dst (decide (10 ^ 18 ≤ absI c)) (absI c % 2147483647) (absI c) i).2.2)), kv], ⟨none, rfl⟩, fun i p e hp hI => ?_, fun e hI => ?_⟩
    · obtain ⟨kv, rfl⟩ := hI
      obtain ⟨hi, rfl⟩ := rngP_get hp
      have hi' : i < many := by simpa using hi
      have d0 := draws_ok c i
      revert d0
      generalize hd : dst (decide (10 ^ 18 ≤ absI c)) (absI c % 2147483647) (absI c) i = st
      intro d0
      have s0 := d0.s0
      have s1 := d0.s1
      have r0 := d0.r0
      have ln := d0.len
      walk_at "go"
      refine ⟨fun hl => ?_, fun hl => ?_⟩
      · walk_at "go"
        refine ⟨fun hg => ?_, fun hg => ?_⟩
        · have hg' : 0 < st.2.1 := of_decide_eq_true hg
          walk_at "go"
          refine ⟨some (.sh (.int (0 + (i : Int)))), ?_⟩
          have e1 : dst (decide (10 ^ 18 ≤ absI c)) (absI c % 2147483647) (absI c) (i + 1) = dstep (decide (10 ^ 18 ≤ absI c)) i st := by rw [← hd]; rfl
          rw [e1, show dstep (decide (10 ^ 18 ≤ absI c)) i st = _ from if_pos ⟨hl, hg'⟩]
          simp only [pI, List.map_append, List.map_cons, List.map_nil, Int.zero_add]
          rfl
        · have hg' : ¬ 0 < st.2.1 := of_decide_eq_false hg
          walk_at "go"
          refine ⟨some (.sh (.int (0 + (i : Int)))), ?_⟩
          have e1 : dst (decide (10 ^ 18 ≤ absI c)) (absI c % 2147483647) (absI c) (i + 1) = dstep (decide (10 ^ 18 ≤ absI c)) i st := by rw [← hd]; rfl
          rw [e1, show dstep (decide (10 ^ 18 ≤ absI c)) i st = _ from if_neg fun h => hg' h.2]
          simp only [pI, List.map_append, List.map_cons, List.map_nil, Int.zero_add]
          rfl
      · refine ⟨fun hg => Bool.noConfusion hg, fun _ => ?_⟩
        walk_at "go"
        refine ⟨some (.sh (.int (0 + (i : Int)))), ?_⟩
        have e1 : dst (decide (10 ^ 18 ≤ absI c)) (absI c % 2147483647) (absI c) (i + 1) = dstep (decide (10 ^ 18 ≤ absI c)) i st := by rw [← hd]; rfl
        rw [e1, show dstep (decide (10 ^ 18 ≤ absI c)) i st = _ from if_neg fun h => by rw [hl] at h; exact Bool.noConfusion h.1]
        simp only [pI, List.map_append, List.map_cons, List.map_nil, Int.zero_add]
        rfl
    · obtain ⟨kv, rfl⟩ := hI
      rw [rngP_len]
      exact ⟨rfl, q⟩
/-! ### _law_take -/
abbrev s__law_take : Stmt := topS 30
theorem sc__law_take : FnScope ["_law_draws_here", "_law_place"] ["_law_draws_here", "_law_place"] (defScope s__law_take) := ⟨rfl, rfl, rfl, by decide +kernel, rfl, by decide +kernel, by decide +kernel⟩
def fs__law_take (cNeed : Addr) : FSp := fun ds Q => ∃ (rs : List Int) (k : Nat), ds = [.sh (.lst (pI rs)), .ol [.int (k : Int)]] ∧ Q (.sh (.int (rs.getD k 0))) [.sh (.lst (pI rs)), .ol [.int ((k + 1 : Nat) : Int)]]
theorem ok__law_take {Pg : Program} {w : World} {K : PySem.W.Frag} {mg : Str → Option Value} {base : Heap} {a : Addr} {fd : FuncData} (F : L2.Fun K "_law_take" "_law_take" s__law_take a fd)
    (m_len : mg "len" = none)
    {cNeed : Addr} (T : Txt K mg cNeed) :
    FnOk Pg w K mg base CX0 1 a fd ["_law_draws_here", "_law_place"] (spD K (fs__law_take cNeed)) := by
  have n_Need_start : ClsA K cNeed "start" := ⟨T.cl_Need, T.n_Need_start⟩
  have n_Need_rises : ClsA K cNeed "rises" := ⟨T.cl_Need, T.n_Need_rises⟩
  have n_Need_never : ClsA K cNeed "never" := ⟨T.cl_Need, T.n_Need_never⟩
  have n_Need__values : ClsA K cNeed "_values" := ⟨T.cl_Need, T.n_Need__values⟩
  have is_Need := T.is_Need
  refine Fun.okD [1] F sc__law_take (fun ds QD h => ?_) (fun cdv A outer s H E hr => ⟨_, _, (dss_cons (ds_setI (fun h => pg_sub (pv 1) h set_list) de_int (de_op op_add os_add (de_itm 1 (fun h => pe_ix ix_list (pv 1) h (fun _ _ => rfl)) de_int) de_int))
    (dss_cons (ds_if (dt_cmp op_gt os_gt (de_itm 1 (fun h => pe_ix ix_list (pv 1) h (fun _ _ => rfl)) de_int) (de_cb (fun h => pe_callB call_len (by rfl) m_len PySem.boot_len h) cs_len (da_cons (de_v 0 (pv 0)) da_nil)) (nomark _))
    (dss_one (ds_ret de_int))
    dss_nil)
    (dss_one (ds_ret (de_ix ix_seq os_ix (de_v 0 (pv 0)) (de_op op_sub os_sub (de_itm 1 (fun h => pe_ix ix_list (pv 1) h (fun _ _ => rfl)) de_int) de_int)))))), fun ds QD h => ?_⟩)
  · first
      | (obtain ⟨rfl, _⟩ := h; exact ⟨rfl, rfl⟩)
      | (obtain ⟨_, rfl, _⟩ := h; exact ⟨rfl, rfl⟩)
      | (obtain ⟨_, _, rfl, _⟩ := h; exact ⟨rfl, rfl⟩)
      | (obtain ⟨_, _, _, rfl, _⟩ := h; exact ⟨rfl, rfl⟩)
      | (obtain ⟨_, _, _, _, rfl, _⟩ := h; exact ⟨rfl, rfl⟩)
      | (obtain ⟨_, _, _, _, _, rfl, _⟩ := h; exact ⟨rfl, rfl⟩)
      | (obtain ⟨_, _, _, _, _, _, rfl, _⟩ := h; exact ⟨rfl, rfl⟩)
      | (obtain ⟨_, _, _, _, _, _, _, rfl, _⟩ := h; exact ⟨rfl, rfl⟩)
      | (obtain ⟨_, _, _, _, _, _, _, _, rfl, _⟩ := h; exact ⟨rfl, rfl⟩)
      | (obtain ⟨_, _, _, _, _, _, _, _, _, rfl, _⟩ := h; exact ⟨rfl, rfl⟩)
      | (obtain ⟨_, _, _, _, _, _, _, _, _, _, rfl, _⟩ := h; exact ⟨rfl, rfl⟩)
      | (obtain ⟨_, _, _, _, _, _, _, _, _, _, _, rfl, _⟩ := h; exact ⟨rfl, rfl⟩)
  · obtain ⟨rs, k, rfl, q⟩ := h
    walk_at "go"
    refine ⟨_, rfl, ?_⟩
    walk_at "go"
    refine ⟨0, rfl, ?_⟩
    walk_at "go"
    refine ⟨_, rfl, ?_⟩
    walk_at "go"
    have e1 : (k : Int) + 1 = ((k + 1 : Nat) : Int) := by omega
    refine ⟨fun hg => ?_, fun hg => ?_⟩
    · have hk : ¬ k < rs.length := by
        have := of_decide_eq_true hg
        simp only [pI, List.length_map] at this
        omega
      rw [show rs.getD k 0 = 0 by rw [List.getD_eq_getElem?_getD, List.getElem?_eq_none (by omega)]; rfl, ← e1] at q
      exact ⟨rfl, q⟩
    · have hk : k < rs.length := by
        have := of_decide_eq_false hg
        simp only [pI, List.length_map] at this
        omega
      walk_at "go"
      refine ⟨_, rfl, ?_⟩
      walk_at "go"
      rw [show rs.getD k 0 = rs[k] by rw [List.getD_eq_getElem?_getD, List.getElem?_eq_getElem hk]; rfl, ← e1] at q
      refine ⟨.int rs[k], ?_, ?_⟩
      · show atI (pI rs) ((k : Int) + 1 - 1) = _
        rw [show (k : Int) + 1 - 1 = (k : Int) by omega]
        exact atI_map hk
      · exact ⟨rfl, q⟩
/-! ### value_at -/
abbrev s_value_at : Stmt := topS 12
theorem sc_value_at : FnScope ["start", "rises", "values", "k", "at", "low", "high"] ["start", "rises", "values", "k"] (defScope s_value_at) := ⟨rfl, rfl, rfl, by decide +kernel, rfl, by decide +kernel, by decide +kernel⟩
def fs_value_at (cNeed : Addr) : FSp := fun ds Q => ∃ (s : Int) (rs : List Pr) (k : Int), ds = [.sh (.int s), .sh (.tup (pRs rs)), .sh (.tup (pI (lowsF s rs))), .sh (.int k)] ∧ Asc (-1) rs ∧ rs.length ≤ 1000 ∧ Q (.sh (.int (val s rs k))) ds
theorem ok_value_at {Pg : Program} {w : World} {K : PySem.W.Frag} {mg : Str → Option Value} {base : Heap} {a : Addr} {fd : FuncData} (F : L2.Fun K "value_at" "value_at" s_value_at a fd)
    (m_min : mg "min" = none)
    {cNeed : Addr} (T : Txt K mg cNeed)
    {a_pair_at : Addr} {d_pair_at : FuncData} (C_pair_at : Callee Pg w K mg base 1 "pair_at" a_pair_at d_pair_at ["rises", "k"] (fs_pair_at cNeed)) :
    FnOk Pg w K mg base CX0 2 a fd ["start", "rises", "values", "k"] (spD K (fs_value_at cNeed)) := by
  have n_Need_start : ClsA K cNeed "start" := ⟨T.cl_Need, T.n_Need_start⟩
  have n_Need_rises : ClsA K cNeed "rises" := ⟨T.cl_Need, T.n_Need_rises⟩
  have n_Need_never : ClsA K cNeed "never" := ⟨T.cl_Need, T.n_Need_never⟩
  have n_Need__values : ClsA K cNeed "_values" := ⟨T.cl_Need, T.n_Need__values⟩
  have is_Need := T.is_Need
  refine Fun.okD [] F sc_value_at (fun ds QD h => ?_) (fun cdv A outer s H E hr => ⟨_, _, (dss_cons (ds_asg (de_o (do_callP (fun h => pe_call C_pair_at.ok hr (by rfl) C_pair_at.g C_pair_at.kp C_pair_at.b .nil pass0 h) (da_cons (de_v 1 (pv 1)) (da_cons (de_v 3 (pv 3)) da_nil)))) (dg_name (pg_name (i := 4) sc_value_at.nd rfl (by first | exact .inl rfl | exact .inr rfl))))
    (dss_cons (ds_if (dt_cmp op_lt os_lt (de_v 4 (pv 4)) de_int (nomark _))
    (dss_one (ds_ret (de_v 0 (pv 0))))
    dss_nil)
    (dss_cons (ds_asg (de_ix ix_seq os_ix (de_v 1 (pv 1)) (de_v 4 (pv 4))) (dg_seq (fun h => pg_tup rfl h) (fun h => pg_unl rfl h) (dgs_cons (dg_name (pg_name (i := 5) sc_value_at.nd rfl (by first | exact .inl rfl | exact .inr rfl))) (dgs_cons (dg_name (pg_name (i := 6) sc_value_at.nd rfl (by first | exact .inl rfl | exact .inr rfl))) dgs_nil))))
    (dss_one (ds_ret (de_op op_sub os_sub (de_op op_add os_add (de_ix ix_seq os_ix (de_v 2 (pv 2)) (de_v 4 (pv 4))) (de_ifExp (dt_cmp op_isN os_isN (de_v 6 (pv 6)) de_non (nomark _)) (de_v 3 (pv 3)) (de_cb (fun h => pe_callB (call_min2 rfl) (by rfl) m_min (by decide +kernel) h) cs_min2 (da_cons (de_v 3 (pv 3)) (da_cons (de_v 6 (pv 6)) da_nil))))) (de_v 5 (pv 5)))))))), fun ds QD h => ?_⟩)
  · first
      | (obtain ⟨rfl, _⟩ := h; exact ⟨rfl, rfl⟩)
      | (obtain ⟨_, rfl, _⟩ := h; exact ⟨rfl, rfl⟩)
      | (obtain ⟨_, _, rfl, _⟩ := h; exact ⟨rfl, rfl⟩)
      | (obtain ⟨_, _, _, rfl, _⟩ := h; exact ⟨rfl, rfl⟩)
      | (obtain ⟨_, _, _, _, rfl, _⟩ := h; exact ⟨rfl, rfl⟩)
      | (obtain ⟨_, _, _, _, _, rfl, _⟩ := h; exact ⟨rfl, rfl⟩)
      | (obtain ⟨_, _, _, _, _, _, rfl, _⟩ := h; exact ⟨rfl, rfl⟩)
      | (obtain ⟨_, _, _, _, _, _, _, rfl, _⟩ := h; exact ⟨rfl, rfl⟩)
      | (obtain ⟨_, _, _, _, _, _, _, _, rfl, _⟩ := h; exact ⟨rfl, rfl⟩)
      | (obtain ⟨_, _, _, _, _, _, _, _, _, rfl, _⟩ := h; exact ⟨rfl, rfl⟩)
      | (obtain ⟨_, _, _, _, _, _, _, _, _, _, rfl, _⟩ := h; exact ⟨rfl, rfl⟩)
      | (obtain ⟨_, _, _, _, _, _, _, _, _, _, _, rfl, _⟩ := h; exact ⟨rfl, rfl⟩)
  · obtain ⟨s, rs, k, rfl, ha, hl, q⟩ := h
    walk_at "au"
    refine ⟨true, rs, k, rfl, ha, hl, fun n hn h1 h2 => ?_⟩
    walk_at "au"
    · have h0 : n = 0 := by omega
      subst h0
      have e : val s rs k = s := by
        unfold val
        rw [NM.vsum_lt fun j p hp => h2 j p hp (Nat.zero_le _)]
        omega
      rw [e] at q
      exact q
    · obtain ⟨m, rfl⟩ : ∃ m, n = m + 1 := ⟨n - 1, by omega⟩
      obtain ⟨⟨lo, hi⟩, hp⟩ : ∃ p, rs[m]? = some p := ⟨_, List.getElem?_eq_getElem (by omega)⟩
      have em : ((m + 1 : Nat) : Int) - 1 = (m : Int) := by omega
      obtain ⟨w, hw, ev⟩ := NM.val_at (v := s) ha hp (h1 m _ hp (by omega)) fun q' hq => h2 _ q' hq (by omega)
      rw [em]
      refine ⟨_, atI_map' hp, ?_⟩
      walk_at "au"
      refine ⟨_, atI_map' hw, ?_⟩
      cases hi with
      | none =>
        walk_at "au"
        rw [← show w + k - lo = val s rs k from ev] at q
        exact q
      | some g =>
        walk_at "au"
        rw [← show w + (if g < k then g else k) - lo = val s rs k from ev] at q
        exact q
/-! ### composed -/
abbrev s_composed : Stmt := topS 15
theorem sc_composed : FnScope ["outer", "start", "inner", "found", "value", "at", "low", "high", "stop", "here", "end"] ["outer", "start", "inner"] (defScope s_composed) := ⟨rfl, rfl, rfl, by decide +kernel, rfl, by decide +kernel, by decide +kernel⟩
def fs_composed (cNeed : Addr) : FSp := fun ds Q => ∃ (outer inner : List Pr) (o : Option Int), ds = [.sh (.tup (pRs outer)), .sh (oI o), .sh (.tup (pRs inner))] ∧ (Asc (-1) outer ∧ Asc (-1) inner ∧ outer.length ≤ 500 ∧ inner.length ≤ 500 ∧ (o = none → inner = [])) ∧ Q (.sh (.tup (pRs (NM.compF outer (o.getD 0) inner)))) ds
theorem ok_composed {Pg : Program} {w : World} {K : PySem.W.Frag} {mg : Str → Option Value} {base : Heap} {a : Addr} {fd : FuncData} (F : L2.Fun K "composed" "composed" s_composed a fd)
    (m_len : mg "len" = none)
    (m_max : mg "max" = none)
    (m_tuple : mg "tuple" = none)
    {cNeed : Addr} (T : Txt K mg cNeed)
    {a_sooner : Addr} {d_sooner : FuncData} (C_sooner : Callee Pg w K mg base 1 "sooner" a_sooner d_sooner ["one", "other"] (fs_sooner cNeed)) :
    FnOk Pg w K mg base CX0 2 a fd ["outer", "start", "inner"] (spD K (fs_composed cNeed)) := by
  have n_Need_start : ClsA K cNeed "start" := ⟨T.cl_Need, T.n_Need_start⟩
  have n_Need_rises : ClsA K cNeed "rises" := ⟨T.cl_Need, T.n_Need_rises⟩
  have n_Need_never : ClsA K cNeed "never" := ⟨T.cl_Need, T.n_Need_never⟩
  have n_Need__values : ClsA K cNeed "_values" := ⟨T.cl_Need, T.n_Need__values⟩
  have is_Need := T.is_Need
  refine Fun.okD [] F sc_composed (fun ds QD h => ?_) (fun cdv A outer s H E hr => ⟨_, _, (dss_cons (ds_put (do_lst da_nil) (pg_name (i := 3) sc_composed.nd rfl (by first | exact .inl rfl | exact .inr rfl)))
    (dss_cons (ds_asg (de_v 1 (pv 1)) (dg_name (pg_name (i := 4) sc_composed.nd rfl (by first | exact .inl rfl | exact .inr rfl))))
    (dss_cons (ds_asg de_int (dg_name (pg_name (i := 5) sc_composed.nd rfl (by first | exact .inl rfl | exact .inr rfl))))
    (dss_cons (ds_for PassesOwn.never rfl (di_seq (de_v 2 (pv 2))) (dg_seq (fun h => pg_tup rfl h) (fun h => pg_unl rfl h) (dgs_cons (dg_name (pg_name (i := 6) sc_composed.nd rfl (by first | exact .inl rfl | exact .inr rfl))) (dgs_cons (dg_name (pg_name (i := 7) sc_composed.nd rfl (by first | exact .inl rfl | exact .inr rfl))) dgs_nil)))
    (dss_cons (ds_asg (de_ifExp (dt_cmp op_isN os_isN (de_v 7 (pv 7)) de_non (nomark _)) de_non (de_op op_sub os_sub (de_op op_add os_add (de_v 4 (pv 4)) (de_v 7 (pv 7))) (de_v 6 (pv 6)))) (dg_name (pg_name (i := 8) sc_composed.nd rfl (by first | exact .inl rfl | exact .inr rfl))))
    (dss_mid (ds_while PassesOwn.never (DW.pt (dw_and (dt_cmp op_lt os_lt (de_v 5 (pv 5)) (de_cb (fun h => pe_callB call_len (by rfl) m_len PySem.boot_len h) cs_len (da_cons (de_v 0 (pv 0)) da_nil)) (nomark _)) (dw_and (dt_cmp op_notN os_notN (de_ix ix_seq os_ix (de_ix ix_seq os_ix (de_v 0 (pv 0)) (de_v 5 (pv 5))) de_int) de_non (nomark _)) (dw_and1 (dt_cmp op_le os_le (de_ix ix_seq os_ix (de_ix ix_seq os_ix (de_v 0 (pv 0)) (de_v 5 (pv 5))) de_int) (de_v 4 (pv 4)) (nomark _))))))
    (dss_one (ds_aug (i := 5) (by decide) (fun h => ps_aug (i := 5) sc_composed.nd rfl (by first | exact .inl rfl | exact .inr rfl) h ip_add) de_int)))
    (dss_cons (ds_asg (de_v 5 (pv 5)) (dg_name (pg_name (i := 9) sc_composed.nd rfl (by first | exact .inl rfl | exact .inr rfl))))
    (dss_mid (ds_while PassesOwn.never (DW.pt (dw_and (dt_cmp op_lt os_lt (de_v 9 (pv 9)) (de_cb (fun h => pe_callB call_len (by rfl) m_len PySem.boot_len h) cs_len (da_cons (de_v 0 (pv 0)) da_nil)) (nomark _)) (dw_and1 (DW.pt (dw_or (dt_cmp op_isN os_isN (de_v 8 (pv 8)) de_non (nomark _)) (dw_or1 (dt_cmp op_lt os_lt (de_ix ix_seq os_ix (de_ix ix_seq os_ix (de_v 0 (pv 0)) (de_v 9 (pv 9))) de_int) (de_v 8 (pv 8)) (nomark _))))))))
    (dss_cons (ds_asg (de_o (do_callP (fun h => pe_call C_sooner.ok hr (by rfl) C_sooner.g C_sooner.kp C_sooner.b .nil pass0 h) (da_cons (de_ix ix_seq os_ix (de_ix ix_seq os_ix (de_v 0 (pv 0)) (de_v 9 (pv 9))) de_int) (da_cons (de_v 8 (pv 8)) da_nil)))) (dg_name (pg_name (i := 10) sc_composed.nd rfl (by first | exact .inl rfl | exact .inr rfl))))
    (dss_cons (ds_app (fun h => pe_bm PySem.F.plainAttrs_list PySem.F.slot_list_append PySem.F.type_list_append mt_append (pv 3) h) (de_tup (da_cons (de_op op_sub os_sub (de_op op_add os_add (de_v 6 (pv 6)) (de_cb (fun h => pe_callB (call_max2 rfl) (by rfl) m_max (by decide +kernel) h) cs_max2 (da_cons (de_ix ix_seq os_ix (de_ix ix_seq os_ix (de_v 0 (pv 0)) (de_v 9 (pv 9))) de_int) (da_cons (de_v 4 (pv 4)) da_nil)))) (de_v 4 (pv 4))) (da_cons (de_ifExp (dt_cmp op_isN os_isN (de_v 10 (pv 10)) de_non (nomark _)) de_non (de_op op_sub os_sub (de_op op_add os_add (de_v 6 (pv 6)) (de_v 10 (pv 10))) (de_v 4 (pv 4)))) da_nil))))
    (dss_one (ds_aug (i := 9) (by decide) (fun h => ps_aug (i := 9) sc_composed.nd rfl (by first | exact .inl rfl | exact .inr rfl) h ip_add) de_int)))))
    (dss_one (ds_asg (de_v 8 (pv 8)) (dg_name (pg_name (i := 4) sc_composed.nd rfl (by first | exact .inl rfl | exact .inr rfl))))))))))
    (dss_one (ds_ret (de_cb (fun h => pe_callTy call_tuple_of (by rfl) m_tuple (by decide +kernel) h) cs_tuple (da_cons (de_vF 3 (pv 3)) da_nil)))))))), fun ds QD h => ?_⟩)
  · first
      | (obtain ⟨rfl, _⟩ := h; exact ⟨rfl, rfl⟩)
      | (obtain ⟨_, rfl, _⟩ := h; exact ⟨rfl, rfl⟩)
      | (obtain ⟨_, _, rfl, _⟩ := h; exact ⟨rfl, rfl⟩)
      | (obtain ⟨_, _, _, rfl, _⟩ := h; exact ⟨rfl, rfl⟩)
      | (obtain ⟨_, _, _, _, rfl, _⟩ := h; exact ⟨rfl, rfl⟩)
      | (obtain ⟨_, _, _, _, _, rfl, _⟩ := h; exact ⟨rfl, rfl⟩)
      | (obtain ⟨_, _, _, _, _, _, rfl, _⟩ := h; exact ⟨rfl, rfl⟩)
      | (obtain ⟨_, _, _, _, _, _, _, rfl, _⟩ := h; exact ⟨rfl, rfl⟩)
      | (obtain ⟨_, _, _, _, _, _, _, _, rfl, _⟩ := h; exact ⟨rfl, rfl⟩)
      | (obtain ⟨_, _, _, _, _, _, _, _, _, rfl, _⟩ := h; exact ⟨rfl, rfl⟩)
      | (obtain ⟨_, _, _, _, _, _, _, _, _, _, rfl, _⟩ := h; exact ⟨rfl, rfl⟩)
      | (obtain ⟨_, _, _, _, _, _, _, _, _, _, _, rfl, _⟩ := h; exact ⟨rfl, rfl⟩)
  · obtain ⟨outer, inner, o, rfl, ⟨ao, ai, lo_, li, hno⟩, q⟩ := h
    have eol : (pRs outer).length = outer.length := List.length_map _
    have eil : (pRs inner).length = inner.length := List.length_map _
    have hcl := NM.compF_len2 (v := o.getD 0) ao ai
    walk_at "ax"
    refine ⟨fun i env => ∃ (done : List Pr) (w : Option Int) (n : Nat) (u6 u7 u8 u9 u10 : Option D), env = [some (.sh (.tup (pRs outer))), some (.sh (oI o)), some (.sh (.tup (pRs inner))), some (.ol (pRs done)), some (.sh (oI w)), some (.sh (.int (n : Int))), u6, u7, u8, u9, u10] ∧ n ≤ outer.length ∧ ((inner.drop i = [] ∧ NM.compF outer (o.getD 0) inner = done) ∨ ∃ b v, w = some v ∧ Asc b (inner.drop i) ∧ NM.compF outer (o.getD 0) inner = done ++ NM.compF outer v (inner.drop i) ∧ ∀ (j : Nat) p, j < n → outer[j]? = some p → ∃ h, p.2 = some h ∧ h ≤ v), ⟨[], o, 0, none, none, none, none, none, rfl, Nat.zero_le _, ?_⟩, fun i p e hp' hI => ?_, fun e hI => ?_⟩
    · cases o with
      | none =>
        cases hno rfl
        exact .inl ⟨rfl, rfl⟩
      | some s => exact .inr ⟨-1, s, rfl, ai, rfl, fun j p h => absurd h (Nat.not_lt_zero _)⟩
    · obtain ⟨done, w, n, u6, u7, u8, u9, u10, rfl, hn, hJ⟩ := hI
      obtain ⟨⟨lo, hi⟩, hpi, rfl⟩ := map_get hp'
      have hil : i < inner.length := lt_of_get hpi
      rw [NM.drop_cons hpi] at hJ
      obtain ⟨b, v, rfl, hA, hc, hb⟩ := hJ.resolve_left (fun h => by simp at h)
      have hdl : done.length ≤ 1000 := by
        have := congrArg List.length hc
        rw [List.length_append] at this
        omega
      cases hi with
      | none =>
        walk_at "ax"
        refine ⟨fun env => ∃ (k : Nat), env = [some (.sh (.tup (pRs outer))), some (.sh (oI o)), some (.sh (.tup (pRs inner))), some (.ol (pRs done)), some (.sh (.int v)), some (.sh (.int (k : Int))), some (.sh (.int lo)), some (.sh (oI none)), some (.sh .non), u9, u10] ∧ k ≤ outer.length ∧ (∀ (j : Nat) p, j < k → outer[j]? = some p → ∃ h, p.2 = some h ∧ h ≤ v) ∧ (∀ p, outer[k]? = some p → NM.alive v p = true), ?_, ?_⟩
        · refine ⟨fun m e => ∃ (k : Nat), e = [some (.sh (.tup (pRs outer))), some (.sh (oI o)), some (.sh (.tup (pRs inner))), some (.ol (pRs done)), some (.sh (.int v)), some (.sh (.int (k : Int))), some (.sh (.int lo)), some (.sh (oI none)), some (.sh .non), u9, u10] ∧ k ≤ outer.length ∧ (∀ (j : Nat) p, j < k → outer[j]? = some p → ∃ h, p.2 = some h ∧ h ≤ v) ∧ m = outer.length - k, ⟨_, n, rfl, hn, hb, rfl⟩, fun m e hI => ?_⟩
          obtain ⟨k, rfl, hk, hkb, rfl⟩ := hI
          by_cases hlt : k < outer.length
          · obtain ⟨⟨lo', hi'⟩, hrn⟩ : ∃ p, outer[k]? = some p := ⟨_, List.getElem?_eq_getElem hlt⟩
            cases hi' with
            | none =>
              walk_at "ax"
              refine ⟨_, atI_map' hrn, ?_⟩
              walk_at "ax"
              exact ⟨k, rfl, hk, hkb, fun p h => by rw [hrn] at h; cases h; rfl⟩
            | some y =>
              walk_at "ax"
              refine ⟨_, atI_map' hrn, ?_⟩
              walk_at "ax"
              refine ⟨_, atI_map' hrn, ?_⟩
              walk_at "ax"
              · refine ⟨outer.length - (k + 1), by omega, k + 1, rfl, by omega, fun j p h1 h2 => ?_, rfl⟩
                rcases Nat.lt_or_ge j k with h3 | h3
                · exact hkb j p h3 h2
                · have e : j = k := by omega
                  subst e
                  rw [hrn] at h2
                  cases h2
                  exact ⟨y, rfl, by assumption⟩
              · exact ⟨k, rfl, hk, hkb, fun p h => by rw [hrn] at h; cases h; show decide (v < y) = true; simp; omega⟩
          · walk_at "ax"
            exact ⟨k, rfl, hk, hkb, fun p h => by rw [List.getElem?_eq_none (by omega)] at h; cases h⟩
        rintro _ ⟨k, rfl, hk, hkb, hka⟩
        walk_at "ax"
        refine ⟨fun env => ∃ (u9 u10 : Option D), env = [some (.sh (.tup (pRs outer))), some (.sh (oI o)), some (.sh (.tup (pRs inner))), some (.ol (pRs (done ++ NM.piece outer v (lo - v) none))), some (.sh (.int v)), some (.sh (.int (k : Int))), some (.sh (.int lo)), some (.sh (oI none)), some (.sh .non), u9, u10], ?_, ?_⟩
        · refine ⟨fun m e => ∃ (h : Nat) (u10 : Option D), e = [some (.sh (.tup (pRs outer))), some (.sh (oI o)), some (.sh (.tup (pRs inner))), some (.ol (pRs (done ++ ((outer.drop k).take (h - k)).map (NM.clip v (lo - v) none)))), some (.sh (.int v)), some (.sh (.int (k : Int))), some (.sh (.int lo)), some (.sh (oI none)), some (.sh .non), some (.sh (.int (h : Int))), u10] ∧ CW outer v lo none k h ∧ m = outer.length - h, ⟨_, k, u10, by rw [Nat.sub_self, show ((outer.drop k).take 0).map (NM.clip v (lo - v) none) = [] from rfl, List.append_nil]; rfl, ⟨hk, Nat.le_refl _, fun j p h1 h2 => by omega⟩, rfl⟩, fun m e hI => ?_⟩
          obtain ⟨h, u10, rfl, hW, rfl⟩ := hI
          have hh := hW.le
          have hne := hW.ne
          have efl : (pRs (done ++ ((outer.drop k).take (h - k)).map (NM.clip v (lo - v) none))).length ≤ 1500 := by rw [List.length_map, List.length_append, List.length_map, List.length_take, List.length_drop]; omega
          by_cases hlt : h < outer.length
          · obtain ⟨⟨lo', hi'⟩, hrn⟩ : ∃ p, outer[h]? = some p := ⟨_, List.getElem?_eq_getElem hlt⟩
            have hal : NM.alive v (lo', hi') = true := by
              have hkl : k < outer.length := by omega
              exact NM.alive_from ao (List.getElem?_eq_getElem hkl) (hka _ (List.getElem?_eq_getElem hkl)) hrn hne
            have nxt : NM.ov v none (lo', hi') = true → CW outer v lo none k (h + 1) := fun ho => ⟨hlt, by omega, fun j p h1 h2 h3 => by
              rcases Nat.lt_or_ge j h with h4 | h4
              · exact hW.all j p h1 h4 h3
              · have e : j = h := by omega
                subst e
                rw [hrn] at h3
                cases h3
                exact ho⟩
            have eap : pRs (done ++ ((outer.drop k).take (h + 1 - k)).map (NM.clip v (lo - v) none)) = pRs (done ++ ((outer.drop k).take (h - k)).map (NM.clip v (lo - v) none)) ++ [prP (NM.clip v (lo - v) none (lo', hi'))] := by rw [take_ext hrn hne]; simp [pRs]
            walk_at "ax"
            refine ⟨_, atI_map' hrn, ?_⟩
            walk_at "ax"
            refine ⟨hi', none, rfl, ?_⟩
            cases hi' with
            | none =>
              walk_at "ax"
              have ecl : prP (NM.clip v (lo - v) none (lo', none)) = P.tup [.int (lo + (if v > lo' then v else lo') - v), .non] := by
                show P.tup [.int (lo - v + NM.mxI lo' v), _] = _
                rw [show lo - v + NM.mxI lo' v = lo + (if v > lo' then v else lo') - v by unfold NM.mxI; (repeat' split) <;> omega]
                rfl
              rw [ecl] at eap
              refine ⟨_, atI_map' hrn, ?_⟩
              walk_at "ax"
              exact ⟨outer.length - (h + 1), by omega, h + 1, _, by rw [eap]; rfl, nxt rfl, rfl⟩
            | some y =>
              walk_at "ax"
              have ecl : prP (NM.clip v (lo - v) none (lo', some y)) = P.tup [.int (lo + (if v > lo' then v else lo') - v), .int (lo + y - v)] := by
                show P.tup [.int (lo - v + NM.mxI lo' v), _] = _
                rw [show lo - v + NM.mxI lo' v = lo + (if v > lo' then v else lo') - v by unfold NM.mxI; (repeat' split) <;> omega]
                show P.tup [_, P.int (lo - v + y)] = _
                rw [show lo - v + y = lo + y - v by omega]
              rw [ecl] at eap
              refine ⟨_, atI_map' hrn, ?_⟩
              walk_at "ax"
              exact ⟨outer.length - (h + 1), by omega, h + 1, _, by rw [eap]; rfl, nxt (by rw [NM.ov_none]; exact hal), rfl⟩
          · have hfo := hW.found hkb (drop_end (by omega))
            walk_at "ax"
            exact ⟨_, _, by rw [hfo]⟩
        rintro _ ⟨u9, u10, rfl⟩
        walk_at "ax"
        obtain ⟨hA1, hA2⟩ := hA
        refine ⟨done ++ NM.piece outer v (lo - v) none, none, k, _, _, _, _, _, rfl, hk, .inl ⟨hA2, ?_⟩⟩
        rw [hc]
        rfl
      | some x =>
        walk_at "ax"
        refine ⟨fun env => ∃ (k : Nat), env = [some (.sh (.tup (pRs outer))), some (.sh (oI o)), some (.sh (.tup (pRs inner))), some (.ol (pRs done)), some (.sh (.int v)), some (.sh (.int (k : Int))), some (.sh (.int lo)), some (.sh (oI (some x))), some (.sh (.int (v + x - lo))), u9, u10] ∧ k ≤ outer.length ∧ (∀ (j : Nat) p, j < k → outer[j]? = some p → ∃ h, p.2 = some h ∧ h ≤ v) ∧ (∀ p, outer[k]? = some p → NM.alive v p = true), ?_, ?_⟩
        · refine ⟨fun m e => ∃ (k : Nat), e = [some (.sh (.tup (pRs outer))), some (.sh (oI o)), some (.sh (.tup (pRs inner))), some (.ol (pRs done)), some (.sh (.int v)), some (.sh (.int (k : Int))), some (.sh (.int lo)), some (.sh (oI (some x))), some (.sh (.int (v + x - lo))), u9, u10] ∧ k ≤ outer.length ∧ (∀ (j : Nat) p, j < k → outer[j]? = some p → ∃ h, p.2 = some h ∧ h ≤ v) ∧ m = outer.length - k, ⟨_, n, rfl, hn, hb, rfl⟩, fun m e hI => ?_⟩
          obtain ⟨k, rfl, hk, hkb, rfl⟩ := hI
          by_cases hlt : k < outer.length
          · obtain ⟨⟨lo', hi'⟩, hrn⟩ : ∃ p, outer[k]? = some p := ⟨_, List.getElem?_eq_getElem hlt⟩
            cases hi' with
            | none =>
              walk_at "ax"
              refine ⟨_, atI_map' hrn, ?_⟩
              walk_at "ax"
              exact ⟨k, rfl, hk, hkb, fun p h => by rw [hrn] at h; cases h; rfl⟩
            | some y =>
              walk_at "ax"
              refine ⟨_, atI_map' hrn, ?_⟩
              walk_at "ax"
              refine ⟨_, atI_map' hrn, ?_⟩
              walk_at "ax"
              · refine ⟨outer.length - (k + 1), by omega, k + 1, rfl, by omega, fun j p h1 h2 => ?_, rfl⟩
                rcases Nat.lt_or_ge j k with h3 | h3
                · exact hkb j p h3 h2
                · have e : j = k := by omega
                  subst e
                  rw [hrn] at h2
                  cases h2
                  exact ⟨y, rfl, by assumption⟩
              · exact ⟨k, rfl, hk, hkb, fun p h => by rw [hrn] at h; cases h; show decide (v < y) = true; simp; omega⟩
          · walk_at "ax"
            exact ⟨k, rfl, hk, hkb, fun p h => by rw [List.getElem?_eq_none (by omega)] at h; cases h⟩
        rintro _ ⟨k, rfl, hk, hkb, hka⟩
        walk_at "ax"
        refine ⟨fun env => ∃ (u9 u10 : Option D), env = [some (.sh (.tup (pRs outer))), some (.sh (oI o)), some (.sh (.tup (pRs inner))), some (.ol (pRs (done ++ NM.piece outer v (lo - v) (some (v + x - lo))))), some (.sh (.int v)), some (.sh (.int (k : Int))), some (.sh (.int lo)), some (.sh (oI (some x))), some (.sh (.int (v + x - lo))), u9, u10], ?_, ?_⟩
        · refine ⟨fun m e => ∃ (h : Nat) (u10 : Option D), e = [some (.sh (.tup (pRs outer))), some (.sh (oI o)), some (.sh (.tup (pRs inner))), some (.ol (pRs (done ++ ((outer.drop k).take (h - k)).map (NM.clip v (lo - v) (some (v + x - lo)))))), some (.sh (.int v)), some (.sh (.int (k : Int))), some (.sh (.int lo)), some (.sh (oI (some x))), some (.sh (.int (v + x - lo))), some (.sh (.int (h : Int))), u10] ∧ CW outer v lo (some (v + x - lo)) k h ∧ m = outer.length - h, ⟨_, k, u10, by rw [Nat.sub_self, show ((outer.drop k).take 0).map (NM.clip v (lo - v) (some (v + x - lo))) = [] from rfl, List.append_nil]; rfl, ⟨hk, Nat.le_refl _, fun j p h1 h2 => by omega⟩, rfl⟩, fun m e hI => ?_⟩
          obtain ⟨h, u10, rfl, hW, rfl⟩ := hI
          have hh := hW.le
          have hne := hW.ne
          have efl : (pRs (done ++ ((outer.drop k).take (h - k)).map (NM.clip v (lo - v) (some (v + x - lo))))).length ≤ 1500 := by rw [List.length_map, List.length_append, List.length_map, List.length_take, List.length_drop]; omega
          by_cases hlt : h < outer.length
          · obtain ⟨⟨lo', hi'⟩, hrn⟩ : ∃ p, outer[h]? = some p := ⟨_, List.getElem?_eq_getElem hlt⟩
            have hal : NM.alive v (lo', hi') = true := by
              have hkl : k < outer.length := by omega
              exact NM.alive_from ao (List.getElem?_eq_getElem hkl) (hka _ (List.getElem?_eq_getElem hkl)) hrn hne
            have nxt : NM.ov v (some (v + x - lo)) (lo', hi') = true → CW outer v lo (some (v + x - lo)) k (h + 1) := fun ho => ⟨hlt, by omega, fun j p h1 h2 h3 => by
              rcases Nat.lt_or_ge j h with h4 | h4
              · exact hW.all j p h1 h4 h3
              · have e : j = h := by omega
                subst e
                rw [hrn] at h3
                cases h3
                exact ho⟩
            have eap : pRs (done ++ ((outer.drop k).take (h + 1 - k)).map (NM.clip v (lo - v) (some (v + x - lo)))) = pRs (done ++ ((outer.drop k).take (h - k)).map (NM.clip v (lo - v) (some (v + x - lo)))) ++ [prP (NM.clip v (lo - v) (some (v + x - lo)) (lo', hi'))] := by rw [take_ext hrn hne]; simp [pRs]
            walk_at "ax"
            refine ⟨_, atI_map' hrn, ?_⟩
            walk_at "ax"
            · have hls : lo' < v + x - lo := by assumption
              have hov : NM.ov v (some (v + x - lo)) (lo', hi') = true := by
                cases hi' with
                | none => show decide (lo' < v + x - lo) = true; simpa using hls
                | some y =>
                  have : v < y := by simpa [NM.alive] using hal
                  show (decide (v < y) && decide (lo' < v + x - lo)) = true
                  simp
                  omega
              refine ⟨_, atI_map' hrn, ?_⟩
              walk_at "ax"
              refine ⟨hi', (some (v + x - lo)), rfl, ?_⟩
              cases hi' with
              | none =>
                walk_at "ax"
                have ecl : prP (NM.clip v (lo - v) (some (v + x - lo)) (lo', none)) = P.tup [.int (lo + (if v > lo' then v else lo') - v), .int (lo + (v + x - lo) - v)] := by
                  show P.tup [.int (lo - v + NM.mxI lo' v), _] = _
                  rw [show lo - v + NM.mxI lo' v = lo + (if v > lo' then v else lo') - v by unfold NM.mxI; (repeat' split) <;> omega]
                  show P.tup [_, P.int (lo - v + (v + x - lo))] = _
                  rw [show lo - v + (v + x - lo) = lo + (v + x - lo) - v by omega]
                rw [ecl] at eap
                refine ⟨_, atI_map' hrn, ?_⟩
                walk_at "ax"
                exact ⟨outer.length - (h + 1), by omega, h + 1, _, by rw [eap]; rfl, nxt hov, rfl⟩
              | some y =>
                walk_at "ax"
                have ecl : prP (NM.clip v (lo - v) (some (v + x - lo)) (lo', some y)) = P.tup [.int (lo + (if v > lo' then v else lo') - v), .int (lo + (if v + x - lo < y then v + x - lo else y) - v)] := by
                  show P.tup [.int (lo - v + NM.mxI lo' v), _] = _
                  rw [show lo - v + NM.mxI lo' v = lo + (if v > lo' then v else lo') - v by unfold NM.mxI; (repeat' split) <;> omega]
                  show P.tup [_, P.int (lo - v + NM.mnI y (v + x - lo))] = _
                  rw [show lo - v + NM.mnI y (v + x - lo) = lo + (if v + x - lo < y then v + x - lo else y) - v by unfold NM.mnI; (repeat' split) <;> omega]
                rw [ecl] at eap
                refine ⟨_, atI_map' hrn, ?_⟩
                walk_at "ax"
                exact ⟨outer.length - (h + 1), by omega, h + 1, _, by rw [eap]; rfl, nxt hov, rfl⟩
            · have hls : v + x - lo ≤ lo' := by omega
              have hfo := hW.found hkb (drop_far ao hrn hls)
              exact ⟨_, _, by rw [hfo]⟩
          · have hfo := hW.found hkb (drop_end (by omega))
            walk_at "ax"
            exact ⟨_, _, by rw [hfo]⟩
        rintro _ ⟨u9, u10, rfl⟩
        walk_at "ax"
        obtain ⟨hA1, hA2, hA3⟩ := hA
        refine ⟨done ++ NM.piece outer v (lo - v) (some (v + x - lo)), some (v + x - lo), k, _, _, _, _, _, rfl, hk, .inr ⟨x, v + x - lo, rfl, hA3, ?_, fun j p h1 h2 => ?_⟩⟩
        · rw [hc, List.append_assoc]
          rfl
        · obtain ⟨g, e, hg⟩ := hkb j p h1 h2
          exact ⟨g, e, by omega⟩
    · obtain ⟨done, w, n, u6, u7, u8, u9, u10, rfl, hn, hJ⟩ := hI
      rw [eil, List.drop_length] at hJ
      have hd : NM.compF outer (o.getD 0) inner = done := by
        rcases hJ with ⟨_, h⟩ | ⟨b, v, _, _, h, _⟩
        · exact h
        · rw [h]; show done ++ [] = done; rw [List.append_nil]
      rw [hd] at q
      walk_at "ax"
      exact q
/-! ### side_by_side -/
abbrev s_side_by_side : Stmt := topS 18
theorem sc_side_by_side : FnScope ["one_start", "one", "other_start", "other", "ends", "pair", "end", "cuts", "slopes", "other_slopes", "values", "other_values"] ["one_start", "one", "other_start", "other"] (defScope s_side_by_side) := ⟨rfl, rfl, rfl, by decide +kernel, rfl, by decide +kernel, by decide +kernel⟩
def fs_side_by_side (cNeed : Addr) : FSp := fun ds Q => ∃ (s1 s2 : Int) (r1 r2 : List Pr), ds = [.sh (.int s1), .sh (.tup (pRs r1)), .sh (.int s2), .sh (.tup (pRs r2))] ∧ (Asc (-1) r1 ∧ Asc (-1) r2 ∧ r1.length ≤ 500 ∧ r2.length ≤ 500 ∧ Near r1 ∧ Near r2) ∧ ∀ cs, Cuts cs r1 r2 → Q (.ol (rowsP s1 r1 s2 r2 cs)) ds
theorem ok_side_by_side {Pg : Program} {w : World} {K : PySem.W.Frag} {mg : Str → Option Value} {base : Heap} {a : Addr} {fd : FuncData} (F : L2.Fun K "side_by_side" "side_by_side" s_side_by_side a fd)
    (m_sorted : mg "sorted" = none)
    (m_set : mg "set" = none)
    (m_list : mg "list" = none)
    (m_zip : mg "zip" = none)
    {cNeed : Addr} (T : Txt K mg cNeed)
    {a_slopes_behind : Addr} {d_slopes_behind : FuncData} (C_slopes_behind : Callee Pg w K mg base 1 "slopes_behind" a_slopes_behind d_slopes_behind ["rises", "cuts"] (fs_slopes_behind cNeed))
    {a_values_at_cuts : Addr} {d_values_at_cuts : FuncData} (C_values_at_cuts : Callee Pg w K mg base 1 "values_at_cuts" a_values_at_cuts d_values_at_cuts ["start", "slopes", "cuts"] (fs_values_at_cuts cNeed)) :
    FnOk Pg w K mg base CX0 2 a fd ["one_start", "one", "other_start", "other"] (spD K (fs_side_by_side cNeed)) := by
  have n_Need_start : ClsA K cNeed "start" := ⟨T.cl_Need, T.n_Need_start⟩
  have n_Need_rises : ClsA K cNeed "rises" := ⟨T.cl_Need, T.n_Need_rises⟩
  have n_Need_never : ClsA K cNeed "never" := ⟨T.cl_Need, T.n_Need_never⟩
  have n_Need__values : ClsA K cNeed "_values" := ⟨T.cl_Need, T.n_Need__values⟩
  have is_Need := T.is_Need
  refine Fun.okD [] F sc_side_by_side (fun ds QD h => ?_) (fun cdv A outer s H E hr => ⟨_, _, (dss_cons (ds_setLc2P (own := [("pair", 5), ("end", 6)]) (vs1 := [6]) (n := 12) (i := 4) rfl sc_side_by_side.nd rfl rfl (sw_true rfl rfl rfl (by decide +kernel)) (by decide) (di_seq (de_o (do_lst (da_star (de_v 1 (pv 1)) (da_star (de_v 3 (pv 3)) da_nil))))) (blkOk_by (N := ["one_start", "one", "other_start", "other", "ends", "pair", "end", "cuts", "slopes", "other_slopes", "values", "other_values"]) (sc := defScope s_side_by_side) (own := [("pair", 5), ("end", 6)]) (by decide +kernel)) (by decide) (fun _ _ _ _ _ => (dg_name (pg_name (i := 5) sc_side_by_side.nd rfl (by first | exact .inl rfl | exact .inr rfl)))) (fun _ _ _ _ _ => dts_nil) (fun _ _ _ _ _ => (di_seq (de_v 5 (pv 5)))) (fun _ _ _ _ _ => (dg_name (pg_name (i := 6) sc_side_by_side.nd rfl (by first | exact .inl rfl | exact .inr rfl)))) (fun _ _ _ _ _ => dts_one (dt_cmp op_notN os_notN (de_v 6 (pv 6)) de_non (nomark _))) (fun _ _ _ _ _ => (de_v 6 (pv 6))))
    (dss_cons (ds_asg (de_o (do_cb (fun h => SM.pe_sortset rfl (by rfl) m_sorted (by rfl) m_set h) cs_sortset (da_cons (de_o (do_lst (da_cons de_int (da_star (de_vF 4 (pv 4)) da_nil)))) da_nil))) (dg_name (pg_name (i := 7) sc_side_by_side.nd rfl (by first | exact .inl rfl | exact .inr rfl))))
    (dss_cons (ds_asg (de_o (do_callP (fun h => pe_call C_slopes_behind.ok hr (by rfl) C_slopes_behind.g C_slopes_behind.kp C_slopes_behind.b .nil pass0 h) (da_cons (de_v 1 (pv 1)) (da_cons (de_v 7 (pv 7)) da_nil)))) (dg_name (pg_name (i := 8) sc_side_by_side.nd rfl (by first | exact .inl rfl | exact .inr rfl))))
    (dss_cons (ds_asg (de_o (do_callP (fun h => pe_call C_slopes_behind.ok hr (by rfl) C_slopes_behind.g C_slopes_behind.kp C_slopes_behind.b .nil pass0 h) (da_cons (de_v 3 (pv 3)) (da_cons (de_v 7 (pv 7)) da_nil)))) (dg_name (pg_name (i := 9) sc_side_by_side.nd rfl (by first | exact .inl rfl | exact .inr rfl))))
    (dss_cons (ds_asg (de_o (do_callP (fun h => pe_call C_values_at_cuts.ok hr (by rfl) C_values_at_cuts.g C_values_at_cuts.kp C_values_at_cuts.b .nil pass0 h) (da_cons (de_v 0 (pv 0)) (da_cons (de_v 8 (pv 8)) (da_cons (de_v 7 (pv 7)) da_nil))))) (dg_name (pg_name (i := 10) sc_side_by_side.nd rfl (by first | exact .inl rfl | exact .inr rfl))))
    (dss_cons (ds_asg (de_o (do_callP (fun h => pe_call C_values_at_cuts.ok hr (by rfl) C_values_at_cuts.g C_values_at_cuts.kp C_values_at_cuts.b .nil pass0 h) (da_cons (de_v 2 (pv 2)) (da_cons (de_v 9 (pv 9)) (da_cons (de_v 7 (pv 7)) da_nil))))) (dg_name (pg_name (i := 11) sc_side_by_side.nd rfl (by first | exact .inl rfl | exact .inr rfl))))
    (dss_one (ds_retO (do_listzip rfl (by rfl) m_list (by rfl) m_zip (da_cons (de_v 7 (pv 7)) (da_cons (de_o (do_lst (da_star (de_slS (de_v 7 (pv 7)) (dpo_some de_int) dpo_none) (da_cons de_non da_nil)))) (da_cons (de_v 10 (pv 10)) (da_cons (de_v 8 (pv 8)) (da_cons (de_v 11 (pv 11)) (da_cons (de_v 9 (pv 9)) da_nil))))))))))))))), fun ds QD h => ?_⟩)
  · first
      | (obtain ⟨rfl, _⟩ := h; exact ⟨rfl, rfl⟩)
      | (obtain ⟨_, rfl, _⟩ := h; exact ⟨rfl, rfl⟩)
      | (obtain ⟨_, _, rfl, _⟩ := h; exact ⟨rfl, rfl⟩)
      | (obtain ⟨_, _, _, rfl, _⟩ := h; exact ⟨rfl, rfl⟩)
      | (obtain ⟨_, _, _, _, rfl, _⟩ := h; exact ⟨rfl, rfl⟩)
      | (obtain ⟨_, _, _, _, _, rfl, _⟩ := h; exact ⟨rfl, rfl⟩)
      | (obtain ⟨_, _, _, _, _, _, rfl, _⟩ := h; exact ⟨rfl, rfl⟩)
      | (obtain ⟨_, _, _, _, _, _, _, rfl, _⟩ := h; exact ⟨rfl, rfl⟩)
      | (obtain ⟨_, _, _, _, _, _, _, _, rfl, _⟩ := h; exact ⟨rfl, rfl⟩)
      | (obtain ⟨_, _, _, _, _, _, _, _, _, rfl, _⟩ := h; exact ⟨rfl, rfl⟩)
      | (obtain ⟨_, _, _, _, _, _, _, _, _, _, rfl, _⟩ := h; exact ⟨rfl, rfl⟩)
      | (obtain ⟨_, _, _, _, _, _, _, _, _, _, _, rfl, _⟩ := h; exact ⟨rfl, rfl⟩)
  · obtain ⟨s1, s2, r1, r2, rfl, ⟨a1, a2, l1, l2, n1, n2⟩, q⟩ := h
    walk_at "ax"
    rw [show (List.map Sum.inl (pRs r1) ++ (List.map Sum.inl (pRs r2) ++ []) : List AR) = (pRs (r1 ++ r2)).map Sum.inl by simp, prs_inl]
    have hrl : (r1 ++ r2).length ≤ 1000 := by rw [List.length_append]; omega
    have erl : (pRs (r1 ++ r2)).length = (r1 ++ r2).length := List.length_map _
    walk_at "ax"
    refine ⟨fun i acc => acc = pI (endsOf ((r1 ++ r2).take i)), rfl, fun i p acc hp' hJ => ?_, fun acc hJ => ?_⟩
    · subst hJ
      obtain ⟨⟨lo, hi⟩, hpi, rfl⟩ := map_get hp'
      have hil : i < (r1 ++ r2).length := lt_of_get hpi
      walk_at "ax"
      refine ⟨fun j acc => acc = pI (endsOf ((r1 ++ r2).take i) ++ partO lo hi j), by show _ = pI (_ ++ []); rw [List.append_nil], fun j p1 acc1 hj hI1 => ?_, fun acc1 hI1 => ?_⟩
      · subst hI1
        have eal := pI_len (endsOf ((r1 ++ r2).take i) ++ partO lo hi j)
        have eal2 : (endsOf ((r1 ++ r2).take i) ++ partO lo hi j).length ≤ 2002 := by
          have h1 := endsOf_len ((r1 ++ r2).take i)
          rw [List.length_take] at h1
          rw [List.length_append]
          have h2 := partO_len lo hi j
          omega
        rcases j with _ | _ | j
        · cases hj
          walk_at "ax"
          show pI (endsOf ((r1 ++ r2).take i) ++ []) ++ [P.int lo] = pI (endsOf ((r1 ++ r2).take i) ++ [lo])
          rw [List.append_nil, pI_snoc]
        · cases hj
          cases hi with
          | none =>
            walk_at "ax"
            rfl
          | some x =>
            walk_at "ax"
            show pI (endsOf ((r1 ++ r2).take i) ++ [lo]) ++ [P.int x] = pI (endsOf ((r1 ++ r2).take i) ++ [lo, x])
            rw [← pI_snoc, List.append_assoc]
            rfl
        · cases hj
      · rw [hI1]
        show _ = pI (endsOf ((r1 ++ r2).take (i + 1)))
        rw [endsOf_take hpi]
        rfl
    subst hJ
    rw [erl, List.take_length]
    have eel := pI_len (endsOf (r1 ++ r2))
    have eln := endsOf_len (r1 ++ r2)
    walk_at "ax"
    rw [show (Sum.inl (P.int 0) :: (List.map Sum.inl (pI (endsOf (r1 ++ r2))) ++ []) : List AR) = (pI (0 :: endsOf (r1 ++ r2))).map Sum.inl by simp [pI], prs_inl]
    have eel2 : (pI (0 :: endsOf (r1 ++ r2))).length ≤ 2001 := by rw [pI_len, List.length_cons]; omega
    walk_at "ax"
    refine ⟨0 :: endsOf (r1 ++ r2), rfl, by rw [List.length_cons]; omega, fun cs hs hm => ?_⟩
    have hC := cuts_of a1 a2 l1 l2 n1 n2 hs hm
    have hcl := hC.len
    have ecl := pI_len cs
    walk_at "ax"
    refine ⟨true, r1, cs, rfl, ⟨a1, by omega, hs, by omega⟩, ?_⟩
    walk_at "ax"
    refine ⟨true, r2, cs, rfl, ⟨a2, by omega, hs, by omega⟩, ?_⟩
    walk_at "ax"
    refine ⟨s1, r1, cs, rfl, ⟨a1, hC.e1, hs, hC.z, by omega, hC.nn⟩, ?_⟩
    walk_at "ax"
    refine ⟨s2, r2, cs, rfl, ⟨a2, hC.e2, hs, hC.z, by omega, hC.nn⟩, ?_⟩
    walk_at "ax"
    have hl0 : 0 < cs.length := lt_of_get hC.z
    rw [show (List.map Sum.inl (cutP (List.map P.int cs) (some 1) none) ++ [Sum.inl P.non] : List AR) = (cutP (pI cs) (some 1) none ++ [P.non]).map Sum.inl by simp [pI], prs_inl, cut1 _ (by rw [ecl]; omega)]
    have enl : ((pI cs).drop 1 ++ [P.non]).length = cs.length := by rw [List.length_append, List.length_drop, ecl]; show cs.length - 1 + 1 = _; omega
    walk_at "ax"
    refine ⟨[pI cs, (pI cs).drop 1 ++ [P.non], pI (cs.map (val s1 r1)), pI (cs.map (slp r1)), pI (cs.map (val s2 r2)), pI (cs.map (slp r2))], cs.length, rfl, rfl, hl0, by omega, fun xs hx => ?_, ?_⟩
    · simp only [List.mem_cons, List.not_mem_nil, or_false] at hx
      rcases hx with rfl | rfl | rfl | rfl | rfl | rfl
      · exact ecl
      · exact enl
      all_goals rw [pI_len, List.length_map]
    rw [rows_eq]
    walk_at "ax"
    exact q cs hC
/-! ### rises_of_smaller -/
abbrev s_rises_of_smaller : Stmt := topS 20
theorem sc_rises_of_smaller : FnScope ["pieces", "spans", "low", "high", "one", "slope", "other", "other_slope", "lead"] ["pieces"] (defScope s_rises_of_smaller) := ⟨rfl, rfl, rfl, by decide +kernel, rfl, by decide +kernel, by decide +kernel⟩
def fs_rises_of_smaller (cNeed : Addr) : FSp := fun ds Q => ∃ (s1 s2 : Int) (r1 r2 : List Pr) (cs : List Int), ds = [.sh (.lst (rowsP s1 r1 s2 r2 cs))] ∧ (Asc (-1) r1 ∧ Asc (-1) r2 ∧ Cuts cs r1 r2) ∧ ∀ rs, (Asc (-1) rs ∧ (∀ k, 0 ≤ k → NM.mnI (val s1 r1 k) (val s2 r2 k) = NM.mnI s1 s2 + vsum rs k) ∧ rs.length ≤ cs.length) → Q (.sh (.tup (pRs rs))) ds
theorem ok_rises_of_smaller {Pg : Program} {w : World} {K : PySem.W.Frag} {mg : Str → Option Value} {base : Heap} {a : Addr} {fd : FuncData} (F : L2.Fun K "rises_of_smaller" "rises_of_smaller" s_rises_of_smaller a fd)
    {cNeed : Addr} (T : Txt K mg cNeed)
    {a_sooner : Addr} {d_sooner : FuncData} (C_sooner : Callee Pg w K mg base 1 "sooner" a_sooner d_sooner ["one", "other"] (fs_sooner cNeed))
    {a_joined : Addr} {d_joined : FuncData} (C_joined : Callee Pg w K mg base 1 "joined" a_joined d_joined ["spans"] (fs_joined cNeed)) :
    FnOk Pg w K mg base CX0 2 a fd ["pieces"] (spD K (fs_rises_of_smaller cNeed)) := by
  have n_Need_start : ClsA K cNeed "start" := ⟨T.cl_Need, T.n_Need_start⟩
  have n_Need_rises : ClsA K cNeed "rises" := ⟨T.cl_Need, T.n_Need_rises⟩
  have n_Need_never : ClsA K cNeed "never" := ⟨T.cl_Need, T.n_Need_never⟩
  have n_Need__values : ClsA K cNeed "_values" := ⟨T.cl_Need, T.n_Need__values⟩
  have is_Need := T.is_Need
  refine Fun.okD [] F sc_rises_of_smaller (fun ds QD h => ?_) (fun cdv A outer s H E hr => ⟨_, _, (dss_cons (ds_put (do_lst da_nil) (pg_name (i := 1) sc_rises_of_smaller.nd rfl (by first | exact .inl rfl | exact .inr rfl)))
    (dss_cons (ds_for PassesOwn.never rfl (di_seq (de_v 0 (pv 0))) (dg_seq (fun h => pg_tup rfl h) (fun h => pg_unl rfl h) (dgs_cons (dg_name (pg_name (i := 2) sc_rises_of_smaller.nd rfl (by first | exact .inl rfl | exact .inr rfl))) (dgs_cons (dg_name (pg_name (i := 3) sc_rises_of_smaller.nd rfl (by first | exact .inl rfl | exact .inr rfl))) (dgs_cons (dg_name (pg_name (i := 4) sc_rises_of_smaller.nd rfl (by first | exact .inl rfl | exact .inr rfl))) (dgs_cons (dg_name (pg_name (i := 5) sc_rises_of_smaller.nd rfl (by first | exact .inl rfl | exact .inr rfl))) (dgs_cons (dg_name (pg_name (i := 6) sc_rises_of_smaller.nd rfl (by first | exact .inl rfl | exact .inr rfl))) (dgs_cons (dg_name (pg_name (i := 7) sc_rises_of_smaller.nd rfl (by first | exact .inl rfl | exact .inr rfl))) dgs_nil)))))))
    (dss_cons (ds_asg (de_ifExp (dt_tru (de_v 5 (pv 5))) (de_op op_sub os_sub (de_v 6 (pv 6)) (de_v 4 (pv 4))) (de_op op_sub os_sub (de_v 4 (pv 4)) (de_v 6 (pv 6)))) (dg_name (pg_name (i := 8) sc_rises_of_smaller.nd rfl (by first | exact .inl rfl | exact .inr rfl))))
    (dss_one (ds_if (DW.pt (dw_and (dt_tru (de_v 5 (pv 5))) (dw_and1 (dt_tru (de_v 7 (pv 7))))))
    (dss_one (ds_app (fun h => pe_bm PySem.F.plainAttrs_list PySem.F.slot_list_append PySem.F.type_list_append mt_append (pv 1) h) (de_tup (da_cons (de_v 2 (pv 2)) (da_cons (de_v 3 (pv 3)) da_nil)))))
    (dss_one (ds_if (DW.pt (dw_and (dt_cmp op_ne os_ne (de_v 5 (pv 5)) (de_v 7 (pv 7)) (nomark _)) (dw_and1 (dt_cmp op_gt os_gt (de_v 8 (pv 8)) de_int (nomark _)))))
    (dss_one (ds_app (fun h => pe_bm PySem.F.plainAttrs_list PySem.F.slot_list_append PySem.F.type_list_append mt_append (pv 1) h) (de_tup (da_cons (de_v 2 (pv 2)) (da_cons (de_o (do_callP (fun h => pe_call C_sooner.ok hr (by rfl) C_sooner.g C_sooner.kp C_sooner.b .nil pass0 h) (da_cons (de_v 3 (pv 3)) (da_cons (de_op op_add os_add (de_v 2 (pv 2)) (de_v 8 (pv 8))) da_nil)))) da_nil)))))
    dss_nil))))))
    (dss_one (ds_ret (de_o (do_callP (fun h => pe_call C_joined.ok hr (by rfl) C_joined.g C_joined.kp C_joined.b .nil pass0 h) (da_cons (de_vF 1 (pv 1)) da_nil))))))), fun ds QD h => ?_⟩)
  · first
      | (obtain ⟨rfl, _⟩ := h; exact ⟨rfl, rfl⟩)
      | (obtain ⟨_, rfl, _⟩ := h; exact ⟨rfl, rfl⟩)
      | (obtain ⟨_, _, rfl, _⟩ := h; exact ⟨rfl, rfl⟩)
      | (obtain ⟨_, _, _, rfl, _⟩ := h; exact ⟨rfl, rfl⟩)
      | (obtain ⟨_, _, _, _, rfl, _⟩ := h; exact ⟨rfl, rfl⟩)
      | (obtain ⟨_, _, _, _, _, rfl, _⟩ := h; exact ⟨rfl, rfl⟩)
      | (obtain ⟨_, _, _, _, _, _, rfl, _⟩ := h; exact ⟨rfl, rfl⟩)
      | (obtain ⟨_, _, _, _, _, _, _, rfl, _⟩ := h; exact ⟨rfl, rfl⟩)
      | (obtain ⟨_, _, _, _, _, _, _, _, rfl, _⟩ := h; exact ⟨rfl, rfl⟩)
      | (obtain ⟨_, _, _, _, _, _, _, _, _, rfl, _⟩ := h; exact ⟨rfl, rfl⟩)
      | (obtain ⟨_, _, _, _, _, _, _, _, _, _, rfl, _⟩ := h; exact ⟨rfl, rfl⟩)
      | (obtain ⟨_, _, _, _, _, _, _, _, _, _, _, rfl, _⟩ := h; exact ⟨rfl, rfl⟩)
  · obtain ⟨s1, s2, r1, r2, cs, rfl, ⟨a1, a2, hC⟩, q⟩ := h
    have erl := rows_len s1 s2 r1 r2 cs
    have hcl := hC.len
    walk_at "ax"
    refine ⟨fun i env => ∃ (u2 u3 u4 u5 u6 u7 u8 : Option D), env = [some (.sh (.lst (rowsP s1 r1 s2 r2 cs))), some (.ol (pRs (spl (NM.spS s1 r1 s2 r2) cs i))), u2, u3, u4, u5, u6, u7, u8], ⟨none, none, none, none, none, none, none, rfl⟩, fun i p e hp' hI => ?_, fun e hI => ?_⟩
    · obtain ⟨u2, u3, u4, u5, u6, u7, u8, rfl⟩ := hI
      obtain ⟨hi, rfl⟩ := rows_get hp'
      generalize hce : cs.getD i 0 = c
      generalize hee : cs[i + 1]? = e
      have hsl := spl_len (spS_len s1 r1 s2 r2) cs i
      have epl : (pRs (spl (NM.spS s1 r1 s2 r2) cs i)).length = (spl (NM.spS s1 r1 s2 r2) cs i).length := List.length_map _
      have es : pRs (spl (NM.spS s1 r1 s2 r2) cs (i + 1)) = pRs (spl (NM.spS s1 r1 s2 r2) cs i) ++ pRs (NM.spanS c e (val s1 r1 c) (slp r1 c) (val s2 r2 c) (slp r2 c)) := by rw [spl_succ, pRs_app, hce, hee]
      unfold rowP
      rcases NM.slp_01 (k := c) a1 with h1 | h1 <;> rcases NM.slp_01 (k := c) a2 with h2 | h2
      all_goals rw [h1, h2] at es
      all_goals rw [h1, h2]
      · rw [NM.spanS00, show pRs [] = [] from rfl, List.append_nil] at es
        walk_at "ax"
        rw [es]
        exact ⟨_, _, _, _, _, _, _, rfl⟩
      · rw [NM.spanS01] at es
        walk_at "ax"
        · refine ⟨e, some (c + (val s1 r1 c - val s2 r2 c)), rfl, ?_⟩
          walk_at "ax"
          rw [if_pos (by assumption)] at es
          rw [es]
          exact ⟨_, _, _, _, _, _, _, rfl⟩
        · rw [if_neg (by omega), show pRs [] = [] from rfl, List.append_nil] at es
          rw [es]
          exact ⟨_, _, _, _, _, _, _, rfl⟩
      · rw [NM.spanS10] at es
        walk_at "ax"
        · refine ⟨e, some (c + (val s2 r2 c - val s1 r1 c)), rfl, ?_⟩
          walk_at "ax"
          rw [if_pos (by assumption)] at es
          rw [es]
          exact ⟨_, _, _, _, _, _, _, rfl⟩
        · rw [if_neg (by omega), show pRs [] = [] from rfl, List.append_nil] at es
          rw [es]
          exact ⟨_, _, _, _, _, _, _, rfl⟩
      · rw [NM.spanS11] at es
        walk_at "ax"
        rw [es]
        exact ⟨_, _, _, _, _, _, _, rfl⟩
    · obtain ⟨u2, u3, u4, u5, u6, u7, u8, rfl⟩ := hI
      have hG := NM.goesS (s1 := s1) (s2 := s2) a1 a2 hC.e1 hC.e2 hC.pw
      have hsl := spl_len (spS_len s1 r1 s2 r2) cs cs.length
      rw [spl_all] at hsl
      rw [erl, spl_all]
      obtain ⟨r, rfl⟩ : ∃ r, cs = 0 :: r := by
        have h0 := hC.z
        cases cs with
        | nil => cases h0
        | cons a r => cases h0; exact ⟨r, rfl⟩
      have hW := NM.spansOf_wa hG hC.pw
      have hV := fun k (hk : 0 ≤ k) => NM.spansOf_val hG hC.pw hk
      walk_at "ax"
      refine ⟨NM.spansOf (NM.spS s1 r1 s2 r2) (0 :: r), rfl, ⟨hW, by omega⟩, fun rs ⟨h1, h2, h3⟩ => ?_⟩
      walk_at "ax"
      refine q rs ⟨h1, fun k hk => ?_, Nat.le_trans h3 hsl⟩
      have := hV k hk
      simp only [NM.val_zero a1, NM.val_zero a2] at this
      rw [this, h2]
/-! ### rises_of_greater -/
abbrev s_rises_of_greater : Stmt := topS 21
theorem sc_rises_of_greater : FnScope ["pieces", "spans", "low", "high", "one", "slope", "other", "other_slope", "lead"] ["pieces"] (defScope s_rises_of_greater) := ⟨rfl, rfl, rfl, by decide +kernel, rfl, by decide +kernel, by decide +kernel⟩
def fs_rises_of_greater (cNeed : Addr) : FSp := fun ds Q => ∃ (s1 s2 : Int) (r1 r2 : List Pr) (cs : List Int), ds = [.sh (.lst (rowsP s1 r1 s2 r2 cs))] ∧ (Asc (-1) r1 ∧ Asc (-1) r2 ∧ Cuts cs r1 r2) ∧ ∀ rs, (Asc (-1) rs ∧ (∀ k, 0 ≤ k → NM.mxI (val s1 r1 k) (val s2 r2 k) = NM.mxI s1 s2 + vsum rs k) ∧ rs.length ≤ cs.length) → Q (.sh (.tup (pRs rs))) ds
theorem ok_rises_of_greater {Pg : Program} {w : World} {K : PySem.W.Frag} {mg : Str → Option Value} {base : Heap} {a : Addr} {fd : FuncData} (F : L2.Fun K "rises_of_greater" "rises_of_greater" s_rises_of_greater a fd)
    (m_max : mg "max" = none)
    {cNeed : Addr} (T : Txt K mg cNeed)
    {a_joined : Addr} {d_joined : FuncData} (C_joined : Callee Pg w K mg base 1 "joined" a_joined d_joined ["spans"] (fs_joined cNeed)) :
    FnOk Pg w K mg base CX0 2 a fd ["pieces"] (spD K (fs_rises_of_greater cNeed)) := by
  have n_Need_start : ClsA K cNeed "start" := ⟨T.cl_Need, T.n_Need_start⟩
  have n_Need_rises : ClsA K cNeed "rises" := ⟨T.cl_Need, T.n_Need_rises⟩
  have n_Need_never : ClsA K cNeed "never" := ⟨T.cl_Need, T.n_Need_never⟩
  have n_Need__values : ClsA K cNeed "_values" := ⟨T.cl_Need, T.n_Need__values⟩
  have is_Need := T.is_Need
  refine Fun.okD [] F sc_rises_of_greater (fun ds QD h => ?_) (fun cdv A outer s H E hr => ⟨_, _, (dss_cons (ds_put (do_lst da_nil) (pg_name (i := 1) sc_rises_of_greater.nd rfl (by first | exact .inl rfl | exact .inr rfl)))
    (dss_cons (ds_for PassesOwn.never rfl (di_seq (de_v 0 (pv 0))) (dg_seq (fun h => pg_tup rfl h) (fun h => pg_unl rfl h) (dgs_cons (dg_name (pg_name (i := 2) sc_rises_of_greater.nd rfl (by first | exact .inl rfl | exact .inr rfl))) (dgs_cons (dg_name (pg_name (i := 3) sc_rises_of_greater.nd rfl (by first | exact .inl rfl | exact .inr rfl))) (dgs_cons (dg_name (pg_name (i := 4) sc_rises_of_greater.nd rfl (by first | exact .inl rfl | exact .inr rfl))) (dgs_cons (dg_name (pg_name (i := 5) sc_rises_of_greater.nd rfl (by first | exact .inl rfl | exact .inr rfl))) (dgs_cons (dg_name (pg_name (i := 6) sc_rises_of_greater.nd rfl (by first | exact .inl rfl | exact .inr rfl))) (dgs_cons (dg_name (pg_name (i := 7) sc_rises_of_greater.nd rfl (by first | exact .inl rfl | exact .inr rfl))) dgs_nil)))))))
    (dss_cons (ds_asg (de_cb (fun h => pe_callB (call_max2 rfl) (by rfl) m_max (by decide +kernel) h) cs_max2 (da_cons de_int (da_cons (de_ifExp (dt_tru (de_v 5 (pv 5))) (de_op op_sub os_sub (de_v 6 (pv 6)) (de_v 4 (pv 4))) (de_op op_sub os_sub (de_v 4 (pv 4)) (de_v 6 (pv 6)))) da_nil))) (dg_name (pg_name (i := 8) sc_rises_of_greater.nd rfl (by first | exact .inl rfl | exact .inr rfl))))
    (dss_one (ds_if (DW.pt (dw_and (dt_tru (de_v 5 (pv 5))) (dw_and1 (dt_tru (de_v 7 (pv 7))))))
    (dss_one (ds_app (fun h => pe_bm PySem.F.plainAttrs_list PySem.F.slot_list_append PySem.F.type_list_append mt_append (pv 1) h) (de_tup (da_cons (de_v 2 (pv 2)) (da_cons (de_v 3 (pv 3)) da_nil)))))
    (dss_one (ds_if (DW.pt (dw_and (dt_cmp op_ne os_ne (de_v 5 (pv 5)) (de_v 7 (pv 7)) (nomark _)) (dw_and1 (DW.pt (dw_or (dt_cmp op_isN os_isN (de_v 3 (pv 3)) de_non (nomark _)) (dw_or1 (dt_cmp op_lt os_lt (de_op op_add os_add (de_v 2 (pv 2)) (de_v 8 (pv 8))) (de_v 3 (pv 3)) (nomark _))))))))
    (dss_one (ds_app (fun h => pe_bm PySem.F.plainAttrs_list PySem.F.slot_list_append PySem.F.type_list_append mt_append (pv 1) h) (de_tup (da_cons (de_op op_add os_add (de_v 2 (pv 2)) (de_v 8 (pv 8))) (da_cons (de_v 3 (pv 3)) da_nil)))))
    dss_nil))))))
    (dss_one (ds_ret (de_o (do_callP (fun h => pe_call C_joined.ok hr (by rfl) C_joined.g C_joined.kp C_joined.b .nil pass0 h) (da_cons (de_vF 1 (pv 1)) da_nil))))))), fun ds QD h => ?_⟩)
  · first
      | (obtain ⟨rfl, _⟩ := h; exact ⟨rfl, rfl⟩)
      | (obtain ⟨_, rfl, _⟩ := h; exact ⟨rfl, rfl⟩)
      | (obtain ⟨_, _, rfl, _⟩ := h; exact ⟨rfl, rfl⟩)
      | (obtain ⟨_, _, _, rfl, _⟩ := h; exact ⟨rfl, rfl⟩)
      | (obtain ⟨_, _, _, _, rfl, _⟩ := h; exact ⟨rfl, rfl⟩)
      | (obtain ⟨_, _, _, _, _, rfl, _⟩ := h; exact ⟨rfl, rfl⟩)
      | (obtain ⟨_, _, _, _, _, _, rfl, _⟩ := h; exact ⟨rfl, rfl⟩)
      | (obtain ⟨_, _, _, _, _, _, _, rfl, _⟩ := h; exact ⟨rfl, rfl⟩)
      | (obtain ⟨_, _, _, _, _, _, _, _, rfl, _⟩ := h; exact ⟨rfl, rfl⟩)
      | (obtain ⟨_, _, _, _, _, _, _, _, _, rfl, _⟩ := h; exact ⟨rfl, rfl⟩)
      | (obtain ⟨_, _, _, _, _, _, _, _, _, _, rfl, _⟩ := h; exact ⟨rfl, rfl⟩)
      | (obtain ⟨_, _, _, _, _, _, _, _, _, _, _, rfl, _⟩ := h; exact ⟨rfl, rfl⟩)
  · obtain ⟨s1, s2, r1, r2, cs, rfl, ⟨a1, a2, hC⟩, q⟩ := h
    have erl := rows_len s1 s2 r1 r2 cs
    have hcl := hC.len
    walk_at "ax"
    refine ⟨fun i env => ∃ (u2 u3 u4 u5 u6 u7 u8 : Option D), env = [some (.sh (.lst (rowsP s1 r1 s2 r2 cs))), some (.ol (pRs (spl (NM.spG s1 r1 s2 r2) cs i))), u2, u3, u4, u5, u6, u7, u8], ⟨none, none, none, none, none, none, none, rfl⟩, fun i p e hp' hI => ?_, fun e hI => ?_⟩
    · obtain ⟨u2, u3, u4, u5, u6, u7, u8, rfl⟩ := hI
      obtain ⟨hi, rfl⟩ := rows_get hp'
      generalize hce : cs.getD i 0 = c
      generalize hee : cs[i + 1]? = e
      have hsl := spl_len (spG_len s1 r1 s2 r2) cs i
      have epl : (pRs (spl (NM.spG s1 r1 s2 r2) cs i)).length = (spl (NM.spG s1 r1 s2 r2) cs i).length := List.length_map _
      have es : pRs (spl (NM.spG s1 r1 s2 r2) cs (i + 1)) = pRs (spl (NM.spG s1 r1 s2 r2) cs i) ++ pRs (NM.spanG c e (val s1 r1 c) (slp r1 c) (val s2 r2 c) (slp r2 c)) := by rw [spl_succ, pRs_app, hce, hee]
      unfold rowP
      rcases NM.slp_01 (k := c) a1 with h1 | h1 <;> rcases NM.slp_01 (k := c) a2 with h2 | h2
      all_goals rw [h1, h2] at es
      all_goals rw [h1, h2]
      · rw [NM.spanG00, show pRs [] = [] from rfl, List.append_nil] at es
        walk_at "ax"
        rw [es]
        exact ⟨_, _, _, _, _, _, _, rfl⟩
      · rw [NM.spanG01, show NM.mxI 0 (val s1 r1 c - val s2 r2 c) = (if val s1 r1 c - val s2 r2 c > 0 then val s1 r1 c - val s2 r2 c else 0) by unfold NM.mxI; (repeat' split) <;> omega] at es
        cases e with
        | none =>
          rw [if_pos (fun x h => by cases h)] at es
          walk_at "ax"
          rw [es]
          exact ⟨_, _, _, _, _, _, _, rfl⟩
        | some x =>
          walk_at "ax"
          · rename_i hcx
            rw [if_pos (fun y h => by cases h; exact hcx)] at es
            rw [es]
            exact ⟨_, _, _, _, _, _, _, rfl⟩
          · rename_i hcx
            rw [if_neg (fun h => Int.not_lt.mpr hcx (h x rfl)), show pRs [] = [] from rfl, List.append_nil] at es
            rw [es]
            exact ⟨_, _, _, _, _, _, _, rfl⟩
      · rw [NM.spanG10, show NM.mxI 0 (val s2 r2 c - val s1 r1 c) = (if val s2 r2 c - val s1 r1 c > 0 then val s2 r2 c - val s1 r1 c else 0) by unfold NM.mxI; (repeat' split) <;> omega] at es
        cases e with
        | none =>
          rw [if_pos (fun x h => by cases h)] at es
          walk_at "ax"
          rw [es]
          exact ⟨_, _, _, _, _, _, _, rfl⟩
        | some x =>
          walk_at "ax"
          · rename_i hcx
            rw [if_pos (fun y h => by cases h; exact hcx)] at es
            rw [es]
            exact ⟨_, _, _, _, _, _, _, rfl⟩
          · rename_i hcx
            rw [if_neg (fun h => Int.not_lt.mpr hcx (h x rfl)), show pRs [] = [] from rfl, List.append_nil] at es
            rw [es]
            exact ⟨_, _, _, _, _, _, _, rfl⟩
      · rw [NM.spanG11] at es
        walk_at "ax"
        rw [es]
        exact ⟨_, _, _, _, _, _, _, rfl⟩
    · obtain ⟨u2, u3, u4, u5, u6, u7, u8, rfl⟩ := hI
      have hG := NM.goesG (s1 := s1) (s2 := s2) a1 a2 hC.e1 hC.e2 hC.pw
      have hsl := spl_len (spG_len s1 r1 s2 r2) cs cs.length
      rw [spl_all] at hsl
      rw [erl, spl_all]
      obtain ⟨r, rfl⟩ : ∃ r, cs = 0 :: r := by
        have h0 := hC.z
        cases cs with
        | nil => cases h0
        | cons a r => cases h0; exact ⟨r, rfl⟩
      have hW := NM.spansOf_wa hG hC.pw
      have hV := fun k (hk : 0 ≤ k) => NM.spansOf_val hG hC.pw hk
      walk_at "ax"
      refine ⟨NM.spansOf (NM.spG s1 r1 s2 r2) (0 :: r), rfl, ⟨hW, by omega⟩, fun rs ⟨h1, h2, h3⟩ => ?_⟩
      walk_at "ax"
      refine q rs ⟨h1, fun k hk => ?_, Nat.le_trans h3 hsl⟩
      have := hV k hk
      simp only [NM.val_zero a1, NM.val_zero a2] at this
      rw [this, h2]
/-! ### check_need -/
abbrev s_check_need : Stmt := topS 24
theorem sc_check_need : FnScope ["start", "rises", "never"] ["start", "rises", "never"] (defScope s_check_need) := ⟨rfl, rfl, rfl, by decide +kernel, rfl, by decide +kernel, by decide +kernel⟩
def fs_check_need (cNeed : Addr) : FSp := fun ds Q => ∃ (t : Bool) (n : Nd), ds = [.sh (oI n.s), .sh (sq t (pRs n.rs)), .sh (oI n.nv)] ∧ NOk n ∧ Q (.sh .non) ds
theorem ok_check_need {Pg : Program} {w : World} {K : PySem.W.Frag} {mg : Str → Option Value} {base : Heap} {a : Addr} {fd : FuncData} (F : L2.Fun K "check_need" "check_need" s_check_need a fd)
    (m_len : mg "len" = none)
    {cNeed : Addr} (T : Txt K mg cNeed)
    {a_are_rises : Addr} {d_are_rises : FuncData} (C_are_rises : Callee Pg w K mg base 1 "are_rises" a_are_rises d_are_rises ["pairs"] (fs_are_rises cNeed))
    {a_is_open : Addr} {d_is_open : FuncData} (C_is_open : Callee Pg w K mg base 1 "is_open" a_is_open d_is_open ["rises"] (fs_is_open cNeed))
    {a_greatest_value : Addr} {d_greatest_value : FuncData} (C_greatest_value : Callee Pg w K mg base 1 "greatest_value" a_greatest_value d_greatest_value ["start", "rises"] (fs_greatest_value cNeed)) :
    FnOk Pg w K mg base CX0 2 a fd ["start", "rises", "never"] (spD K (fs_check_need cNeed)) := by
  have n_Need_start : ClsA K cNeed "start" := ⟨T.cl_Need, T.n_Need_start⟩
  have n_Need_rises : ClsA K cNeed "rises" := ⟨T.cl_Need, T.n_Need_rises⟩
  have n_Need_never : ClsA K cNeed "never" := ⟨T.cl_Need, T.n_Need_never⟩
  have n_Need__values : ClsA K cNeed "_values" := ⟨T.cl_Need, T.n_Need__values⟩
  have is_Need := T.is_Need
  refine Fun.okD [] F sc_check_need (fun ds QD h => ?_) (fun cdv A outer s H E hr => ⟨_, _, (dss_cons (ds_if (DW.pt (dw_and (dt_cmp op_notN os_notN (de_v 0 (pv 0)) de_non (nomark _)) (dw_and1 (dt_cmp op_lt os_lt (de_v 0 (pv 0)) de_int (nomark _)))))
    (dss_one ds_never)
    dss_nil)
    (dss_cons (ds_if (DW.pt (dw_or (dt_not (dt_tru (de_o (do_callP (fun h => pe_call C_are_rises.ok hr (by rfl) C_are_rises.g C_are_rises.kp C_are_rises.b .nil pass0 h) (da_cons (de_v 1 (pv 1)) da_nil))))) (dw_or1 (DW.pt (dw_and (dt_cmp op_isN os_isN (de_v 0 (pv 0)) de_non (nomark _)) (dw_and1 (dt_cmp op_gt os_gt (de_cb (fun h => pe_callB call_len (by rfl) m_len PySem.boot_len h) cs_len (da_cons (de_v 1 (pv 1)) da_nil)) de_int (nomark _))))))))
    (dss_one ds_never)
    dss_nil)
    (dss_one (ds_if (dt_cmp op_notN os_notN (de_v 2 (pv 2)) de_non (nomark _))
    (dss_one (ds_if (DW.pt (dw_or (dt_cmp op_isN os_isN (de_v 0 (pv 0)) de_non (nomark _)) (dw_or (dt_tru (de_o (do_callP (fun h => pe_call C_is_open.ok hr (by rfl) C_is_open.g C_is_open.kp C_is_open.b .nil pass0 h) (da_cons (de_v 1 (pv 1)) da_nil)))) (dw_or1 (dt_cmp op_lt os_lt (de_v 2 (pv 2)) (de_o (do_callP (fun h => pe_call C_greatest_value.ok hr (by rfl) C_greatest_value.g C_greatest_value.kp C_greatest_value.b .nil pass0 h) (da_cons (de_v 0 (pv 0)) (da_cons (de_v 1 (pv 1)) da_nil)))) (nomark _))))))
    (dss_one ds_never)
    dss_nil))
    dss_nil)))), fun ds QD h => ?_⟩)
  · first
      | (obtain ⟨rfl, _⟩ := h; exact ⟨rfl, rfl⟩)
      | (obtain ⟨_, rfl, _⟩ := h; exact ⟨rfl, rfl⟩)
      | (obtain ⟨_, _, rfl, _⟩ := h; exact ⟨rfl, rfl⟩)
      | (obtain ⟨_, _, _, rfl, _⟩ := h; exact ⟨rfl, rfl⟩)
      | (obtain ⟨_, _, _, _, rfl, _⟩ := h; exact ⟨rfl, rfl⟩)
      | (obtain ⟨_, _, _, _, _, rfl, _⟩ := h; exact ⟨rfl, rfl⟩)
      | (obtain ⟨_, _, _, _, _, _, rfl, _⟩ := h; exact ⟨rfl, rfl⟩)
      | (obtain ⟨_, _, _, _, _, _, _, rfl, _⟩ := h; exact ⟨rfl, rfl⟩)
      | (obtain ⟨_, _, _, _, _, _, _, _, rfl, _⟩ := h; exact ⟨rfl, rfl⟩)
      | (obtain ⟨_, _, _, _, _, _, _, _, _, rfl, _⟩ := h; exact ⟨rfl, rfl⟩)
      | (obtain ⟨_, _, _, _, _, _, _, _, _, _, rfl, _⟩ := h; exact ⟨rfl, rfl⟩)
      | (obtain ⟨_, _, _, _, _, _, _, _, _, _, _, rfl, _⟩ := h; exact ⟨rfl, rfl⟩)
  · obtain ⟨t, ⟨s, rs, nv⟩, rfl, ok, q⟩ := h
    have hl := ok.len
    have ha : ascB (some (-1)) rs = true := (NM.ascB_iff rs (-1)).mpr ok.asc
    simp only at hl
    cases s with
    | none =>
      have hn : nv = none := by
        cases nv with
        | none => rfl
        | some v => obtain ⟨s0, h0, _⟩ := ok.nv v rfl; cases h0
      have hr : rs = [] := ok.no rfl
      subst hn
      subst hr
      cases t
      all_goals
        walk_at "au"
        refine ⟨_, [], rfl, ?_⟩
        walk_at "au"
        exact q
    | some s =>
      have h0 := ok.s0 s rfl
      cases nv with
      | none =>
        walk_at "au"
        · exfalso; omega
        · refine ⟨t, rs, rfl, ?_⟩
          simp only [ha]
          walk_at "au"
          exact q
      | some v =>
        obtain ⟨s0, e0, hc, hv⟩ := ok.nv v rfl
        cases e0
        have hop : NM.opnB rs = false := by
          cases e : NM.opnB rs with
          | false => rfl
          | true =>
            unfold NM.opnB at e
            split at e
            · rename_i lo hlo
              exact absurd (NM.opn_iff.mp hlo) (hc lo)
            · cases e
        walk_at "au"
        · exfalso; omega
        · refine ⟨t, rs, rfl, ?_⟩
          simp only [ha]
          walk_at "au"
          refine ⟨t, rs, rfl, hl, ?_⟩
          simp only [hop]
          walk_at "au"
          refine ⟨t, s, rs, rfl, hl, NM.closed_some ok.asc hc, ?_⟩
          walk_at "au"
          · exfalso
            simp only at hv
            omega
          · exact q
/-! ### Need._first_enough -/
abbrev s_Need_m__first_enough : Stmt := inClass (topS 26) 10
theorem sc_Need_m__first_enough : FnScope ["self", "before"] ["self"] (defScope s_Need_m__first_enough) := ⟨rfl, rfl, rfl, by decide +kernel, rfl, by decide +kernel, by decide +kernel⟩
def fs_Need_m__first_enough (cNeed : Addr) : FSp := fun ds Q => ∃ (n : Nd), ds = [.sh (ndP cNeed n)] ∧ Q (.sh (oI (firstF n))) ds
theorem ok_Need_m__first_enough {Pg : Program} {w : World} {K : PySem.W.Frag} {mg : Str → Option Value} {base : Heap} {a : Addr} {fd : FuncData} (F : L2.Fun K "_first_enough" "Need._first_enough" s_Need_m__first_enough a fd)
    {cNeed : Addr} (T : Txt K mg cNeed)
    {a_flat_place : Addr} {d_flat_place : FuncData} (C_flat_place : Callee Pg w K mg base 1 "flat_place" a_flat_place d_flat_place ["rises", "number"] (fs_flat_place cNeed)) :
    FnOk Pg w K mg base CX0 2 a fd ["self"] (spD K (fs_Need_m__first_enough cNeed)) := by
  have n_Need_start : ClsA K cNeed "start" := ⟨T.cl_Need, T.n_Need_start⟩
  have n_Need_rises : ClsA K cNeed "rises" := ⟨T.cl_Need, T.n_Need_rises⟩
  have n_Need_never : ClsA K cNeed "never" := ⟨T.cl_Need, T.n_Need_never⟩
  have n_Need__values : ClsA K cNeed "_values" := ⟨T.cl_Need, T.n_Need__values⟩
  have is_Need := T.is_Need
  refine Fun.okD [] F sc_Need_m__first_enough (fun ds QD h => ?_) (fun cdv A outer s H E hr => ⟨_, _, (dss_cons (ds_if (dt_cmp op_isN os_isN (de_fld (de_v 0 (pv 0))) de_non (nomark _))
    (dss_one (ds_ret de_non))
    dss_nil)
    (dss_cons (ds_if (dt_cmp op_eq os_eq (de_fld (de_v 0 (pv 0))) de_int (nomark _))
    (dss_one (ds_ret de_int))
    dss_nil)
    (dss_cons (ds_asg (de_o (do_callP (fun h => pe_call C_flat_place.ok hr (by rfl) C_flat_place.g C_flat_place.kp C_flat_place.b .nil pass0 h) (da_cons (de_fld (de_v 0 (pv 0))) (da_cons (de_op op_sub os_sub (de_fld (de_v 0 (pv 0))) de_int) da_nil)))) (dg_name (pg_name (i := 1) sc_Need_m__first_enough.nd rfl (by first | exact .inl rfl | exact .inr rfl))))
    (dss_one (ds_ret (de_ifExp (dt_cmp op_isN os_isN (de_v 1 (pv 1)) de_non (nomark _)) de_non (de_op op_add os_add (de_v 1 (pv 1)) de_int))))))), fun ds QD h => ?_⟩)
  · first
      | (obtain ⟨rfl, _⟩ := h; exact ⟨rfl, rfl⟩)
      | (obtain ⟨_, rfl, _⟩ := h; exact ⟨rfl, rfl⟩)
      | (obtain ⟨_, _, rfl, _⟩ := h; exact ⟨rfl, rfl⟩)
      | (obtain ⟨_, _, _, rfl, _⟩ := h; exact ⟨rfl, rfl⟩)
      | (obtain ⟨_, _, _, _, rfl, _⟩ := h; exact ⟨rfl, rfl⟩)
      | (obtain ⟨_, _, _, _, _, rfl, _⟩ := h; exact ⟨rfl, rfl⟩)
      | (obtain ⟨_, _, _, _, _, _, rfl, _⟩ := h; exact ⟨rfl, rfl⟩)
      | (obtain ⟨_, _, _, _, _, _, _, rfl, _⟩ := h; exact ⟨rfl, rfl⟩)
      | (obtain ⟨_, _, _, _, _, _, _, _, rfl, _⟩ := h; exact ⟨rfl, rfl⟩)
      | (obtain ⟨_, _, _, _, _, _, _, _, _, rfl, _⟩ := h; exact ⟨rfl, rfl⟩)
      | (obtain ⟨_, _, _, _, _, _, _, _, _, _, rfl, _⟩ := h; exact ⟨rfl, rfl⟩)
      | (obtain ⟨_, _, _, _, _, _, _, _, _, _, _, rfl, _⟩ := h; exact ⟨rfl, rfl⟩)
  · obtain ⟨⟨s, rs, nv⟩, rfl, q⟩ := h
    cases s with
    | none =>
      walk_at "au"
      exact q
    | some s =>
      have e : firstF ⟨some s, rs, nv⟩ = if s = 0 then some 0 else (flatF rs 0 (s - 1)).map (· + 1) := rfl
      rw [e] at q
      walk_at "au"
      · rw [if_pos (by assumption)] at q
        exact q
      · rw [if_neg (by assumption)] at q
        refine ⟨true, rs, s - 1, rfl, ?_⟩
        cases ef : flatF rs 0 (s - 1) with
        | none =>
          rw [ef] at q
          walk_at "au"
          exact q
        | some x =>
          rw [ef] at q
          walk_at "au"
          exact q
/-! ### Need._last_enough -/
abbrev s_Need_m__last_enough : Stmt := inClass (topS 26) 9
theorem sc_Need_m__last_enough : FnScope ["self"] ["self"] (defScope s_Need_m__last_enough) := ⟨rfl, rfl, rfl, by decide +kernel, rfl, by decide +kernel, by decide +kernel⟩
def fs_Need_m__last_enough (cNeed : Addr) : FSp := fun ds Q => ∃ (n : Nd) (s : Int), ds = [.sh (ndP cNeed n)] ∧ n.s = some s ∧ Q (.sh (oI (flatF n.rs 0 s))) ds
theorem ok_Need_m__last_enough {Pg : Program} {w : World} {K : PySem.W.Frag} {mg : Str → Option Value} {base : Heap} {a : Addr} {fd : FuncData} (F : L2.Fun K "_last_enough" "Need._last_enough" s_Need_m__last_enough a fd)
    {cNeed : Addr} (T : Txt K mg cNeed)
    {a_flat_place : Addr} {d_flat_place : FuncData} (C_flat_place : Callee Pg w K mg base 1 "flat_place" a_flat_place d_flat_place ["rises", "number"] (fs_flat_place cNeed)) :
    FnOk Pg w K mg base CX0 2 a fd ["self"] (spD K (fs_Need_m__last_enough cNeed)) := by
  have n_Need_start : ClsA K cNeed "start" := ⟨T.cl_Need, T.n_Need_start⟩
  have n_Need_rises : ClsA K cNeed "rises" := ⟨T.cl_Need, T.n_Need_rises⟩
  have n_Need_never : ClsA K cNeed "never" := ⟨T.cl_Need, T.n_Need_never⟩
  have n_Need__values : ClsA K cNeed "_values" := ⟨T.cl_Need, T.n_Need__values⟩
  have is_Need := T.is_Need
  refine Fun.okD [] F sc_Need_m__last_enough (fun ds QD h => ?_) (fun cdv A outer s H E hr => ⟨_, _, (dss_one (ds_ret (de_o (do_callP (fun h => pe_call C_flat_place.ok hr (by rfl) C_flat_place.g C_flat_place.kp C_flat_place.b .nil pass0 h) (da_cons (de_fld (de_v 0 (pv 0))) (da_cons (de_fld (de_v 0 (pv 0))) da_nil)))))), fun ds QD h => ?_⟩)
  · first
      | (obtain ⟨rfl, _⟩ := h; exact ⟨rfl, rfl⟩)
      | (obtain ⟨_, rfl, _⟩ := h; exact ⟨rfl, rfl⟩)
      | (obtain ⟨_, _, rfl, _⟩ := h; exact ⟨rfl, rfl⟩)
      | (obtain ⟨_, _, _, rfl, _⟩ := h; exact ⟨rfl, rfl⟩)
      | (obtain ⟨_, _, _, _, rfl, _⟩ := h; exact ⟨rfl, rfl⟩)
      | (obtain ⟨_, _, _, _, _, rfl, _⟩ := h; exact ⟨rfl, rfl⟩)
      | (obtain ⟨_, _, _, _, _, _, rfl, _⟩ := h; exact ⟨rfl, rfl⟩)
      | (obtain ⟨_, _, _, _, _, _, _, rfl, _⟩ := h; exact ⟨rfl, rfl⟩)
      | (obtain ⟨_, _, _, _, _, _, _, _, rfl, _⟩ := h; exact ⟨rfl, rfl⟩)
      | (obtain ⟨_, _, _, _, _, _, _, _, _, rfl, _⟩ := h; exact ⟨rfl, rfl⟩)
      | (obtain ⟨_, _, _, _, _, _, _, _, _, _, rfl, _⟩ := h; exact ⟨rfl, rfl⟩)
      | (obtain ⟨_, _, _, _, _, _, _, _, _, _, _, rfl, _⟩ := h; exact ⟨rfl, rfl⟩)
  · obtain ⟨⟨s', rs, nv⟩, s, rfl, hs, q⟩ := h
    simp only at hs
    subst hs
    walk_at "au"
    refine ⟨true, rs, s, rfl, ?_⟩
    walk_at "au"
    exact q
/-! ### _law_need -/
abbrev s__law_need : Stmt := topS 31
theorem sc__law_need : FnScope ["_law_draws_here", "_law_place", "_law_kind", "_law_start", "_law_rises", "_law_top", "_law_edge", "_law_k", "_law_width", "_law_never"] ["_law_draws_here", "_law_place"] (defScope s__law_need) := ⟨rfl, rfl, rfl, by decide +kernel, rfl, by decide +kernel, by decide +kernel⟩
def fs__law_need (cNeed : Addr) : FSp := fun ds Q => ∃ (rs : List Int) (k : Nat), ds = [.sh (.lst (pI rs)), .ol [.int (k : Int)]] ∧ (∀ d ∈ rs, 0 ≤ d ∧ d < 1000000) ∧ (∀ (n : Nd) (k' : Nat), (NBd n ∧ N25 n.rs) → Q (.ol [oI n.s, .tup (pRs n.rs), oI n.nv]) [.sh (.lst (pI rs)), .ol [.int (k' : Int)]])
theorem ok__law_need {Pg : Program} {w : World} {K : PySem.W.Frag} {mg : Str → Option Value} {base : Heap} {a : Addr} {fd : FuncData} (F : L2.Fun K "_law_need" "_law_need" s__law_need a fd)
    (m_int : mg "int" = none)
    (m_range : mg "range" = none)
    (m_len : mg "len" = none)
    (m_tuple : mg "tuple" = none)
    {cNeed : Addr} (T : Txt K mg cNeed)
    {a__law_take : Addr} {d__law_take : FuncData} (C__law_take : Callee Pg w K mg base 1 "_law_take" a__law_take d__law_take ["_law_draws_here", "_law_place"] (fs__law_take cNeed)) :
    FnOk Pg w K mg base CX0 2 a fd ["_law_draws_here", "_law_place"] (spD K (fs__law_need cNeed)) := by
  have n_Need_start : ClsA K cNeed "start" := ⟨T.cl_Need, T.n_Need_start⟩
  have n_Need_rises : ClsA K cNeed "rises" := ⟨T.cl_Need, T.n_Need_rises⟩
  have n_Need_never : ClsA K cNeed "never" := ⟨T.cl_Need, T.n_Need_never⟩
  have n_Need__values : ClsA K cNeed "_values" := ⟨T.cl_Need, T.n_Need__values⟩
  have is_Need := T.is_Need
  refine Fun.okD [1] F sc__law_need (fun ds QD h => ?_) (fun cdv A outer s H E hr => ⟨_, _, (dss_cons (ds_asg (de_o (do_call (m := false) (fun h => pe_call C__law_take.ok hr (by rfl) C__law_take.g C__law_take.kp C__law_take.b .nil pass0 h) (da_cons (de_v 0 (pv 0)) (da_slot (pv 1) da_nil)))) (dg_name (pg_name (i := 2) sc__law_need.nd rfl (by first | exact .inl rfl | exact .inr rfl))))
    (dss_cons (ds_if (dt_cmp op_eq os_eq (de_op op_mod os_mod (de_cb (fun h => pe_callTy call_int1 (by rfl) m_int (by decide +kernel) h) cs_int (da_cons (de_v 2 (pv 2)) da_nil)) de_int) de_int (nomark _))
    (dss_one (ds_retO (do_lst (da_cons de_non (da_cons (de_tup da_nil) (da_cons de_non da_nil))))))
    dss_nil)
    (dss_cons (ds_asg (de_op op_mod os_mod (de_cb (fun h => pe_callTy call_int1 (by rfl) m_int (by decide +kernel) h) cs_int (da_cons (de_o (do_call (m := false) (fun h => pe_call C__law_take.ok hr (by rfl) C__law_take.g C__law_take.kp C__law_take.b .nil pass0 h) (da_cons (de_v 0 (pv 0)) (da_slot (pv 1) da_nil)))) da_nil)) de_int) (dg_name (pg_name (i := 3) sc__law_need.nd rfl (by first | exact .inl rfl | exact .inr rfl))))
    (dss_mid (ds_if (dt_cmp op_eq os_eq (de_op op_mod os_mod (de_cb (fun h => pe_callTy call_int1 (by rfl) m_int (by decide +kernel) h) cs_int (da_cons (de_op op_fdivW os_div (de_v 2 (pv 2)) de_int) da_nil)) de_int) de_int (nomark _))
    (dss_one (ds_asg (de_op op_add os_add (de_v 3 (pv 3)) (de_op op_pow os_pow de_int de_int)) (dg_name (pg_name (i := 3) sc__law_need.nd rfl (by first | exact .inl rfl | exact .inr rfl)))))
    dss_nil)
    (dss_cons (ds_put (do_lst da_nil) (pg_name (i := 4) sc__law_need.nd rfl (by first | exact .inl rfl | exact .inr rfl)))
    (dss_cons (ds_asg (de_v 3 (pv 3)) (dg_name (pg_name (i := 5) sc__law_need.nd rfl (by first | exact .inl rfl | exact .inr rfl))))
    (dss_cons (ds_asg (de_op op_mod os_mod (de_cb (fun h => pe_callTy call_int1 (by rfl) m_int (by decide +kernel) h) cs_int (da_cons (de_o (do_call (m := false) (fun h => pe_call C__law_take.ok hr (by rfl) C__law_take.g C__law_take.kp C__law_take.b .nil pass0 h) (da_cons (de_v 0 (pv 0)) (da_slot (pv 1) da_nil)))) da_nil)) de_int) (dg_name (pg_name (i := 6) sc__law_need.nd rfl (by first | exact .inl rfl | exact .inr rfl))))
    (dss_cons (ds_for PassesOwn.never rfl (di_rng1 (fun h => pi_range1 (by rfl) m_range h) (da_cons (de_op op_mod os_mod (de_cb (fun h => pe_callTy call_int1 (by rfl) m_int (by decide +kernel) h) cs_int (da_cons (de_o (do_call (m := false) (fun h => pe_call C__law_take.ok hr (by rfl) C__law_take.g C__law_take.kp C__law_take.b .nil pass0 h) (da_cons (de_v 0 (pv 0)) (da_slot (pv 1) da_nil)))) da_nil)) de_int) da_nil)) (dg_name (pg_name (i := 7) sc__law_need.nd rfl (by first | exact .inl rfl | exact .inr rfl)))
    (dss_cons (ds_asg (de_op op_add os_add de_int (de_op op_mod os_mod (de_cb (fun h => pe_callTy call_int1 (by rfl) m_int (by decide +kernel) h) cs_int (da_cons (de_o (do_call (m := false) (fun h => pe_call C__law_take.ok hr (by rfl) C__law_take.g C__law_take.kp C__law_take.b .nil pass0 h) (da_cons (de_v 0 (pv 0)) (da_slot (pv 1) da_nil)))) da_nil)) de_int)) (dg_name (pg_name (i := 8) sc__law_need.nd rfl (by first | exact .inl rfl | exact .inr rfl))))
    (dss_mid (ds_if (dt_cmp op_eq os_eq (de_op op_mod os_mod (de_cb (fun h => pe_callTy call_int1 (by rfl) m_int (by decide +kernel) h) cs_int (da_cons (de_op op_fdivW os_div (de_v 2 (pv 2)) de_int) da_nil)) de_int) de_int (nomark _))
    (dss_one (ds_asg (de_op op_mulW os_mul (de_v 8 (pv 8)) (de_op op_pow os_pow de_int de_int)) (dg_name (pg_name (i := 8) sc__law_need.nd rfl (by first | exact .inl rfl | exact .inr rfl)))))
    dss_nil)
    (dss_cons (ds_app (fun h => pe_bm PySem.F.plainAttrs_list PySem.F.slot_list_append PySem.F.type_list_append mt_append (pv 4) h) (de_tup (da_cons (de_v 6 (pv 6)) (da_cons (de_op op_add os_add (de_v 6 (pv 6)) (de_v 8 (pv 8))) da_nil))))
    (dss_cons (ds_asg (de_op op_add os_add (de_v 5 (pv 5)) (de_v 8 (pv 8))) (dg_name (pg_name (i := 5) sc__law_need.nd rfl (by first | exact .inl rfl | exact .inr rfl))))
    (dss_one (ds_asg (de_op op_add os_add (de_op op_add os_add (de_op op_add os_add (de_v 6 (pv 6)) (de_v 8 (pv 8))) de_int) (de_op op_mod os_mod (de_cb (fun h => pe_callTy call_int1 (by rfl) m_int (by decide +kernel) h) cs_int (da_cons (de_o (do_call (m := false) (fun h => pe_call C__law_take.ok hr (by rfl) C__law_take.g C__law_take.kp C__law_take.b .nil pass0 h) (da_cons (de_v 0 (pv 0)) (da_slot (pv 1) da_nil)))) da_nil)) de_int)) (dg_name (pg_name (i := 6) sc__law_need.nd rfl (by first | exact .inl rfl | exact .inr rfl))))))))))
    (dss_cons (ds_if (DW.pt (dw_and (dt_cmp op_gt os_gt (de_cb (fun h => pe_callB call_len (by rfl) m_len PySem.boot_len h) cs_len (da_cons (de_vF 4 (pv 4)) da_nil)) de_int (nomark _)) (dw_and1 (dt_cmp op_eq os_eq (de_op op_mod os_mod (de_cb (fun h => pe_callTy call_int1 (by rfl) m_int (by decide +kernel) h) cs_int (da_cons (de_op op_fdivW os_div (de_v 2 (pv 2)) de_int) da_nil)) de_int) de_int (nomark _)))))
    (dss_one (ds_retO (do_lst (da_cons (de_v 3 (pv 3)) (da_cons (de_cb (fun h => pe_callTy call_tuple_of (by rfl) m_tuple (by decide +kernel) h) cs_tuple (da_cons (de_o (do_op op_cat oo_cat (de_slS (de_vF 4 (pv 4)) dpo_none (dpo_some (de_un un_neg us_neg de_int))) (de_o (do_lst (da_cons (de_tup (da_cons (de_ix ix_seq os_ix (de_ix ix_seq os_ix (de_v 4 (pv 4)) (de_un un_neg us_neg de_int)) de_int) (da_cons de_non da_nil))) da_nil))))) da_nil)) (da_cons de_non da_nil))))))
    dss_nil)
    (dss_cons (ds_asg de_non (dg_name (pg_name (i := 9) sc__law_need.nd rfl (by first | exact .inl rfl | exact .inr rfl))))
    (dss_cons (ds_if (dt_cmp op_eq os_eq (de_op op_mod os_mod (de_cb (fun h => pe_callTy call_int1 (by rfl) m_int (by decide +kernel) h) cs_int (da_cons (de_op op_fdivW os_div (de_v 2 (pv 2)) de_int) da_nil)) de_int) de_int (nomark _))
    (dss_one (ds_asg (de_op op_add os_add (de_v 5 (pv 5)) (de_op op_mod os_mod (de_cb (fun h => pe_callTy call_int1 (by rfl) m_int (by decide +kernel) h) cs_int (da_cons (de_o (do_call (m := false) (fun h => pe_call C__law_take.ok hr (by rfl) C__law_take.g C__law_take.kp C__law_take.b .nil pass0 h) (da_cons (de_v 0 (pv 0)) (da_slot (pv 1) da_nil)))) da_nil)) de_int)) (dg_name (pg_name (i := 9) sc__law_need.nd rfl (by first | exact .inl rfl | exact .inr rfl)))))
    dss_nil)
    (dss_one (ds_retO (do_lst (da_cons (de_v 3 (pv 3)) (da_cons (de_cb (fun h => pe_callTy call_tuple_of (by rfl) m_tuple (by decide +kernel) h) cs_tuple (da_cons (de_vF 4 (pv 4)) da_nil)) (da_cons (de_v 9 (pv 9)) da_nil))))))))))))))))), fun ds QD h => ?_⟩)
  · first
      | (obtain ⟨rfl, _⟩ := h; exact ⟨rfl, rfl⟩)
      | (obtain ⟨_, rfl, _⟩ := h; exact ⟨rfl, rfl⟩)
      | (obtain ⟨_, _, rfl, _⟩ := h; exact ⟨rfl, rfl⟩)
      | (obtain ⟨_, _, _, rfl, _⟩ := h; exact ⟨rfl, rfl⟩)
      | (obtain ⟨_, _, _, _, rfl, _⟩ := h; exact ⟨rfl, rfl⟩)
      | (obtain ⟨_, _, _, _, _, rfl, _⟩ := h; exact ⟨rfl, rfl⟩)
      | (obtain ⟨_, _, _, _, _, _, rfl, _⟩ := h; exact ⟨rfl, rfl⟩)
      | (obtain ⟨_, _, _, _, _, _, _, rfl, _⟩ := h; exact ⟨rfl, rfl⟩)
      | (obtain ⟨_, _, _, _, _, _, _, _, rfl, _⟩ := h; exact ⟨rfl, rfl⟩)
      | (obtain ⟨_, _, _, _, _, _, _, _, _, rfl, _⟩ := h; exact ⟨rfl, rfl⟩)
      | (obtain ⟨_, _, _, _, _, _, _, _, _, _, rfl, _⟩ := h; exact ⟨rfl, rfl⟩)
      | (obtain ⟨_, _, _, _, _, _, _, _, _, _, _, rfl, _⟩ := h; exact ⟨rfl, rfl⟩)
  · obtain ⟨rs, k, rfl, hr, q0⟩ := h
    have q := fun (n : Nd) (k' : Nat) (h : NBd n) (hn : N25 n.rs) => q0 n k' ⟨h, hn⟩
    walk_at "go"
    refine ⟨rs, k, rfl, ?_⟩
    have hk := getD_rg hr k
    revert hk
    generalize rs.getD k 0 = kd
    intro hk
    walk_at "au"
    · exact q ⟨none, [], none⟩ (k + 1) ⟨nok_none, (fun s h => by cases h), by show 0 ≤ 10; decide, (fun s h => by cases h), (fun v h => by cases h)⟩ (fun p h => by cases h)
    refine ⟨rs, k + 1, rfl, ?_⟩
    have hs := getD_rg hr (k + 1)
    revert hs
    generalize rs.getD (k + 1) 0 = sd
    intro hs
    walk_at "go"
    refine ⟨fun env => ∃ s : Int, env = [some (.sh (.lst (pI rs))), some (.ol [.int ((k + 1 + 1 : Nat) : Int)]), some (.sh (.int kd)), some (.sh (.int s)), none, none, none, none, none, none] ∧ 0 ≤ s ∧ s ≤ 10 ^ 30 + 10, ?_, ?_⟩
    · walk_at "au"
      · rw [p30]
        exact ⟨_, rfl, by omega, by omega⟩
      · exact ⟨_, rfl, by omega, by omega⟩
    rintro _ ⟨s, rfl, hs0, hs1⟩
    walk_at "go"
    refine ⟨rs, k + 2, rfl, ?_⟩
    have he := getD_rg hr (k + 2)
    revert he
    generalize rs.getD (k + 2) 0 = ed
    intro he
    walk_at "go"
    refine ⟨rs, k + 3, rfl, ?_⟩
    have hm := getD_rg hr (k + 3)
    revert hm
    generalize rs.getD (k + 3) 0 = md
    intro hm
    walk_at "go"
    refine ⟨fun i env => ∃ (ps : List Pr) (top edge : Int) (k' : Nat) (u1 u2 : Option D), env = [some (.sh (.lst (pI rs))), some (.ol [.int (k' : Int)]), some (.sh (.int kd)), some (.sh (.int s)), some (.ol (pRs ps)), some (.sh (.int top)), some (.sh (.int edge)), u1, u2, none] ∧ Gw i s ps top edge,
      ⟨[], s, ed % 6, _, none, none, rfl, trivial, fun p h => absurd h List.not_mem_nil, rfl, by simp [wsum], by simp [wsum], by omega, by omega⟩, fun i p e hp hI => ?_, fun e hI => ?_⟩
    · obtain ⟨ps, top, edge, k', u1, u2, rfl, g⟩ := hI
      obtain ⟨hi, rfl⟩ := rngP_get hp
      have hi' : i < 6 := by omega
      have hlen := g.len
      walk_at "go"
      refine ⟨rs, k', rfl, ?_⟩
      have hw := getD_rg hr k'
      revert hw
      generalize rs.getD k' 0 = wd
      intro hw
      walk_at "go"
      refine ⟨fun env => ∃ w : Int, env = [some (.sh (.lst (pI rs))), some (.ol [.int ((k' + 1 : Nat) : Int)]), some (.sh (.int kd)), some (.sh (.int s)), some (.ol (pRs ps)), some (.sh (.int top)), some (.sh (.int edge)), some (.sh (.int (0 + (i : Int)))), some (.sh (.int w)), none] ∧ 1 ≤ w ∧ w ≤ 600000000000000000000, ?_, ?_⟩
      · walk_at "au"
        · refine ⟨cmul_of 100 100 ⟨by omega, by omega⟩ (by decide +kernel), ?_⟩
          walk_at "go"
          rw [p20]
          exact ⟨_, rfl, by omega, by omega⟩
        · exact ⟨_, rfl, by omega, by omega⟩
      · rintro _ ⟨w, rfl, hw0, hw1⟩
        have el : (pRs ps).length = i := by rw [List.length_map, hlen]
        walk_at "go"
        refine ⟨rs, k' + 1, rfl, ?_⟩
        have hd := getD_rg hr (k' + 1)
        revert hd
        generalize rs.getD (k' + 1) 0 = dd
        intro hd
        walk_at "go"
        have e1 : pRs ps ++ [P.tup [P.int edge, P.int (edge + w)]] = pRs (ps ++ [(edge, some (edge + w))]) := by rw [pRs, pRs, List.map_append]; rfl
        have g2 := g.step (w := w) (d := 1 + dd % 6) hw0 hw1 (by omega) (by omega)
        rw [show edge + w + (1 + dd % 6) = edge + w + 1 + dd % 6 by omega] at g2
        exact ⟨ps ++ [(edge, some (edge + w))], top + w, edge + w + 1 + dd % 6, k' + 2, _, _, by rw [← e1]; rfl, g2⟩
    · obtain ⟨ps, top, edge, k', u1, u2, rfl, g⟩ := hI
      rw [rngP_len] at g
      have hlen := g.len
      have hl10 : ps.length ≤ 6 := by omega
      have el : (pRs ps).length = ps.length := List.length_map _
      have hcl : ∀ p ∈ ps, ∃ h, p.2 = some h := fun p hp => by obtain ⟨h, e, _⟩ := g.cl p hp; exact ⟨h, e⟩
      have hle : ∀ p ∈ ps, ∀ h, p.2 = some h → p.1 ≤ h := fun p hp h e => by obtain ⟨h', e', _, h5, _⟩ := g.cl p hp; rw [e] at e'; cases e'; exact h5
      have hnr : N25 ps := fun p hp => by
        obtain ⟨h', e', h4, h5, _⟩ := g.cl p hp
        have := g.e1
        exact ⟨by omega, fun h e => by rw [e'] at e; cases e; omega⟩
      have hM : ∀ p ∈ ps, p.1 ≤ 10 ^ 25 := fun p hp => by obtain ⟨h', e', h4, h5, _⟩ := g.cl p hp; have := g.e1; omega
      have hw0 := g.w
      have hwn := NM.wsum_nn hle
      have hb := NM.bndF_le (M := 10 ^ 25) (by decide) hs0 hM hle
      have hbd : bndF s ps + 1 ≤ 10 ^ 40 := by omega
      have htop := g.top
      rcases NM.snoc_cases ps with rfl | ⟨pre, ⟨lo, hi⟩, rfl⟩
      · walk_at "au"
        all_goals try (exfalso; simp at *; done)
        · refine ⟨rs, k', rfl, ?_⟩
          have hd := getD_rg hr k'
          revert hd
          generalize rs.getD k' 0 = dd
          intro hd
          walk_at "au"
          exact q ⟨some s, [], some (top + dd % 5)⟩ (k' + 1) ⟨⟨(fun v h => by cases h; exact hs0), trivial, (fun h => by cases h), (fun v h => by cases h; exact ⟨s, rfl, not_opn_nil, by show s + wsum [] ≤ _; rw [htop]; omega⟩), by show 0 ≤ 1000; decide⟩, (fun v h => by cases h; exact hbd), (by show 0 ≤ 10; decide), (fun v h => by cases h; show s ≤ 10 ^ 31; omega), (fun v h => by cases h; omega)⟩ (fun p h => by cases h)
        · exact q ⟨some s, [], none⟩ k' ⟨nok_rest (rs := []) trivial (by show 0 ≤ 1000; decide) hs0, (fun v h => by cases h; exact hbd), (by show 0 ≤ 10; decide), (fun v h => by cases h; show s ≤ 10 ^ 31; omega), (fun v h => by cases h)⟩ (fun p h => by cases h)
      · have ep : pRs (pre ++ [(lo, hi)]) = pRs pre ++ [prP (lo, hi)] := by rw [pRs, List.map_append]; rfl
        have nk := NOk.mk (n := ⟨some s, pre ++ [(lo, hi)], none⟩) (fun v h => by cases h; exact hs0) g.asc (fun h => by cases h) (fun v h => by cases h) (by show (pre ++ [(lo, hi)]).length ≤ 1000; omega)
        have hhi : ∃ h, hi = some h := hcl (lo, hi) (by simp)
        obtain ⟨hg, rfl⟩ := hhi
        have hwp : wsum pre ≤ wsum (pre ++ [(lo, some hg)]) := by
          rw [NM.wsum_snoc]
          have := hle (lo, some hg) (by simp) hg rfl
          simp only at this ⊢
          omega
        walk_at "au"
        · refine ⟨prP (lo, some hg), by rw [ep]; exact atI_last _ _, ?_⟩
          rw [ep, cut_init]
          have elp : (pRs pre).length = pre.length := List.length_map _
          have elq : pre.length ≤ 6 := by rw [List.length_append] at hl10; omega
          walk_at "au"
          have e2 : pRs pre ++ [P.tup [P.int lo, P.non]] = pRs (pre ++ [(lo, none)]) := by rw [pRs, pRs, List.map_append]; rfl
          have hM2 : ∀ p ∈ pre ++ [(lo, none)], p.1 ≤ (10 : Int) ^ 25 := fun p hp => by
            rcases List.mem_append.mp hp with hp | hp
            · exact hM p (by simp [hp])
            · rw [List.mem_singleton.mp hp]; exact hM (lo, some hg) (by simp)
          have hnr2 : N25 (pre ++ [(lo, none)]) := fun p hp => by
            rcases List.mem_append.mp hp with hp | hp
            · exact hnr p (by simp [hp])
            · rw [List.mem_singleton.mp hp]; exact ⟨(hnr (lo, some hg) (by simp)).1, fun h e => by cases e⟩
          have hle2 : ∀ p ∈ pre ++ [(lo, (none : Option Int))], ∀ h, p.2 = some h → p.1 ≤ h := fun p hp => by
            rcases List.mem_append.mp hp with hp | hp
            · exact hle p (by simp [hp])
            · rw [List.mem_singleton.mp hp]; intro h e; cases e
          have hb2 := NM.bndF_le (M := 10 ^ 25) (by decide) hs0 hM2 hle2
          rw [NM.wsum_snoc] at hb2
          simp only at hb2
          have q2 := q ⟨some s, pre ++ [(lo, none)], none⟩ k' ⟨nok_rest g.asc.opened (by rw [List.length_append]; show pre.length + 1 ≤ 1000; omega) hs0, (fun v h => by cases h; show bndF s (pre ++ [(lo, none)]) + 1 ≤ 10 ^ 40; omega), (by show (pre ++ [(lo, none)]).length ≤ 10; rw [List.length_append]; show pre.length + 1 ≤ 10; omega), (fun v h => by cases h; show s ≤ 10 ^ 31; omega), (fun v h => by cases h)⟩ hnr2
          simp only [← e2] at q2
          exact q2
        · refine ⟨rs, k', rfl, ?_⟩
          have hd := getD_rg hr k'
          revert hd
          generalize rs.getD k' 0 = dd
          intro hd
          walk_at "au"
          exact q ⟨some s, pre ++ [(lo, some hg)], some (top + dd % 5)⟩ (k' + 1) ⟨⟨(fun v h => by cases h; exact hs0), g.asc, (fun h => by cases h), (fun v h => by cases h; exact ⟨s, rfl, NM.not_opn hcl, by show s + wsum (pre ++ [(lo, some hg)]) ≤ _; omega⟩), nk.len⟩, (fun v h => by cases h; exact hbd), (by show (pre ++ [(lo, some hg)]).length ≤ 10; omega), (fun v h => by cases h; show s ≤ 10 ^ 31; omega), (fun v h => by cases h; omega)⟩ hnr
        · exact q ⟨some s, pre ++ [(lo, some hg)], none⟩ k' ⟨nk, (fun v h => by cases h; exact hbd), (by show (pre ++ [(lo, some hg)]).length ≤ 10; omega), (fun v h => by cases h; show s ≤ 10 ^ 31; omega), (fun v h => by cases h)⟩ hnr
        all_goals (exfalso; simp at *; omega)
/-! ### _law_alike -/
abbrev s__law_alike : Stmt := topS 33
theorem sc__law_alike : FnScope ["_law_one", "_law_other", "_law_same"] ["_law_one", "_law_other"] (defScope s__law_alike) := ⟨rfl, rfl, rfl, by decide +kernel, rfl, by decide +kernel, by decide +kernel⟩
def fs__law_alike (cNeed : Addr) : FSp := fun ds Q => ∃ (n : Nd), ds = [.sh (ndP cNeed n), .sh (ndP cNeed n)] ∧ Q (.sh (.bl true)) ds
theorem ok__law_alike {Pg : Program} {w : World} {K : PySem.W.Frag} {mg : Str → Option Value} {base : Heap} {a : Addr} {fd : FuncData} (F : L2.Fun K "_law_alike" "_law_alike" s__law_alike a fd)
    (m_isinstance : mg "isinstance" = none)
    {cNeed : Addr} (T : Txt K mg cNeed)
    {a_Need_m___eq__ : Addr} {d_Need_m___eq__ : FuncData} (C_Need_m___eq__ : CalleeP Pg w K mg base 1 cNeed "__eq__" a_Need_m___eq__ d_Need_m___eq__ ["self", "other"] (fs_Need_m___eq__ cNeed)) :
    FnOk Pg w K mg base CX0 2 a fd ["_law_one", "_law_other"] (spD K (fs__law_alike cNeed)) := by
  have n_Need_start : ClsA K cNeed "start" := ⟨T.cl_Need, T.n_Need_start⟩
  have n_Need_rises : ClsA K cNeed "rises" := ⟨T.cl_Need, T.n_Need_rises⟩
  have n_Need_never : ClsA K cNeed "never" := ⟨T.cl_Need, T.n_Need_never⟩
  have n_Need__values : ClsA K cNeed "_values" := ⟨T.cl_Need, T.n_Need__values⟩
  have is_Need := T.is_Need
  refine Fun.okD [] F sc__law_alike (fun ds QD h => ?_) (fun cdv A outer s H E hr => ⟨_, _, (dss_cons (ds_if (DW.pt (dw_or (dt_not (dt_tru (de_cb (fun h => pe_callB call_isO (by rfl) m_isinstance (by decide +kernel) h) cs_isiO (da_cons (de_v 0 (pv 0)) (da_cons (de_glob (v := .ref cNeed) (p := .ob cNeed) (pe_glob (by rfl) T.mg_Need rfl) (fun _ => rfl)) da_nil))))) (dw_or1 (dt_not (dt_tru (de_cb (fun h => pe_callB call_isO (by rfl) m_isinstance (by decide +kernel) h) cs_isiO (da_cons (de_v 1 (pv 1)) (da_cons (de_glob (v := .ref cNeed) (p := .ob cNeed) (pe_glob (by rfl) T.mg_Need rfl) (fun _ => rfl)) da_nil))))))))
    (dss_one (ds_ret de_bl))
    dss_nil)
    (dss_cons (ds_asg (de_and (de_cmp (op_eqD hr.units) os_eqD (de_fld (de_v 0 (pv 0))) (de_fld (de_v 1 (pv 1))) (nomark _)) (de_and (de_cmp (op_eqD hr.units) os_eqD (de_fld (de_v 0 (pv 0))) (de_fld (de_v 1 (pv 1))) (nomark _)) (de_one (de_cmp (op_eqD hr.units) os_eqD (de_fld (de_v 0 (pv 0))) (de_fld (de_v 1 (pv 1))) (nomark _))))) (dg_name (pg_name (i := 2) sc__law_alike.nd rfl (by first | exact .inl rfl | exact .inr rfl))))
    (dss_one (ds_ret (de_and (de_v 2 (pv 2)) (de_one (de_cmp (op_ownE (by intro _ _; rfl) C_Need_m___eq__.o (C_Need_m___eq__.ok.raw C_Need_m___eq__.b .nil) T.nf_Need hr pass0) os_ownB (de_v 0 (pv 0)) (de_v 1 (pv 1)) (nomark _)))))))), fun ds QD h => ?_⟩)
  · first
      | (obtain ⟨rfl, _⟩ := h; exact ⟨rfl, rfl⟩)
      | (obtain ⟨_, rfl, _⟩ := h; exact ⟨rfl, rfl⟩)
      | (obtain ⟨_, _, rfl, _⟩ := h; exact ⟨rfl, rfl⟩)
      | (obtain ⟨_, _, _, rfl, _⟩ := h; exact ⟨rfl, rfl⟩)
      | (obtain ⟨_, _, _, _, rfl, _⟩ := h; exact ⟨rfl, rfl⟩)
      | (obtain ⟨_, _, _, _, _, rfl, _⟩ := h; exact ⟨rfl, rfl⟩)
      | (obtain ⟨_, _, _, _, _, _, rfl, _⟩ := h; exact ⟨rfl, rfl⟩)
      | (obtain ⟨_, _, _, _, _, _, _, rfl, _⟩ := h; exact ⟨rfl, rfl⟩)
      | (obtain ⟨_, _, _, _, _, _, _, _, rfl, _⟩ := h; exact ⟨rfl, rfl⟩)
      | (obtain ⟨_, _, _, _, _, _, _, _, _, rfl, _⟩ := h; exact ⟨rfl, rfl⟩)
      | (obtain ⟨_, _, _, _, _, _, _, _, _, _, rfl, _⟩ := h; exact ⟨rfl, rfl⟩)
      | (obtain ⟨_, _, _, _, _, _, _, _, _, _, _, rfl, _⟩ := h; exact ⟨rfl, rfl⟩)
  · obtain ⟨n, rfl, q⟩ := h
    walk_at "ax"
    refine ⟨(shp_oI n.s).ok, (shp_oI n.s).ok, ?_⟩
    simp only [(shp_oI n.s).refl]
    walk_at "ax"
    refine ⟨(shp_rs n.rs).ok, (shp_rs n.rs).ok, ?_⟩
    simp only [(shp_rs n.rs).refl]
    walk_at "ax"
    refine ⟨(shp_oI n.nv).ok, (shp_oI n.nv).ok, ?_⟩
    simp only [(shp_oI n.nv).refl]
    walk_at "ax"
    refine ⟨n, n, rfl, ?_⟩
    rw [eqN_iff.mpr rfl]
    walk_at "ax"
    exact q
/-! ### Need.__init__ -/
abbrev s_Need_m___init__ : Stmt := inClass (topS 26) 0
theorem sc_Need_m___init__ : FnScope ["self", "start", "rises", "never", "low", "high"] ["self", "start", "rises", "never"] (defScope s_Need_m___init__) := ⟨rfl, rfl, rfl, by decide +kernel, rfl, by decide +kernel, by decide +kernel⟩
def fs_Need_m___init__ (cNeed : Addr) : FSp := fun ds Q => ∃ (t : Bool) (n : Nd), ds = [.oi cNeed [], .sh (oI n.s), .sh (sq t (pRs n.rs)), .sh (oI n.nv)] ∧ NOk n ∧
  Q (.sh .non) [.oi cNeed [("start", oI n.s), ("rises", .tup (pRs n.rs)), ("never", oI n.nv), ("_values", .tup (valsP n.s n.rs))], .sh (oI n.s), .sh (sq t (pRs n.rs)), .sh (oI n.nv)]
theorem ok_Need_m___init__ {Pg : Program} {w : World} {K : PySem.W.Frag} {mg : Str → Option Value} {base : Heap} {a : Addr} {fd : FuncData} (F : L2.Fun K "__init__" "Need.__init__" s_Need_m___init__ a fd)
    (m_tuple : mg "tuple" = none)
    {cNeed : Addr} (T : Txt K mg cNeed)
    {a_check_need : Addr} {d_check_need : FuncData} (C_check_need : Callee Pg w K mg base 2 "check_need" a_check_need d_check_need ["start", "rises", "never"] (fs_check_need cNeed))
    {a_values_at_lows : Addr} {d_values_at_lows : FuncData} (C_values_at_lows : Callee Pg w K mg base 1 "values_at_lows" a_values_at_lows d_values_at_lows ["start", "rises"] (fs_values_at_lows cNeed)) :
    FnOk Pg w K mg base CX0 3 a fd ["self", "start", "rises", "never"] (spD K (fs_Need_m___init__ cNeed)) := by
  have n_Need_start : ClsA K cNeed "start" := ⟨T.cl_Need, T.n_Need_start⟩
  have n_Need_rises : ClsA K cNeed "rises" := ⟨T.cl_Need, T.n_Need_rises⟩
  have n_Need_never : ClsA K cNeed "never" := ⟨T.cl_Need, T.n_Need_never⟩
  have n_Need__values : ClsA K cNeed "_values" := ⟨T.cl_Need, T.n_Need__values⟩
  have is_Need := T.is_Need
  refine Fun.okD [0] F sc_Need_m___init__ (fun ds QD h => ?_) (fun cdv A outer s H E hr => ⟨_, _, (dss_cons (ds_drop (de_o (do_callP (fun h => pe_call C_check_need.ok hr (by rfl) C_check_need.g C_check_need.kp C_check_need.b .nil pass0 h) (da_cons (de_v 1 (pv 1)) (da_cons (de_v 2 (pv 2)) (da_cons (de_v 3 (pv 3)) da_nil))))))
    (dss_cons (ds_setN (pv 0) (de_v 1 (pv 1)))
    (dss_cons (ds_setN (pv 0) (de_cb (fun h => pe_callTy call_tuple_of (by rfl) m_tuple (by decide +kernel) h) cs_tuple (da_cons (de_o (do_lcP (own := [("low", 4), ("high", 5)]) (n := 6) rfl sc_Need_m___init__.nd (di_seq (de_v 2 (pv 2))) (blkOk_by (N := ["self", "start", "rises", "never", "low", "high"]) (sc := defScope s_Need_m___init__) (own := [("low", 4), ("high", 5)]) (by decide +kernel)) (fun _ _ _ _ _ => (dg_seq (fun h => pg_tup rfl h) (fun h => pg_unl rfl h) (dgs_cons (dg_name (pg_name (i := 4) sc_Need_m___init__.nd rfl (by first | exact .inl rfl | exact .inr rfl))) (dgs_cons (dg_name (pg_name (i := 5) sc_Need_m___init__.nd rfl (by first | exact .inl rfl | exact .inr rfl))) dgs_nil)))) (fun _ _ _ _ _ => dts_nil) (fun _ _ _ _ _ => (de_tup (da_cons (de_v 4 (pv 4)) (da_cons (de_v 5 (pv 5)) da_nil)))))) da_nil)))
    (dss_cons (ds_setN (pv 0) (de_v 3 (pv 3)))
    (dss_one (ds_setN (pv 0) (de_ifExp (dt_cmp op_isN os_isN (de_v 1 (pv 1)) de_non (nomark _)) (de_tup da_nil) (de_o (do_callP (fun h => pe_call C_values_at_lows.ok (hr.mono (by decide)) (by rfl) C_values_at_lows.g C_values_at_lows.kp C_values_at_lows.b .nil pass0 h) (da_cons (de_v 1 (pv 1)) (da_cons (de_fldO 0 (pv 0)) da_nil))))))))))), fun ds QD h => ?_⟩)
  · first
      | (obtain ⟨rfl, _⟩ := h; exact ⟨rfl, rfl⟩)
      | (obtain ⟨_, rfl, _⟩ := h; exact ⟨rfl, rfl⟩)
      | (obtain ⟨_, _, rfl, _⟩ := h; exact ⟨rfl, rfl⟩)
      | (obtain ⟨_, _, _, rfl, _⟩ := h; exact ⟨rfl, rfl⟩)
      | (obtain ⟨_, _, _, _, rfl, _⟩ := h; exact ⟨rfl, rfl⟩)
      | (obtain ⟨_, _, _, _, _, rfl, _⟩ := h; exact ⟨rfl, rfl⟩)
      | (obtain ⟨_, _, _, _, _, _, rfl, _⟩ := h; exact ⟨rfl, rfl⟩)
      | (obtain ⟨_, _, _, _, _, _, _, rfl, _⟩ := h; exact ⟨rfl, rfl⟩)
      | (obtain ⟨_, _, _, _, _, _, _, _, rfl, _⟩ := h; exact ⟨rfl, rfl⟩)
      | (obtain ⟨_, _, _, _, _, _, _, _, _, rfl, _⟩ := h; exact ⟨rfl, rfl⟩)
      | (obtain ⟨_, _, _, _, _, _, _, _, _, _, rfl, _⟩ := h; exact ⟨rfl, rfl⟩)
      | (obtain ⟨_, _, _, _, _, _, _, _, _, _, _, rfl, _⟩ := h; exact ⟨rfl, rfl⟩)
  · obtain ⟨t, ⟨s, rs, nv⟩, rfl, ok, q⟩ := h
    have hl := ok.len
    simp only at hl q
    walk_at "au"
    refine ⟨t, ⟨s, rs, nv⟩, rfl, ok, ?_⟩
    walk_at "au"
    rw [pseq_sq]
    walk_at "au"
    refine ⟨fun j acc => acc = pRs (rs.take j), rfl, fun j p acc hp hI => ?_, fun acc hI => ?_⟩
    · subst hI
      obtain ⟨⟨lo, hi⟩, hr, rfl⟩ := map_get hp
      have hj : j < rs.length := lt_of_get hr
      have el : (pRs (rs.take j)).length = j := by rw [List.length_map, List.length_take]; omega
      walk_at "au"
      show pRs (rs.take j) ++ [prP (lo, hi)] = pRs (rs.take (j + 1))
      rw [NM.take_snoc hr, pRs, pRs, List.map_append]; rfl
    · subst hI
      rw [show (rs.map prP).length = rs.length from List.length_map _, List.take_length]
      cases s with
      | none =>
        walk_at "au"
        exact q
      | some s =>
        walk_at "au"
        refine ⟨true, s, rs, rfl, hl, ?_⟩
        walk_at "au"
        exact q
/-! ### Need._beside -/
abbrev s_Need_m__beside : Stmt := inClass (topS 26) 4
theorem sc_Need_m__beside : FnScope ["self", "other"] ["self", "other"] (defScope s_Need_m__beside) := ⟨rfl, rfl, rfl, by decide +kernel, rfl, by decide +kernel, by decide +kernel⟩
def fs_Need_m__beside (cNeed : Addr) : FSp := fun ds Q => ∃ (n1 n2 : Nd) (s1 s2 : Int), ds = [.sh (ndP cNeed n1), .sh (ndP cNeed n2)] ∧ (n1.s = some s1 ∧ n2.s = some s2 ∧ Asc (-1) n1.rs ∧ Asc (-1) n2.rs ∧ n1.rs.length ≤ 200 ∧ n2.rs.length ≤ 200 ∧ Near n1.rs ∧ Near n2.rs) ∧ ∀ cs, Cuts cs n1.rs n2.rs → Q (.sh (.lst (rowsP s1 n1.rs s2 n2.rs cs))) ds
theorem ok_Need_m__beside {Pg : Program} {w : World} {K : PySem.W.Frag} {mg : Str → Option Value} {base : Heap} {a : Addr} {fd : FuncData} (F : L2.Fun K "_beside" "Need._beside" s_Need_m__beside a fd)
    {cNeed : Addr} (T : Txt K mg cNeed)
    {a_side_by_side : Addr} {d_side_by_side : FuncData} (C_side_by_side : Callee Pg w K mg base 2 "side_by_side" a_side_by_side d_side_by_side ["one_start", "one", "other_start", "other"] (fs_side_by_side cNeed)) :
    FnOk Pg w K mg base CX0 3 a fd ["self", "other"] (spD K (fs_Need_m__beside cNeed)) := by
  have n_Need_start : ClsA K cNeed "start" := ⟨T.cl_Need, T.n_Need_start⟩
  have n_Need_rises : ClsA K cNeed "rises" := ⟨T.cl_Need, T.n_Need_rises⟩
  have n_Need_never : ClsA K cNeed "never" := ⟨T.cl_Need, T.n_Need_never⟩
  have n_Need__values : ClsA K cNeed "_values" := ⟨T.cl_Need, T.n_Need__values⟩
  have is_Need := T.is_Need
  refine Fun.okD [] F sc_Need_m__beside (fun ds QD h => ?_) (fun cdv A outer s H E hr => ⟨_, _, (dss_one (ds_ret (de_o (do_callP (fun h => pe_call C_side_by_side.ok hr (by rfl) C_side_by_side.g C_side_by_side.kp C_side_by_side.b .nil pass0 h) (da_cons (de_fld (de_v 0 (pv 0))) (da_cons (de_fld (de_v 0 (pv 0))) (da_cons (de_fld (de_v 1 (pv 1))) (da_cons (de_fld (de_v 1 (pv 1))) da_nil)))))))), fun ds QD h => ?_⟩)
  · first
      | (obtain ⟨rfl, _⟩ := h; exact ⟨rfl, rfl⟩)
      | (obtain ⟨_, rfl, _⟩ := h; exact ⟨rfl, rfl⟩)
      | (obtain ⟨_, _, rfl, _⟩ := h; exact ⟨rfl, rfl⟩)
      | (obtain ⟨_, _, _, rfl, _⟩ := h; exact ⟨rfl, rfl⟩)
      | (obtain ⟨_, _, _, _, rfl, _⟩ := h; exact ⟨rfl, rfl⟩)
      | (obtain ⟨_, _, _, _, _, rfl, _⟩ := h; exact ⟨rfl, rfl⟩)
      | (obtain ⟨_, _, _, _, _, _, rfl, _⟩ := h; exact ⟨rfl, rfl⟩)
      | (obtain ⟨_, _, _, _, _, _, _, rfl, _⟩ := h; exact ⟨rfl, rfl⟩)
      | (obtain ⟨_, _, _, _, _, _, _, _, rfl, _⟩ := h; exact ⟨rfl, rfl⟩)
      | (obtain ⟨_, _, _, _, _, _, _, _, _, rfl, _⟩ := h; exact ⟨rfl, rfl⟩)
      | (obtain ⟨_, _, _, _, _, _, _, _, _, _, rfl, _⟩ := h; exact ⟨rfl, rfl⟩)
      | (obtain ⟨_, _, _, _, _, _, _, _, _, _, _, rfl, _⟩ := h; exact ⟨rfl, rfl⟩)
  · obtain ⟨⟨o1, r1, v1⟩, ⟨o2, r2, v2⟩, s1, s2, rfl, ⟨h1, h2, a1, a2, l1, l2, m1, m2⟩, q⟩ := h
    simp only at h1 h2 a1 a2 l1 l2 m1 m2
    subst h1 h2
    walk_at "ax"
    refine ⟨s1, s2, r1, r2, rfl, ⟨a1, a2, by omega, by omega, m1, m2⟩, fun cs hC => ?_⟩
    walk_at "ax"
    exact q cs hC
/-! ### Need._value -/
abbrev s_Need_m__value : Stmt := inClass (topS 26) 1
theorem sc_Need_m__value : FnScope ["self", "k"] ["self", "k"] (defScope s_Need_m__value) := ⟨rfl, rfl, rfl, by decide +kernel, rfl, by decide +kernel, by decide +kernel⟩
def fs_Need_m__value (cNeed : Addr) : FSp := fun ds Q => ∃ (n : Nd) (k : Option Int), ds = [.sh (ndP cNeed n), .sh (oI k)] ∧ NOk n ∧ Q (.sh (oI (nval n k))) ds
theorem ok_Need_m__value {Pg : Program} {w : World} {K : PySem.W.Frag} {mg : Str → Option Value} {base : Heap} {a : Addr} {fd : FuncData} (F : L2.Fun K "_value" "Need._value" s_Need_m__value a fd)
    {cNeed : Addr} (T : Txt K mg cNeed)
    {a_value_at : Addr} {d_value_at : FuncData} (C_value_at : Callee Pg w K mg base 2 "value_at" a_value_at d_value_at ["start", "rises", "values", "k"] (fs_value_at cNeed)) :
    FnOk Pg w K mg base CX0 3 a fd ["self", "k"] (spD K (fs_Need_m__value cNeed)) := by
  have n_Need_start : ClsA K cNeed "start" := ⟨T.cl_Need, T.n_Need_start⟩
  have n_Need_rises : ClsA K cNeed "rises" := ⟨T.cl_Need, T.n_Need_rises⟩
  have n_Need_never : ClsA K cNeed "never" := ⟨T.cl_Need, T.n_Need_never⟩
  have n_Need__values : ClsA K cNeed "_values" := ⟨T.cl_Need, T.n_Need__values⟩
  have is_Need := T.is_Need
  refine Fun.okD [] F sc_Need_m__value (fun ds QD h => ?_) (fun cdv A outer s H E hr => ⟨_, _, (dss_cons (ds_if (DW.pt (dw_or (dt_cmp op_isN os_isN (de_v 1 (pv 1)) de_non (nomark _)) (dw_or1 (dt_cmp op_isN os_isN (de_fld (de_v 0 (pv 0))) de_non (nomark _)))))
    (dss_one (ds_ret (de_fld (de_v 0 (pv 0)))))
    dss_nil)
    (dss_one (ds_ret (de_o (do_callP (fun h => pe_call C_value_at.ok hr (by rfl) C_value_at.g C_value_at.kp C_value_at.b .nil pass0 h) (da_cons (de_fld (de_v 0 (pv 0))) (da_cons (de_fld (de_v 0 (pv 0))) (da_cons (de_fld (de_v 0 (pv 0))) (da_cons (de_v 1 (pv 1)) da_nil))))))))), fun ds QD h => ?_⟩)
  · first
      | (obtain ⟨rfl, _⟩ := h; exact ⟨rfl, rfl⟩)
      | (obtain ⟨_, rfl, _⟩ := h; exact ⟨rfl, rfl⟩)
      | (obtain ⟨_, _, rfl, _⟩ := h; exact ⟨rfl, rfl⟩)
      | (obtain ⟨_, _, _, rfl, _⟩ := h; exact ⟨rfl, rfl⟩)
      | (obtain ⟨_, _, _, _, rfl, _⟩ := h; exact ⟨rfl, rfl⟩)
      | (obtain ⟨_, _, _, _, _, rfl, _⟩ := h; exact ⟨rfl, rfl⟩)
      | (obtain ⟨_, _, _, _, _, _, rfl, _⟩ := h; exact ⟨rfl, rfl⟩)
      | (obtain ⟨_, _, _, _, _, _, _, rfl, _⟩ := h; exact ⟨rfl, rfl⟩)
      | (obtain ⟨_, _, _, _, _, _, _, _, rfl, _⟩ := h; exact ⟨rfl, rfl⟩)
      | (obtain ⟨_, _, _, _, _, _, _, _, _, rfl, _⟩ := h; exact ⟨rfl, rfl⟩)
      | (obtain ⟨_, _, _, _, _, _, _, _, _, _, rfl, _⟩ := h; exact ⟨rfl, rfl⟩)
      | (obtain ⟨_, _, _, _, _, _, _, _, _, _, _, rfl, _⟩ := h; exact ⟨rfl, rfl⟩)
  · obtain ⟨⟨s, rs, nv⟩, k, rfl, ok, q⟩ := h
    have hl := ok.len
    have ha := ok.asc
    simp only at hl ha
    cases k with
    | none =>
      have e : nval ⟨s, rs, nv⟩ none = nv := by unfold nval; cases s <;> rfl
      rw [e] at q
      walk_at "au"
      exact q
    | some k =>
      cases s with
      | none =>
        walk_at "au"
        exact q
      | some s =>
        walk_at "au"
        refine ⟨s, rs, k, rfl, ha, hl, ?_⟩
        walk_at "au"
        exact q
/-! ### Need.excess -/
abbrev s_Need_m_excess : Stmt := inClass (topS 26) 14
theorem sc_Need_m_excess : FnScope ["self", "other", "k"] ["self", "other"] (defScope s_Need_m_excess) := ⟨rfl, rfl, rfl, by decide +kernel, rfl, by decide +kernel, by decide +kernel⟩
def fs_Need_m_excess (cNeed : Addr) : FSp := fun ds Q => ∃ (n1 n2 : Nd), ds = [.sh (ndP cNeed n1), .sh (ndP cNeed n2)] ∧ (NOk n1 ∧ NOk n2 ∧ n1.rs.length ≤ 200 ∧ n2.rs.length ≤ 200 ∧ Near n1.rs ∧ Near n2.rs) ∧ ∀ o, Exc n1 n2 o → Q (.sh (exP o)) ds
theorem ok_Need_m_excess {Pg : Program} {w : World} {K : PySem.W.Frag} {mg : Str → Option Value} {base : Heap} {a : Addr} {fd : FuncData} (F : L2.Fun K "excess" "Need.excess" s_Need_m_excess a fd)
    {cNeed : Addr} (T : Txt K mg cNeed)
    {a_first_above : Addr} {d_first_above : FuncData} (C_first_above : Callee Pg w K mg base 1 "first_above" a_first_above d_first_above ["pieces"] (fs_first_above cNeed))
    {a_Need_m__beside : Addr} {d_Need_m__beside : FuncData} (C_Need_m__beside : CalleeM Pg w K mg base 3 cNeed "_beside" a_Need_m__beside d_Need_m__beside ["self", "other"] (fs_Need_m__beside cNeed))
    {a_exceeds : Addr} {d_exceeds : FuncData} (C_exceeds : Callee Pg w K mg base 1 "exceeds" a_exceeds d_exceeds ["one", "other"] (fs_exceeds cNeed)) :
    FnOk Pg w K mg base CX0 4 a fd ["self", "other"] (spD K (fs_Need_m_excess cNeed)) := by
  have n_Need_start : ClsA K cNeed "start" := ⟨T.cl_Need, T.n_Need_start⟩
  have n_Need_rises : ClsA K cNeed "rises" := ⟨T.cl_Need, T.n_Need_rises⟩
  have n_Need_never : ClsA K cNeed "never" := ⟨T.cl_Need, T.n_Need_never⟩
  have n_Need__values : ClsA K cNeed "_values" := ⟨T.cl_Need, T.n_Need__values⟩
  have is_Need := T.is_Need
  refine Fun.okD [] F sc_Need_m_excess (fun ds QD h => ?_) (fun cdv A outer s H E hr => ⟨_, _, (dss_cons (ds_if (dt_cmp op_isN os_isN (de_fld (de_v 0 (pv 0))) de_non (nomark _))
    (dss_one (ds_ret (de_ifExp (dt_cmp op_isN os_isN (de_fld (de_v 1 (pv 1))) de_non (nomark _)) (de_tup da_nil) (de_tup (da_cons de_int da_nil)))))
    dss_nil)
    (dss_cons (ds_if (dt_cmp op_isN os_isN (de_fld (de_v 1 (pv 1))) de_non (nomark _))
    (dss_one (ds_ret (de_tup da_nil)))
    dss_nil)
    (dss_cons (ds_asg (de_o (do_callP (fun h => pe_call C_first_above.ok (hr.mono (by decide)) (by rfl) C_first_above.g C_first_above.kp C_first_above.b .nil pass0 h) (da_cons (de_meth (fun ho h => pe_meth ho C_Need_m__beside.c C_Need_m__beside.m C_Need_m__beside.ok hr C_Need_m__beside.b .nil pass0 h) (de_v 0 (pv 0)) (da_cons (de_v 1 (pv 1)) da_nil)) da_nil))) (dg_name (pg_name (i := 2) sc_Need_m_excess.nd rfl (by first | exact .inl rfl | exact .inr rfl))))
    (dss_cons (ds_if (DW.pt (dw_and (dt_cmp op_isN os_isN (de_v 2 (pv 2)) de_non (nomark _)) (dw_and1 (dt_not (dt_tru (de_o (do_callP (fun h => pe_call C_exceeds.ok (hr.mono (by decide)) (by rfl) C_exceeds.g C_exceeds.kp C_exceeds.b .nil pass0 h) (da_cons (de_fld (de_v 0 (pv 0))) (da_cons (de_fld (de_v 1 (pv 1))) da_nil)))))))))
    (dss_one (ds_ret (de_tup da_nil)))
    dss_nil)
    (dss_one (ds_ret (de_tup (da_cons (de_v 2 (pv 2)) da_nil)))))))), fun ds QD h => ?_⟩)
  · first
      | (obtain ⟨rfl, _⟩ := h; exact ⟨rfl, rfl⟩)
      | (obtain ⟨_, rfl, _⟩ := h; exact ⟨rfl, rfl⟩)
      | (obtain ⟨_, _, rfl, _⟩ := h; exact ⟨rfl, rfl⟩)
      | (obtain ⟨_, _, _, rfl, _⟩ := h; exact ⟨rfl, rfl⟩)
      | (obtain ⟨_, _, _, _, rfl, _⟩ := h; exact ⟨rfl, rfl⟩)
      | (obtain ⟨_, _, _, _, _, rfl, _⟩ := h; exact ⟨rfl, rfl⟩)
      | (obtain ⟨_, _, _, _, _, _, rfl, _⟩ := h; exact ⟨rfl, rfl⟩)
      | (obtain ⟨_, _, _, _, _, _, _, rfl, _⟩ := h; exact ⟨rfl, rfl⟩)
      | (obtain ⟨_, _, _, _, _, _, _, _, rfl, _⟩ := h; exact ⟨rfl, rfl⟩)
      | (obtain ⟨_, _, _, _, _, _, _, _, _, rfl, _⟩ := h; exact ⟨rfl, rfl⟩)
      | (obtain ⟨_, _, _, _, _, _, _, _, _, _, rfl, _⟩ := h; exact ⟨rfl, rfl⟩)
      | (obtain ⟨_, _, _, _, _, _, _, _, _, _, _, rfl, _⟩ := h; exact ⟨rfl, rfl⟩)
  · obtain ⟨⟨o1, r1, v1⟩, ⟨o2, r2, v2⟩, rfl, ⟨ok1, ok2, l1, l2, m1, m2⟩, q⟩ := h
    simp only at l1 l2 m1 m2
    cases o1 with
    | none =>
      cases o2 with
      | none =>
        walk_at "ax"
        exact q none (exc_nn ok2 rfl)
      | some s2 =>
        walk_at "ax"
        exact q (some (some 0)) (exc_0 ok1 rfl (by simp))
    | some s1 =>
      cases o2 with
      | none =>
        walk_at "ax"
        exact q none (exc_nn ok2 rfl)
      | some s2 =>
        walk_at "ax"
        refine ⟨⟨some s1, r1, v1⟩, ⟨some s2, r2, v2⟩, s1, s2, rfl, ⟨rfl, rfl, ok1.asc, ok2.asc, l1, l2, m1, m2⟩, fun cs hC => ?_⟩
        walk_at "ax"
        refine ⟨s1, s2, r1, r2, cs, rfl, ⟨ok1.asc, ok2.asc, hC⟩, fun o ho => ?_⟩
        have hx := exc_of (v1 := v1) (v2 := v2) ho
        cases o with
        | some x =>
          walk_at "ax"
          exact q _ hx
        | none =>
          walk_at "ax"
          refine ⟨v1, v2, rfl, ?_⟩
          simp only at hx
          generalize excB v1 v2 = t at *
          cases t
          · walk_at "ax"
            exact q none hx
          · walk_at "ax"
            exact q (some none) hx
/-! ### Need.__and__ -/
abbrev s_Need_m___and__ : Stmt := inClass (topS 26) 6
theorem sc_Need_m___and__ : FnScope ["self", "other", "never"] ["self", "other"] (defScope s_Need_m___and__) := ⟨rfl, rfl, rfl, by decide +kernel, rfl, by decide +kernel, by decide +kernel⟩
def fs_Need_m___and__ (cNeed : Addr) : FSp := fun ds Q => ∃ (n1 n2 : Nd), ds = [.sh (ndP cNeed n1), .sh (ndP cNeed n2)] ∧ (NOk n1 ∧ NOk n2 ∧ n1.rs.length ≤ 200 ∧ n2.rs.length ≤ 200 ∧ Near n1.rs ∧ Near n2.rs) ∧ ∀ n, AndN n1 n2 n → Q (.sh (ndP cNeed n)) ds
theorem ok_Need_m___and__ {Pg : Program} {w : World} {K : PySem.W.Frag} {mg : Str → Option Value} {base : Heap} {a : Addr} {fd : FuncData} (F : L2.Fun K "__and__" "Need.__and__" s_Need_m___and__ a fd)
    (m_max : mg "max" = none)
    {cNeed : Addr} (T : Txt K mg cNeed)
    {a_Need_m___init__ : Addr} {d_Need_m___init__ : FuncData} (C_Need_m___init__ : CalleeC Pg w K mg base 3 "Need" cNeed a_Need_m___init__ d_Need_m___init__ ["self", "start", "rises", "never"] (fs_Need_m___init__ cNeed))
    {a_exceeds : Addr} {d_exceeds : FuncData} (C_exceeds : Callee Pg w K mg base 1 "exceeds" a_exceeds d_exceeds ["one", "other"] (fs_exceeds cNeed))
    {a_rises_of_greater : Addr} {d_rises_of_greater : FuncData} (C_rises_of_greater : Callee Pg w K mg base 2 "rises_of_greater" a_rises_of_greater d_rises_of_greater ["pieces"] (fs_rises_of_greater cNeed))
    {a_Need_m__beside : Addr} {d_Need_m__beside : FuncData} (C_Need_m__beside : CalleeM Pg w K mg base 3 cNeed "_beside" a_Need_m__beside d_Need_m__beside ["self", "other"] (fs_Need_m__beside cNeed)) :
    FnOk Pg w K mg base CX0 5 a fd ["self", "other"] (spD K (fs_Need_m___and__ cNeed)) := by
  have n_Need_start : ClsA K cNeed "start" := ⟨T.cl_Need, T.n_Need_start⟩
  have n_Need_rises : ClsA K cNeed "rises" := ⟨T.cl_Need, T.n_Need_rises⟩
  have n_Need_never : ClsA K cNeed "never" := ⟨T.cl_Need, T.n_Need_never⟩
  have n_Need__values : ClsA K cNeed "_values" := ⟨T.cl_Need, T.n_Need__values⟩
  have is_Need := T.is_Need
  refine Fun.okD [] F sc_Need_m___and__ (fun ds QD h => ?_) (fun cdv A outer s H E hr => ⟨_, _, (dss_cons (ds_if (DW.pt (dw_or (dt_cmp op_isN os_isN (de_fld (de_v 0 (pv 0))) de_non (nomark _)) (dw_or1 (dt_cmp op_isN os_isN (de_fld (de_v 1 (pv 1))) de_non (nomark _)))))
    (dss_one (ds_ret (de_make (fun h => pe_make C_Need_m___init__.m C_Need_m___init__.ok hr (by rfl) C_Need_m___init__.g C_Need_m___init__.b .nil pass0 h) (da_cons de_non (da_cons (de_tup da_nil) (da_cons de_non da_nil))))))
    dss_nil)
    (dss_cons (ds_asg (de_ifExp (dt_tru (de_o (do_callP (fun h => pe_call C_exceeds.ok (hr.mono (by decide)) (by rfl) C_exceeds.g C_exceeds.kp C_exceeds.b .nil pass0 h) (da_cons (de_fld (de_v 0 (pv 0))) (da_cons (de_fld (de_v 1 (pv 1))) da_nil))))) (de_fld (de_v 0 (pv 0))) (de_fld (de_v 1 (pv 1)))) (dg_name (pg_name (i := 2) sc_Need_m___and__.nd rfl (by first | exact .inl rfl | exact .inr rfl))))
    (dss_one (ds_ret (de_make (fun h => pe_make C_Need_m___init__.m C_Need_m___init__.ok hr (by rfl) C_Need_m___init__.g C_Need_m___init__.b .nil pass0 h) (da_cons (de_cb (fun h => pe_callB (call_max2 rfl) (by rfl) m_max (by decide +kernel) h) cs_max2 (da_cons (de_fld (de_v 0 (pv 0))) (da_cons (de_fld (de_v 1 (pv 1))) da_nil))) (da_cons (de_o (do_callP (fun h => pe_call C_rises_of_greater.ok (hr.mono (by decide)) (by rfl) C_rises_of_greater.g C_rises_of_greater.kp C_rises_of_greater.b .nil pass0 h) (da_cons (de_meth (fun ho h => pe_meth ho C_Need_m__beside.c C_Need_m__beside.m C_Need_m__beside.ok (hr.mono (by decide)) C_Need_m__beside.b .nil pass0 h) (de_v 0 (pv 0)) (da_cons (de_v 1 (pv 1)) da_nil)) da_nil))) (da_cons (de_v 2 (pv 2)) da_nil)))))))), fun ds QD h => ?_⟩)
  · first
      | (obtain ⟨rfl, _⟩ := h; exact ⟨rfl, rfl⟩)
      | (obtain ⟨_, rfl, _⟩ := h; exact ⟨rfl, rfl⟩)
      | (obtain ⟨_, _, rfl, _⟩ := h; exact ⟨rfl, rfl⟩)
      | (obtain ⟨_, _, _, rfl, _⟩ := h; exact ⟨rfl, rfl⟩)
      | (obtain ⟨_, _, _, _, rfl, _⟩ := h; exact ⟨rfl, rfl⟩)
      | (obtain ⟨_, _, _, _, _, rfl, _⟩ := h; exact ⟨rfl, rfl⟩)
      | (obtain ⟨_, _, _, _, _, _, rfl, _⟩ := h; exact ⟨rfl, rfl⟩)
      | (obtain ⟨_, _, _, _, _, _, _, rfl, _⟩ := h; exact ⟨rfl, rfl⟩)
      | (obtain ⟨_, _, _, _, _, _, _, _, rfl, _⟩ := h; exact ⟨rfl, rfl⟩)
      | (obtain ⟨_, _, _, _, _, _, _, _, _, rfl, _⟩ := h; exact ⟨rfl, rfl⟩)
      | (obtain ⟨_, _, _, _, _, _, _, _, _, _, rfl, _⟩ := h; exact ⟨rfl, rfl⟩)
      | (obtain ⟨_, _, _, _, _, _, _, _, _, _, _, rfl, _⟩ := h; exact ⟨rfl, rfl⟩)
  · obtain ⟨⟨o1, r1, v1⟩, ⟨o2, r2, v2⟩, rfl, ⟨ok1, ok2, l1, l2, m1, m2⟩, q⟩ := h
    simp only at l1 l2 m1 m2
    cases o1 with
    | none =>
      walk_at "ax"
      refine ⟨true, ⟨none, [], none⟩, rfl, nok_no, ?_⟩
      walk_at "ax"
      refine q ⟨none, [], none⟩ ⟨nok_no, fun k hk => ?_, Nat.zero_le _⟩
      rw [show nval ⟨none, r1, v1⟩ k = v1 by cases k <;> rfl, nv_none ok1]
      cases k <;> rfl
    | some s1 =>
      cases o2 with
      | none =>
        walk_at "ax"
        refine ⟨true, ⟨none, [], none⟩, rfl, nok_no, ?_⟩
        walk_at "ax"
        refine q ⟨none, [], none⟩ ⟨nok_no, fun k hk => ?_, Nat.zero_le _⟩
        rw [show nval ⟨none, r2, v2⟩ k = v2 by cases k <;> rfl, nv_none ok2, grO_none]
        cases k <;> rfl
      | some s2 =>
        walk_at "ax"
        refine ⟨v1, v2, rfl, ?_⟩
        have e0 : (if excB v1 v2 = true then v1 else v2) = grO v1 v2 := by
          cases v2 with
          | none => cases v1 <;> rfl
          | some y =>
            cases v1 with
            | none => rfl
            | some x =>
              show (if decide (x > y) = true then some x else some y) = some (NM.mxI x y)
              unfold NM.mxI
              by_cases hxy : x > y
              · rw [if_pos (by simpa using hxy), if_pos hxy]
              · rw [if_neg (by simpa using hxy), if_neg hxy]
        generalize hbb : excB v1 v2 = bb at *
        have fin : ∀ cs, Cuts cs r1 r2 → ∀ rs, (Asc (-1) rs ∧ (∀ k, 0 ≤ k → NM.mxI (val s1 r1 k) (val s2 r2 k) = NM.mxI s1 s2 + vsum rs k) ∧ rs.length ≤ cs.length) → AndN ⟨some s1, r1, v1⟩ ⟨some s2, r2, v2⟩ ⟨some (NM.mxI s1 s2), rs, grO v1 v2⟩ := fun cs hC rs ⟨h1, h2, h3⟩ => by
          have hcl : cs.length ≤ 2 * (r1.length + r2.length) + 1 := hC.len2
          have ok := nok_and ok1 ok2 h1 h2 (by omega)
          refine ⟨ok, fun k hk => ?_, by show rs.length ≤ 2 * (r1.length + r2.length) + 1; omega⟩
          cases k with
          | none => rfl
          | some k =>
            have := h2 k (hk k rfl)
            show some (val (NM.mxI s1 s2) rs k) = some (NM.mxI (val s1 r1 k) (val s2 r2 k))
            rw [this]
            rfl
        cases bb
        all_goals (
          simp only [if_true, Bool.false_eq_true, if_false] at e0
          walk_at "ax"
          refine ⟨⟨some s1, r1, v1⟩, ⟨some s2, r2, v2⟩, s1, s2, rfl, ⟨rfl, rfl, ok1.asc, ok2.asc, l1, l2, m1, m2⟩, fun cs hC => ?_⟩
          walk_at "ax"
          refine ⟨s1, s2, r1, r2, cs, rfl, ⟨ok1.asc, ok2.asc, hC⟩, fun rs hrs => ?_⟩
          walk_at "ax"
          have hA := fin cs hC rs hrs
          refine ⟨true, ⟨some (NM.mxI s1 s2), rs, grO v1 v2⟩, by rw [← mx2, ← e0]; rfl, hA.ok, ?_⟩
          walk_at "ax"
          exact q _ hA)
/-! ### Need.__or__ -/
abbrev s_Need_m___or__ : Stmt := inClass (topS 26) 5
theorem sc_Need_m___or__ : FnScope ["self", "other", "smaller", "rises"] ["self", "other"] (defScope s_Need_m___or__) := ⟨rfl, rfl, rfl, by decide +kernel, rfl, by decide +kernel, by decide +kernel⟩
def fs_Need_m___or__ (cNeed : Addr) : FSp := fun ds Q => ∃ (n1 n2 : Nd), ds = [.sh (ndP cNeed n1), .sh (ndP cNeed n2)] ∧ (NOk n1 ∧ NOk n2 ∧ n1.rs.length ≤ 200 ∧ n2.rs.length ≤ 200 ∧ Near n1.rs ∧ Near n2.rs) ∧ ∀ n, OrN n1 n2 n → Q (.sh (ndP cNeed n)) ds
theorem ok_Need_m___or__ {Pg : Program} {w : World} {K : PySem.W.Frag} {mg : Str → Option Value} {base : Heap} {a : Addr} {fd : FuncData} (F : L2.Fun K "__or__" "Need.__or__" s_Need_m___or__ a fd)
    (m_min : mg "min" = none)
    {cNeed : Addr} (T : Txt K mg cNeed)
    {a_Need_m___init__ : Addr} {d_Need_m___init__ : FuncData} (C_Need_m___init__ : CalleeC Pg w K mg base 3 "Need" cNeed a_Need_m___init__ d_Need_m___init__ ["self", "start", "rises", "never"] (fs_Need_m___init__ cNeed))
    {a_rises_of_smaller : Addr} {d_rises_of_smaller : FuncData} (C_rises_of_smaller : Callee Pg w K mg base 2 "rises_of_smaller" a_rises_of_smaller d_rises_of_smaller ["pieces"] (fs_rises_of_smaller cNeed))
    {a_Need_m__beside : Addr} {d_Need_m__beside : FuncData} (C_Need_m__beside : CalleeM Pg w K mg base 3 cNeed "_beside" a_Need_m__beside d_Need_m__beside ["self", "other"] (fs_Need_m__beside cNeed))
    {a_sooner : Addr} {d_sooner : FuncData} (C_sooner : Callee Pg w K mg base 1 "sooner" a_sooner d_sooner ["one", "other"] (fs_sooner cNeed)) :
    FnOk Pg w K mg base CX0 5 a fd ["self", "other"] (spD K (fs_Need_m___or__ cNeed)) := by
  have n_Need_start : ClsA K cNeed "start" := ⟨T.cl_Need, T.n_Need_start⟩
  have n_Need_rises : ClsA K cNeed "rises" := ⟨T.cl_Need, T.n_Need_rises⟩
  have n_Need_never : ClsA K cNeed "never" := ⟨T.cl_Need, T.n_Need_never⟩
  have n_Need__values : ClsA K cNeed "_values" := ⟨T.cl_Need, T.n_Need__values⟩
  have is_Need := T.is_Need
  refine Fun.okD [] F sc_Need_m___or__ (fun ds QD h => ?_) (fun cdv A outer s H E hr => ⟨_, _, (dss_cons (ds_if (DW.pt (dw_or (dt_cmp op_isN os_isN (de_fld (de_v 0 (pv 0))) de_non (nomark _)) (dw_or1 (dt_cmp op_isN os_isN (de_fld (de_v 1 (pv 1))) de_non (nomark _)))))
    (dss_cons (ds_asg (de_ifExp (dt_cmp op_isN os_isN (de_fld (de_v 0 (pv 0))) de_non (nomark _)) (de_v 1 (pv 1)) (de_v 0 (pv 0))) (dg_name (pg_name (i := 2) sc_Need_m___or__.nd rfl (by first | exact .inl rfl | exact .inr rfl))))
    (dss_one (ds_ret (de_make (fun h => pe_make C_Need_m___init__.m C_Need_m___init__.ok hr (by rfl) C_Need_m___init__.g C_Need_m___init__.b .nil pass0 h) (da_cons (de_fld (de_v 2 (pv 2))) (da_cons (de_fld (de_v 2 (pv 2))) (da_cons (de_fld (de_v 2 (pv 2))) da_nil)))))))
    dss_nil)
    (dss_cons (ds_asg (de_o (do_callP (fun h => pe_call C_rises_of_smaller.ok (hr.mono (by decide)) (by rfl) C_rises_of_smaller.g C_rises_of_smaller.kp C_rises_of_smaller.b .nil pass0 h) (da_cons (de_meth (fun ho h => pe_meth ho C_Need_m__beside.c C_Need_m__beside.m C_Need_m__beside.ok (hr.mono (by decide)) C_Need_m__beside.b .nil pass0 h) (de_v 0 (pv 0)) (da_cons (de_v 1 (pv 1)) da_nil)) da_nil))) (dg_name (pg_name (i := 3) sc_Need_m___or__.nd rfl (by first | exact .inl rfl | exact .inr rfl))))
    (dss_one (ds_ret (de_make (fun h => pe_make C_Need_m___init__.m C_Need_m___init__.ok hr (by rfl) C_Need_m___init__.g C_Need_m___init__.b .nil pass0 h) (da_cons (de_cb (fun h => pe_callB (call_min2 rfl) (by rfl) m_min (by decide +kernel) h) cs_min2 (da_cons (de_fld (de_v 0 (pv 0))) (da_cons (de_fld (de_v 1 (pv 1))) da_nil))) (da_cons (de_v 3 (pv 3)) (da_cons (de_o (do_callP (fun h => pe_call C_sooner.ok (hr.mono (by decide)) (by rfl) C_sooner.g C_sooner.kp C_sooner.b .nil pass0 h) (da_cons (de_fld (de_v 0 (pv 0))) (da_cons (de_fld (de_v 1 (pv 1))) da_nil)))) da_nil)))))))), fun ds QD h => ?_⟩)
  · first
      | (obtain ⟨rfl, _⟩ := h; exact ⟨rfl, rfl⟩)
      | (obtain ⟨_, rfl, _⟩ := h; exact ⟨rfl, rfl⟩)
      | (obtain ⟨_, _, rfl, _⟩ := h; exact ⟨rfl, rfl⟩)
      | (obtain ⟨_, _, _, rfl, _⟩ := h; exact ⟨rfl, rfl⟩)
      | (obtain ⟨_, _, _, _, rfl, _⟩ := h; exact ⟨rfl, rfl⟩)
      | (obtain ⟨_, _, _, _, _, rfl, _⟩ := h; exact ⟨rfl, rfl⟩)
      | (obtain ⟨_, _, _, _, _, _, rfl, _⟩ := h; exact ⟨rfl, rfl⟩)
      | (obtain ⟨_, _, _, _, _, _, _, rfl, _⟩ := h; exact ⟨rfl, rfl⟩)
      | (obtain ⟨_, _, _, _, _, _, _, _, rfl, _⟩ := h; exact ⟨rfl, rfl⟩)
      | (obtain ⟨_, _, _, _, _, _, _, _, _, rfl, _⟩ := h; exact ⟨rfl, rfl⟩)
      | (obtain ⟨_, _, _, _, _, _, _, _, _, _, rfl, _⟩ := h; exact ⟨rfl, rfl⟩)
      | (obtain ⟨_, _, _, _, _, _, _, _, _, _, _, rfl, _⟩ := h; exact ⟨rfl, rfl⟩)
  · obtain ⟨⟨o1, r1, v1⟩, ⟨o2, r2, v2⟩, rfl, ⟨ok1, ok2, l1, l2, m1, m2⟩, q⟩ := h
    simp only at l1 l2 m1 m2
    cases o1 with
    | none =>
      have e1 := nv_none ok1
      walk_at "ax"
      refine ⟨true, ⟨o2, r2, v2⟩, rfl, ok2, ?_⟩
      walk_at "ax"
      refine q ⟨o2, r2, v2⟩ ⟨ok2, fun k hk => ?_, by show r2.length ≤ 2 * (r1.length + r2.length) + 1; omega⟩
      rw [show nval ⟨none, r1, v1⟩ k = v1 by cases k <;> rfl, e1]
      rfl
    | some s1 =>
      cases o2 with
      | none =>
        have e2 := nv_none ok2
        walk_at "ax"
        refine ⟨true, ⟨some s1, r1, v1⟩, rfl, ok1, ?_⟩
        walk_at "ax"
        refine q ⟨some s1, r1, v1⟩ ⟨ok1, fun k hk => ?_, by show r1.length ≤ 2 * (r1.length + r2.length) + 1; omega⟩
        rw [show nval ⟨none, r2, v2⟩ k = v2 by cases k <;> rfl, e2, soon_none]
      | some s2 =>
        walk_at "ax"
        refine ⟨⟨some s1, r1, v1⟩, ⟨some s2, r2, v2⟩, s1, s2, rfl, ⟨rfl, rfl, ok1.asc, ok2.asc, l1, l2, m1, m2⟩, fun cs hC => ?_⟩
        have hcl : cs.length ≤ 2 * (r1.length + r2.length) + 1 := hC.len2
        walk_at "ax"
        refine ⟨s1, s2, r1, r2, cs, rfl, ⟨ok1.asc, ok2.asc, hC⟩, fun rs ⟨h1, h2, h3⟩ => ?_⟩
        walk_at "ax"
        refine ⟨v1, v2, rfl, ?_⟩
        walk_at "ax"
        have ok := nok_or ok1 ok2 h1 h2 (by omega)
        refine ⟨true, ⟨some (NM.mnI s1 s2), rs, NM.soon v1 v2⟩, rfl, ok, ?_⟩
        walk_at "ax"
        refine q ⟨some (NM.mnI s1 s2), rs, NM.soon v1 v2⟩ ⟨ok, fun k hk => ?_, by show rs.length ≤ 2 * (r1.length + r2.length) + 1; omega⟩
        cases k with
        | none => rfl
        | some k =>
          have := h2 k (hk k rfl)
          show some (val (NM.mnI s1 s2) rs k) = some (NM.mnI (val s1 r1 k) (val s2 r2 k))
          rw [this]
          rfl
/-! ### Need.__rshift__ -/
abbrev s_Need_m___rshift__ : Stmt := inClass (topS 26) 3
theorem sc_Need_m___rshift__ : FnScope ["self", "other", "rises"] ["self", "other"] (defScope s_Need_m___rshift__) := ⟨rfl, rfl, rfl, by decide +kernel, rfl, by decide +kernel, by decide +kernel⟩
def fs_Need_m___rshift__ (cNeed : Addr) : FSp := fun ds Q => ∃ (n1 n2 : Nd), ds = [.sh (ndP cNeed n1), .sh (ndP cNeed n2)] ∧ (NOk n1 ∧ NOk n2 ∧ n1.rs.length ≤ 500 ∧ n2.rs.length ≤ 500) ∧ ∀ n, RsN n1 n2 n → Q (.sh (ndP cNeed n)) ds
theorem ok_Need_m___rshift__ {Pg : Program} {w : World} {K : PySem.W.Frag} {mg : Str → Option Value} {base : Heap} {a : Addr} {fd : FuncData} (F : L2.Fun K "__rshift__" "Need.__rshift__" s_Need_m___rshift__ a fd)
    {cNeed : Addr} (T : Txt K mg cNeed)
    {a_composed : Addr} {d_composed : FuncData} (C_composed : Callee Pg w K mg base 2 "composed" a_composed d_composed ["outer", "start", "inner"] (fs_composed cNeed))
    {a_Need_m___init__ : Addr} {d_Need_m___init__ : FuncData} (C_Need_m___init__ : CalleeC Pg w K mg base 3 "Need" cNeed a_Need_m___init__ d_Need_m___init__ ["self", "start", "rises", "never"] (fs_Need_m___init__ cNeed))
    {a_Need_m__value : Addr} {d_Need_m__value : FuncData} (C_Need_m__value : CalleeM Pg w K mg base 3 cNeed "_value" a_Need_m__value d_Need_m__value ["self", "k"] (fs_Need_m__value cNeed)) :
    FnOk Pg w K mg base CX0 5 a fd ["self", "other"] (spD K (fs_Need_m___rshift__ cNeed)) := by
  have n_Need_start : ClsA K cNeed "start" := ⟨T.cl_Need, T.n_Need_start⟩
  have n_Need_rises : ClsA K cNeed "rises" := ⟨T.cl_Need, T.n_Need_rises⟩
  have n_Need_never : ClsA K cNeed "never" := ⟨T.cl_Need, T.n_Need_never⟩
  have n_Need__values : ClsA K cNeed "_values" := ⟨T.cl_Need, T.n_Need__values⟩
  have is_Need := T.is_Need
  refine Fun.okD [] F sc_Need_m___rshift__ (fun ds QD h => ?_) (fun cdv A outer s H E hr => ⟨_, _, (dss_cons (ds_asg (de_o (do_callP (fun h => pe_call C_composed.ok (hr.mono (by decide)) (by rfl) C_composed.g C_composed.kp C_composed.b .nil pass0 h) (da_cons (de_fld (de_v 0 (pv 0))) (da_cons (de_fld (de_v 1 (pv 1))) (da_cons (de_fld (de_v 1 (pv 1))) da_nil))))) (dg_name (pg_name (i := 2) sc_Need_m___rshift__.nd rfl (by first | exact .inl rfl | exact .inr rfl))))
    (dss_one (ds_ret (de_make (fun h => pe_make C_Need_m___init__.m C_Need_m___init__.ok hr (by rfl) C_Need_m___init__.g C_Need_m___init__.b .nil pass0 h) (da_cons (de_meth (fun ho h => pe_meth ho C_Need_m__value.c C_Need_m__value.m C_Need_m__value.ok (hr.mono (by decide)) C_Need_m__value.b .nil pass0 h) (de_v 0 (pv 0)) (da_cons (de_fld (de_v 1 (pv 1))) da_nil)) (da_cons (de_v 2 (pv 2)) (da_cons (de_meth (fun ho h => pe_meth ho C_Need_m__value.c C_Need_m__value.m C_Need_m__value.ok (hr.mono (by decide)) C_Need_m__value.b .nil pass0 h) (de_v 0 (pv 0)) (da_cons (de_fld (de_v 1 (pv 1))) da_nil)) da_nil))))))), fun ds QD h => ?_⟩)
  · first
      | (obtain ⟨rfl, _⟩ := h; exact ⟨rfl, rfl⟩)
      | (obtain ⟨_, rfl, _⟩ := h; exact ⟨rfl, rfl⟩)
      | (obtain ⟨_, _, rfl, _⟩ := h; exact ⟨rfl, rfl⟩)
      | (obtain ⟨_, _, _, rfl, _⟩ := h; exact ⟨rfl, rfl⟩)
      | (obtain ⟨_, _, _, _, rfl, _⟩ := h; exact ⟨rfl, rfl⟩)
      | (obtain ⟨_, _, _, _, _, rfl, _⟩ := h; exact ⟨rfl, rfl⟩)
      | (obtain ⟨_, _, _, _, _, _, rfl, _⟩ := h; exact ⟨rfl, rfl⟩)
      | (obtain ⟨_, _, _, _, _, _, _, rfl, _⟩ := h; exact ⟨rfl, rfl⟩)
      | (obtain ⟨_, _, _, _, _, _, _, _, rfl, _⟩ := h; exact ⟨rfl, rfl⟩)
      | (obtain ⟨_, _, _, _, _, _, _, _, _, rfl, _⟩ := h; exact ⟨rfl, rfl⟩)
      | (obtain ⟨_, _, _, _, _, _, _, _, _, _, rfl, _⟩ := h; exact ⟨rfl, rfl⟩)
      | (obtain ⟨_, _, _, _, _, _, _, _, _, _, _, rfl, _⟩ := h; exact ⟨rfl, rfl⟩)
  · obtain ⟨⟨o1, r1, v1⟩, ⟨o2, r2, v2⟩, rfl, ⟨ok1, ok2, l1, l2⟩, q⟩ := h
    simp only at l1 l2
    walk_at "ax"
    refine ⟨r1, r2, o2, rfl, ⟨ok1.asc, ok2.asc, l1, l2, fun h => ok2.no h⟩, ?_⟩
    walk_at "ax"
    refine ⟨⟨o1, r1, v1⟩, o2, rfl, ok1, ?_⟩
    walk_at "ax"
    refine ⟨⟨o1, r1, v1⟩, v2, rfl, ok1, ?_⟩
    walk_at "ax"
    cases o1 with
    | none =>
      have e1 := nv_none ok1
      have e2 : r1 = [] := ok1.no rfl
      subst e1 e2
      rw [compF_nil, show ∀ k, nval ⟨none, [], none⟩ k = none from fun k => by cases k <;> rfl, show ∀ k, nval ⟨none, [], none⟩ k = none from fun k => by cases k <;> rfl]
      have hR := nok_rs_none (n2 := ⟨o2, r2, v2⟩) ok1
      refine ⟨true, ⟨none, [], none⟩, rfl, hR.ok, ?_⟩
      walk_at "ax"
      exact q _ hR
    | some s1 =>
      cases o2 with
      | none =>
        have e1 := nv_none ok2
        have e2 : r2 = [] := ok2.no rfl
        subst e1 e2
        have hR := nok_none_rs ok1 ok2
        refine ⟨true, ⟨v1, [], v1⟩, rfl, hR.ok, ?_⟩
        walk_at "ax"
        exact q _ hR
      | some s2 =>
        have hR := nok_rs ok1 ok2 (by omega)
        refine ⟨true, _, rfl, hR.ok, ?_⟩
        walk_at "ax"
        exact q _ hR
/-! ### Need.endless -/
abbrev s_Need_m_endless : Stmt := inClass (topS 26) 13
theorem sc_Need_m_endless : FnScope ["self", "first"] ["self"] (defScope s_Need_m_endless) := ⟨rfl, rfl, rfl, by decide +kernel, rfl, by decide +kernel, by decide +kernel⟩
def fs_Need_m_endless (cNeed : Addr) : FSp := fun ds Q => ∃ (n : Nd), ds = [.sh (ndP cNeed n)] ∧ NOk n ∧ Q (.sh (ndP cNeed (endlessF n))) ds
theorem ok_Need_m_endless {Pg : Program} {w : World} {K : PySem.W.Frag} {mg : Str → Option Value} {base : Heap} {a : Addr} {fd : FuncData} (F : L2.Fun K "endless" "Need.endless" s_Need_m_endless a fd)
    {cNeed : Addr} (T : Txt K mg cNeed)
    {a_Need_m__first_enough : Addr} {d_Need_m__first_enough : FuncData} (C_Need_m__first_enough : CalleeM Pg w K mg base 2 cNeed "_first_enough" a_Need_m__first_enough d_Need_m__first_enough ["self"] (fs_Need_m__first_enough cNeed))
    {a_Need_m___init__ : Addr} {d_Need_m___init__ : FuncData} (C_Need_m___init__ : CalleeC Pg w K mg base 3 "Need" cNeed a_Need_m___init__ d_Need_m___init__ ["self", "start", "rises", "never"] (fs_Need_m___init__ cNeed)) :
    FnOk Pg w K mg base CX0 5 a fd ["self"] (spD K (fs_Need_m_endless cNeed)) := by
  have n_Need_start : ClsA K cNeed "start" := ⟨T.cl_Need, T.n_Need_start⟩
  have n_Need_rises : ClsA K cNeed "rises" := ⟨T.cl_Need, T.n_Need_rises⟩
  have n_Need_never : ClsA K cNeed "never" := ⟨T.cl_Need, T.n_Need_never⟩
  have n_Need__values : ClsA K cNeed "_values" := ⟨T.cl_Need, T.n_Need__values⟩
  have is_Need := T.is_Need
  refine Fun.okD [] F sc_Need_m_endless (fun ds QD h => ?_) (fun cdv A outer s H E hr => ⟨_, _, (dss_cons (ds_asg (de_meth0 (fun ho => pe_meth0 ho C_Need_m__first_enough.c C_Need_m__first_enough.m C_Need_m__first_enough.ok (hr.mono (by decide)) C_Need_m__first_enough.b .nil pass0) (de_v 0 (pv 0))) (dg_name (pg_name (i := 1) sc_Need_m_endless.nd rfl (by first | exact .inl rfl | exact .inr rfl))))
    (dss_one (ds_ret (de_make (fun h => pe_make C_Need_m___init__.m C_Need_m___init__.ok hr (by rfl) C_Need_m___init__.g C_Need_m___init__.b .nil pass0 h) (da_cons (de_v 1 (pv 1)) (da_cons (de_tup da_nil) (da_cons (de_v 1 (pv 1)) da_nil))))))), fun ds QD h => ?_⟩)
  · first
      | (obtain ⟨rfl, _⟩ := h; exact ⟨rfl, rfl⟩)
      | (obtain ⟨_, rfl, _⟩ := h; exact ⟨rfl, rfl⟩)
      | (obtain ⟨_, _, rfl, _⟩ := h; exact ⟨rfl, rfl⟩)
      | (obtain ⟨_, _, _, rfl, _⟩ := h; exact ⟨rfl, rfl⟩)
      | (obtain ⟨_, _, _, _, rfl, _⟩ := h; exact ⟨rfl, rfl⟩)
      | (obtain ⟨_, _, _, _, _, rfl, _⟩ := h; exact ⟨rfl, rfl⟩)
      | (obtain ⟨_, _, _, _, _, _, rfl, _⟩ := h; exact ⟨rfl, rfl⟩)
      | (obtain ⟨_, _, _, _, _, _, _, rfl, _⟩ := h; exact ⟨rfl, rfl⟩)
      | (obtain ⟨_, _, _, _, _, _, _, _, rfl, _⟩ := h; exact ⟨rfl, rfl⟩)
      | (obtain ⟨_, _, _, _, _, _, _, _, _, rfl, _⟩ := h; exact ⟨rfl, rfl⟩)
      | (obtain ⟨_, _, _, _, _, _, _, _, _, _, rfl, _⟩ := h; exact ⟨rfl, rfl⟩)
      | (obtain ⟨_, _, _, _, _, _, _, _, _, _, _, rfl, _⟩ := h; exact ⟨rfl, rfl⟩)
  · obtain ⟨n, rfl, ok, q⟩ := h
    have okm := nok_endless ok
    walk_at "au"
    refine ⟨n, rfl, ?_⟩
    walk_at "au"
    refine ⟨true, endlessF n, rfl, okm, ?_⟩; walk_at "au"; exact q
/-! ### Need.mine -/
abbrev s_Need_m_mine : Stmt := inClass (topS 26) 11
theorem sc_Need_m_mine : FnScope ["self", "last"] ["self"] (defScope s_Need_m_mine) := ⟨rfl, rfl, rfl, by decide +kernel, rfl, by decide +kernel, by decide +kernel⟩
def fs_Need_m_mine (cNeed : Addr) : FSp := fun ds Q => ∃ (n : Nd), ds = [.sh (ndP cNeed n)] ∧ NOk n ∧ Q (.sh (ndP cNeed (mineF n))) ds
theorem ok_Need_m_mine {Pg : Program} {w : World} {K : PySem.W.Frag} {mg : Str → Option Value} {base : Heap} {a : Addr} {fd : FuncData} (F : L2.Fun K "mine" "Need.mine" s_Need_m_mine a fd)
    {cNeed : Addr} (T : Txt K mg cNeed)
    {a_Need_m__last_enough : Addr} {d_Need_m__last_enough : FuncData} (C_Need_m__last_enough : CalleeM Pg w K mg base 2 cNeed "_last_enough" a_Need_m__last_enough d_Need_m__last_enough ["self"] (fs_Need_m__last_enough cNeed))
    {a_Need_m___init__ : Addr} {d_Need_m___init__ : FuncData} (C_Need_m___init__ : CalleeC Pg w K mg base 3 "Need" cNeed a_Need_m___init__ d_Need_m___init__ ["self", "start", "rises", "never"] (fs_Need_m___init__ cNeed)) :
    FnOk Pg w K mg base CX0 5 a fd ["self"] (spD K (fs_Need_m_mine cNeed)) := by
  have n_Need_start : ClsA K cNeed "start" := ⟨T.cl_Need, T.n_Need_start⟩
  have n_Need_rises : ClsA K cNeed "rises" := ⟨T.cl_Need, T.n_Need_rises⟩
  have n_Need_never : ClsA K cNeed "never" := ⟨T.cl_Need, T.n_Need_never⟩
  have n_Need__values : ClsA K cNeed "_values" := ⟨T.cl_Need, T.n_Need__values⟩
  have is_Need := T.is_Need
  refine Fun.okD [] F sc_Need_m_mine (fun ds QD h => ?_) (fun cdv A outer s H E hr => ⟨_, _, (dss_cons (ds_asg (de_ifExp (dt_cmp op_isN os_isN (de_fld (de_v 0 (pv 0))) de_non (nomark _)) de_non (de_meth0 (fun ho => pe_meth0 ho C_Need_m__last_enough.c C_Need_m__last_enough.m C_Need_m__last_enough.ok (hr.mono (by decide)) C_Need_m__last_enough.b .nil pass0) (de_v 0 (pv 0)))) (dg_name (pg_name (i := 1) sc_Need_m_mine.nd rfl (by first | exact .inl rfl | exact .inr rfl))))
    (dss_cons (ds_if (dt_cmp op_isN os_isN (de_v 1 (pv 1)) de_non (nomark _))
    (dss_one (ds_ret (de_make (fun h => pe_make C_Need_m___init__.m C_Need_m___init__.ok hr (by rfl) C_Need_m___init__.g C_Need_m___init__.b .nil pass0 h) (da_cons de_int (da_cons (de_tup (da_cons (de_tup (da_cons de_int (da_cons de_non da_nil))) da_nil)) (da_cons de_non da_nil))))))
    dss_nil)
    (dss_one (ds_ret (de_make (fun h => pe_make C_Need_m___init__.m C_Need_m___init__.ok hr (by rfl) C_Need_m___init__.g C_Need_m___init__.b .nil pass0 h) (da_cons de_int (da_cons (de_ifExp (dt_cmp op_gt os_gt (de_v 1 (pv 1)) de_int (nomark _)) (de_tup (da_cons (de_tup (da_cons de_int (da_cons (de_v 1 (pv 1)) da_nil))) da_nil)) (de_tup da_nil)) (da_cons (de_ifExp (dt_cmp op_isN os_isN (de_fld (de_v 0 (pv 0))) de_non (nomark _)) de_non (de_v 1 (pv 1))) da_nil)))))))), fun ds QD h => ?_⟩)
  · first
      | (obtain ⟨rfl, _⟩ := h; exact ⟨rfl, rfl⟩)
      | (obtain ⟨_, rfl, _⟩ := h; exact ⟨rfl, rfl⟩)
      | (obtain ⟨_, _, rfl, _⟩ := h; exact ⟨rfl, rfl⟩)
      | (obtain ⟨_, _, _, rfl, _⟩ := h; exact ⟨rfl, rfl⟩)
      | (obtain ⟨_, _, _, _, rfl, _⟩ := h; exact ⟨rfl, rfl⟩)
      | (obtain ⟨_, _, _, _, _, rfl, _⟩ := h; exact ⟨rfl, rfl⟩)
      | (obtain ⟨_, _, _, _, _, _, rfl, _⟩ := h; exact ⟨rfl, rfl⟩)
      | (obtain ⟨_, _, _, _, _, _, _, rfl, _⟩ := h; exact ⟨rfl, rfl⟩)
      | (obtain ⟨_, _, _, _, _, _, _, _, rfl, _⟩ := h; exact ⟨rfl, rfl⟩)
      | (obtain ⟨_, _, _, _, _, _, _, _, _, rfl, _⟩ := h; exact ⟨rfl, rfl⟩)
      | (obtain ⟨_, _, _, _, _, _, _, _, _, _, rfl, _⟩ := h; exact ⟨rfl, rfl⟩)
      | (obtain ⟨_, _, _, _, _, _, _, _, _, _, _, rfl, _⟩ := h; exact ⟨rfl, rfl⟩)
  · obtain ⟨n, rfl, ok, q⟩ := h
    have okm := nok_mine ok
    obtain ⟨s, rs, nv⟩ := n
    cases s with
    | none =>
      walk_at "au"
      refine ⟨true, mineF ⟨none, rs, nv⟩, rfl, okm, ?_⟩
      walk_at "au"
      exact q
    | some s =>
      walk_at "au"
      refine ⟨⟨some s, rs, nv⟩, s, rfl, rfl, ?_⟩
      have em : mineF ⟨some s, rs, nv⟩ = (match flatF rs 0 s with | none => ⟨some 0, [(0, none)], none⟩ | some l => ⟨some 0, if 0 < l then [(0, some l)] else [], if nv = none then none else some l⟩) := rfl
      cases ef : flatF rs 0 s with
      | none =>
        rw [ef] at em
        rw [em] at q okm
        walk_at "au"
        refine ⟨true, ⟨some 0, [(0, none)], none⟩, rfl, okm, ?_⟩; walk_at "au"; exact q
      | some l =>
        rw [ef] at em
        rw [em] at q okm
        simp only at q okm
        cases nv with
        | none =>
          simp only [reduceIte] at q okm
          walk_at "au"
          · rw [if_pos (by assumption)] at q okm
            refine ⟨true, _, rfl, okm, ?_⟩; walk_at "au"; exact q
          · rw [if_neg (by omega)] at q okm
            refine ⟨true, _, rfl, okm, ?_⟩; walk_at "au"; exact q
        | some v =>
          simp only [reduceCtorEq, reduceIte] at q okm
          walk_at "au"
          · rw [if_pos (by assumption)] at q okm
            refine ⟨true, _, rfl, okm, ?_⟩; walk_at "au"; exact q
          · rw [if_neg (by omega)] at q okm
            refine ⟨true, _, rfl, okm, ?_⟩; walk_at "au"; exact q
/-! ### Need.theirs -/
abbrev s_Need_m_theirs : Stmt := inClass (topS 26) 12
theorem sc_Need_m_theirs : FnScope ["self", "first"] ["self"] (defScope s_Need_m_theirs) := ⟨rfl, rfl, rfl, by decide +kernel, rfl, by decide +kernel, by decide +kernel⟩
def fs_Need_m_theirs (cNeed : Addr) : FSp := fun ds Q => ∃ (n : Nd), ds = [.sh (ndP cNeed n)] ∧ NOk n ∧ Q (.sh (ndP cNeed (theirsF n))) ds
theorem ok_Need_m_theirs {Pg : Program} {w : World} {K : PySem.W.Frag} {mg : Str → Option Value} {base : Heap} {a : Addr} {fd : FuncData} (F : L2.Fun K "theirs" "Need.theirs" s_Need_m_theirs a fd)
    {cNeed : Addr} (T : Txt K mg cNeed)
    {a_Need_m__first_enough : Addr} {d_Need_m__first_enough : FuncData} (C_Need_m__first_enough : CalleeM Pg w K mg base 2 cNeed "_first_enough" a_Need_m__first_enough d_Need_m__first_enough ["self"] (fs_Need_m__first_enough cNeed))
    {a_Need_m___init__ : Addr} {d_Need_m___init__ : FuncData} (C_Need_m___init__ : CalleeC Pg w K mg base 3 "Need" cNeed a_Need_m___init__ d_Need_m___init__ ["self", "start", "rises", "never"] (fs_Need_m___init__ cNeed)) :
    FnOk Pg w K mg base CX0 5 a fd ["self"] (spD K (fs_Need_m_theirs cNeed)) := by
  have n_Need_start : ClsA K cNeed "start" := ⟨T.cl_Need, T.n_Need_start⟩
  have n_Need_rises : ClsA K cNeed "rises" := ⟨T.cl_Need, T.n_Need_rises⟩
  have n_Need_never : ClsA K cNeed "never" := ⟨T.cl_Need, T.n_Need_never⟩
  have n_Need__values : ClsA K cNeed "_values" := ⟨T.cl_Need, T.n_Need__values⟩
  have is_Need := T.is_Need
  refine Fun.okD [] F sc_Need_m_theirs (fun ds QD h => ?_) (fun cdv A outer s H E hr => ⟨_, _, (dss_cons (ds_asg (de_meth0 (fun ho => pe_meth0 ho C_Need_m__first_enough.c C_Need_m__first_enough.m C_Need_m__first_enough.ok (hr.mono (by decide)) C_Need_m__first_enough.b .nil pass0) (de_v 0 (pv 0))) (dg_name (pg_name (i := 1) sc_Need_m_theirs.nd rfl (by first | exact .inl rfl | exact .inr rfl))))
    (dss_one (ds_ret (de_make (fun h => pe_make C_Need_m___init__.m C_Need_m___init__.ok hr (by rfl) C_Need_m___init__.g C_Need_m___init__.b .nil pass0 h) (da_cons (de_v 1 (pv 1)) (da_cons (de_ifExp (dt_cmp op_isN os_isN (de_v 1 (pv 1)) de_non (nomark _)) (de_tup da_nil) (de_tup (da_cons (de_tup (da_cons (de_v 1 (pv 1)) (da_cons de_non da_nil))) da_nil))) (da_cons de_non da_nil))))))), fun ds QD h => ?_⟩)
  · first
      | (obtain ⟨rfl, _⟩ := h; exact ⟨rfl, rfl⟩)
      | (obtain ⟨_, rfl, _⟩ := h; exact ⟨rfl, rfl⟩)
      | (obtain ⟨_, _, rfl, _⟩ := h; exact ⟨rfl, rfl⟩)
      | (obtain ⟨_, _, _, rfl, _⟩ := h; exact ⟨rfl, rfl⟩)
      | (obtain ⟨_, _, _, _, rfl, _⟩ := h; exact ⟨rfl, rfl⟩)
      | (obtain ⟨_, _, _, _, _, rfl, _⟩ := h; exact ⟨rfl, rfl⟩)
      | (obtain ⟨_, _, _, _, _, _, rfl, _⟩ := h; exact ⟨rfl, rfl⟩)
      | (obtain ⟨_, _, _, _, _, _, _, rfl, _⟩ := h; exact ⟨rfl, rfl⟩)
      | (obtain ⟨_, _, _, _, _, _, _, _, rfl, _⟩ := h; exact ⟨rfl, rfl⟩)
      | (obtain ⟨_, _, _, _, _, _, _, _, _, rfl, _⟩ := h; exact ⟨rfl, rfl⟩)
      | (obtain ⟨_, _, _, _, _, _, _, _, _, _, rfl, _⟩ := h; exact ⟨rfl, rfl⟩)
      | (obtain ⟨_, _, _, _, _, _, _, _, _, _, _, rfl, _⟩ := h; exact ⟨rfl, rfl⟩)
  · obtain ⟨n, rfl, ok, q⟩ := h
    have okm := nok_theirs ok
    have em : theirsF n = (match firstF n with | none => ⟨none, [], none⟩ | some x => ⟨some x, [(x, none)], none⟩) := rfl
    walk_at "au"
    refine ⟨n, rfl, ?_⟩
    cases ef : firstF n with
    | none =>
      rw [ef] at em
      rw [em] at q okm
      walk_at "au"
      refine ⟨true, _, rfl, okm, ?_⟩; walk_at "au"; exact q
    | some x =>
      rw [ef] at em
      rw [em] at q okm
      walk_at "au"
      refine ⟨true, ⟨some x, [(x, none)], none⟩, rfl, okm, ?_⟩; walk_at "au"; exact q
/-! ### _law_make -/
abbrev s__law_make : Stmt := topS 32
theorem sc__law_make : FnScope ["_law_need_here"] ["_law_need_here"] (defScope s__law_make) := ⟨rfl, rfl, rfl, by decide +kernel, rfl, by decide +kernel, by decide +kernel⟩
def fs__law_make (cNeed : Addr) : FSp := fun ds Q => ∃ (n : Nd), ds = [.sh (needL n)] ∧ NOk n ∧ Q (.sh (ndP cNeed n)) ds
theorem ok__law_make {Pg : Program} {w : World} {K : PySem.W.Frag} {mg : Str → Option Value} {base : Heap} {a : Addr} {fd : FuncData} (F : L2.Fun K "_law_make" "_law_make" s__law_make a fd)
    {cNeed : Addr} (T : Txt K mg cNeed)
    {a_Need_m___init__ : Addr} {d_Need_m___init__ : FuncData} (C_Need_m___init__ : CalleeC Pg w K mg base 3 "Need" cNeed a_Need_m___init__ d_Need_m___init__ ["self", "start", "rises", "never"] (fs_Need_m___init__ cNeed)) :
    FnOk Pg w K mg base CX0 5 a fd ["_law_need_here"] (spD K (fs__law_make cNeed)) := by
  have n_Need_start : ClsA K cNeed "start" := ⟨T.cl_Need, T.n_Need_start⟩
  have n_Need_rises : ClsA K cNeed "rises" := ⟨T.cl_Need, T.n_Need_rises⟩
  have n_Need_never : ClsA K cNeed "never" := ⟨T.cl_Need, T.n_Need_never⟩
  have n_Need__values : ClsA K cNeed "_values" := ⟨T.cl_Need, T.n_Need__values⟩
  have is_Need := T.is_Need
  refine Fun.okD [] F sc__law_make (fun ds QD h => ?_) (fun cdv A outer s H E hr => ⟨_, _, (dss_one (ds_ret (de_make (fun h => pe_make C_Need_m___init__.m C_Need_m___init__.ok hr (by rfl) C_Need_m___init__.g C_Need_m___init__.b .nil pass0 h) (da_cons (de_ix ix_seq os_ix (de_v 0 (pv 0)) de_int) (da_cons (de_ix ix_seq os_ix (de_v 0 (pv 0)) de_int) (da_cons (de_ix ix_seq os_ix (de_v 0 (pv 0)) de_int) da_nil)))))), fun ds QD h => ?_⟩)
  · first
      | (obtain ⟨rfl, _⟩ := h; exact ⟨rfl, rfl⟩)
      | (obtain ⟨_, rfl, _⟩ := h; exact ⟨rfl, rfl⟩)
      | (obtain ⟨_, _, rfl, _⟩ := h; exact ⟨rfl, rfl⟩)
      | (obtain ⟨_, _, _, rfl, _⟩ := h; exact ⟨rfl, rfl⟩)
      | (obtain ⟨_, _, _, _, rfl, _⟩ := h; exact ⟨rfl, rfl⟩)
      | (obtain ⟨_, _, _, _, _, rfl, _⟩ := h; exact ⟨rfl, rfl⟩)
      | (obtain ⟨_, _, _, _, _, _, rfl, _⟩ := h; exact ⟨rfl, rfl⟩)
      | (obtain ⟨_, _, _, _, _, _, _, rfl, _⟩ := h; exact ⟨rfl, rfl⟩)
      | (obtain ⟨_, _, _, _, _, _, _, _, rfl, _⟩ := h; exact ⟨rfl, rfl⟩)
      | (obtain ⟨_, _, _, _, _, _, _, _, _, rfl, _⟩ := h; exact ⟨rfl, rfl⟩)
      | (obtain ⟨_, _, _, _, _, _, _, _, _, _, rfl, _⟩ := h; exact ⟨rfl, rfl⟩)
      | (obtain ⟨_, _, _, _, _, _, _, _, _, _, _, rfl, _⟩ := h; exact ⟨rfl, rfl⟩)
  · obtain ⟨n, rfl, ok, q⟩ := h
    walk_at "au"
    refine ⟨true, n, rfl, ok, ?_⟩
    walk_at "au"
    exact q
/-! ### _law_told_equal -/
abbrev s__law_told_equal : Stmt := topS 34
theorem sc__law_told_equal : FnScope ["_law_f", "_law_g", "_law_same"] ["_law_f", "_law_g"] (defScope s__law_told_equal) := ⟨rfl, rfl, rfl, by decide +kernel, rfl, by decide +kernel, by decide +kernel⟩
def fs__law_told_equal (cNeed : Addr) : FSp := fun ds Q => ∃ (f g : Nd), ds = [.sh (ndP cNeed f), .sh (ndP cNeed g)] ∧ (T1 f ∧ T1 g) ∧ Q (.sh (.bl true)) ds
theorem ok__law_told_equal {Pg : Program} {w : World} {K : PySem.W.Frag} {mg : Str → Option Value} {base : Heap} {a : Addr} {fd : FuncData} (F : L2.Fun K "_law_told_equal" "_law_told_equal" s__law_told_equal a fd)
    {cNeed : Addr} (T : Txt K mg cNeed)
    {a_Need_m___eq__ : Addr} {d_Need_m___eq__ : FuncData} (C_Need_m___eq__ : CalleeP Pg w K mg base 1 cNeed "__eq__" a_Need_m___eq__ d_Need_m___eq__ ["self", "other"] (fs_Need_m___eq__ cNeed))
    {a_Need_m_excess : Addr} {d_Need_m_excess : FuncData} (C_Need_m_excess : CalleeM Pg w K mg base 4 cNeed "excess" a_Need_m_excess d_Need_m_excess ["self", "other"] (fs_Need_m_excess cNeed)) :
    FnOk Pg w K mg base CX0 5 a fd ["_law_f", "_law_g"] (spD K (fs__law_told_equal cNeed)) := by
  have n_Need_start : ClsA K cNeed "start" := ⟨T.cl_Need, T.n_Need_start⟩
  have n_Need_rises : ClsA K cNeed "rises" := ⟨T.cl_Need, T.n_Need_rises⟩
  have n_Need_never : ClsA K cNeed "never" := ⟨T.cl_Need, T.n_Need_never⟩
  have n_Need__values : ClsA K cNeed "_values" := ⟨T.cl_Need, T.n_Need__values⟩
  have is_Need := T.is_Need
  refine Fun.okD [] F sc__law_told_equal (fun ds QD h => ?_) (fun cdv A outer s H E hr => ⟨_, _, (dss_cons (ds_asg (de_and (de_cmp (op_eqD hr.units) os_eqD (de_fld (de_v 0 (pv 0))) (de_fld (de_v 1 (pv 1))) (nomark _)) (de_and (de_cmp (op_eqD hr.units) os_eqD (de_fld (de_v 0 (pv 0))) (de_fld (de_v 1 (pv 1))) (nomark _)) (de_one (de_cmp (op_eqD hr.units) os_eqD (de_fld (de_v 0 (pv 0))) (de_fld (de_v 1 (pv 1))) (nomark _))))) (dg_name (pg_name (i := 2) sc__law_told_equal.nd rfl (by first | exact .inl rfl | exact .inr rfl))))
    (dss_one (ds_ret (de_and (de_cmp (op_eqD hr.units) os_eqD (de_cmp (op_ownE (by intro _ _; rfl) C_Need_m___eq__.o (C_Need_m___eq__.ok.raw C_Need_m___eq__.b .nil) T.nf_Need (hr.mono (by decide)) pass0) os_ownB (de_v 0 (pv 0)) (de_v 1 (pv 1)) (nomark _)) (de_v 2 (pv 2)) (nomark _)) (de_one (de_cmp (op_eqD hr.units) os_eqD (de_and (de_cmp (op_eqD hr.units) os_eqD (de_meth (fun ho h => pe_meth ho C_Need_m_excess.c C_Need_m_excess.m C_Need_m_excess.ok hr C_Need_m_excess.b .nil pass0 h) (de_v 0 (pv 0)) (da_cons (de_v 1 (pv 1)) da_nil)) (de_tup da_nil) (nomark _)) (de_one (de_cmp (op_eqD hr.units) os_eqD (de_meth (fun ho h => pe_meth ho C_Need_m_excess.c C_Need_m_excess.m C_Need_m_excess.ok hr C_Need_m_excess.b .nil pass0 h) (de_v 1 (pv 1)) (da_cons (de_v 0 (pv 0)) da_nil)) (de_tup da_nil) (nomark _)))) (de_v 2 (pv 2)) (nomark _))))))), fun ds QD h => ?_⟩)
  · first
      | (obtain ⟨rfl, _⟩ := h; exact ⟨rfl, rfl⟩)
      | (obtain ⟨_, rfl, _⟩ := h; exact ⟨rfl, rfl⟩)
      | (obtain ⟨_, _, rfl, _⟩ := h; exact ⟨rfl, rfl⟩)
      | (obtain ⟨_, _, _, rfl, _⟩ := h; exact ⟨rfl, rfl⟩)
      | (obtain ⟨_, _, _, _, rfl, _⟩ := h; exact ⟨rfl, rfl⟩)
      | (obtain ⟨_, _, _, _, _, rfl, _⟩ := h; exact ⟨rfl, rfl⟩)
      | (obtain ⟨_, _, _, _, _, _, rfl, _⟩ := h; exact ⟨rfl, rfl⟩)
      | (obtain ⟨_, _, _, _, _, _, _, rfl, _⟩ := h; exact ⟨rfl, rfl⟩)
      | (obtain ⟨_, _, _, _, _, _, _, _, rfl, _⟩ := h; exact ⟨rfl, rfl⟩)
      | (obtain ⟨_, _, _, _, _, _, _, _, _, rfl, _⟩ := h; exact ⟨rfl, rfl⟩)
      | (obtain ⟨_, _, _, _, _, _, _, _, _, _, rfl, _⟩ := h; exact ⟨rfl, rfl⟩)
      | (obtain ⟨_, _, _, _, _, _, _, _, _, _, _, rfl, _⟩ := h; exact ⟨rfl, rfl⟩)
  · obtain ⟨f, g, rfl, ⟨tf, tg⟩, q⟩ := h
    by_cases e : f = g
    · subst e
      walk_at "ax"
      refine ⟨(shp_oI f.s).ok, (shp_oI f.s).ok, ?_⟩
      simp only [(shp_oI f.s).refl]
      walk_at "ax"
      refine ⟨(shp_rs f.rs).ok, (shp_rs f.rs).ok, ?_⟩
      simp only [(shp_rs f.rs).refl]
      walk_at "ax"
      refine ⟨(shp_oI f.nv).ok, (shp_oI f.nv).ok, ?_⟩
      simp only [(shp_oI f.nv).refl]
      walk_at "ax"
      refine ⟨f, f, rfl, ?_⟩
      rw [eqN_iff.mpr rfl]
      walk_at "ax"
      refine ⟨f, f, rfl, pr tf tf, fun o ho => ?_⟩
      obtain rfl := ho.uniq (exc_self f)
      walk_at "ax"
      refine ⟨f, f, rfl, pr tf tf, fun o ho => ?_⟩
      obtain rfl := ho.uniq (exc_self f)
      walk_at "ax"
      simp only [eqv_exN, eqv_bl]
      exact q
    · have hn0 : eqN f g = false := by
        cases h : eqN f g with
        | false => rfl
        | true => exact absurd (eqN_iff.mp h) e
      have hn1 := hn0
      unfold eqN at hn1
      walk_at "ax"
      refine ⟨(shp_oI f.s).ok, (shp_oI g.s).ok, ?_⟩
      simp only [eqv_oI]
      generalize decide (f.s = g.s) = b1 at hn1 ⊢
      cases b1
      · clear hn1
        walk_at "ax"
        refine ⟨f, g, rfl, ?_⟩
        rw [hn0]
        walk_at "ax"
        refine ⟨f, g, rfl, pr tf tg, fun o ho => ?_⟩
        rcases o with _ | o
        · walk_at "ax"
          refine ⟨g, f, rfl, pr tg tf, fun o2 ho2 => ?_⟩
          rcases o2 with _ | o2
          · exact absurd (exc_both tf.ok tg.ok ho ho2) e
          · walk_at "ax"
            refine ⟨(shp_ex _).ok, (shp_ex none).ok, ?_⟩
            simp only [eqv_exS]
            walk_at "ax"
            simp only [eqv_exS, eqv_bl]
            exact q
        · walk_at "ax"
          refine ⟨(shp_ex _).ok, (shp_ex none).ok, ?_⟩
          simp only [eqv_exS]
          walk_at "ax"
          simp only [eqv_exS, eqv_bl]
          exact q
      · walk_at "ax"
        refine ⟨(shp_rs f.rs).ok, (shp_rs g.rs).ok, ?_⟩
        simp only [eqv_rs]
        generalize decide (f.rs = g.rs) = b2 at hn1 ⊢
        cases b2
        · clear hn1
          walk_at "ax"
          refine ⟨f, g, rfl, ?_⟩
          rw [hn0]
          walk_at "ax"
          refine ⟨f, g, rfl, pr tf tg, fun o ho => ?_⟩
          rcases o with _ | o
          · walk_at "ax"
            refine ⟨g, f, rfl, pr tg tf, fun o2 ho2 => ?_⟩
            rcases o2 with _ | o2
            · exact absurd (exc_both tf.ok tg.ok ho ho2) e
            · walk_at "ax"
              refine ⟨(shp_ex _).ok, (shp_ex none).ok, ?_⟩
              simp only [eqv_exS]
              walk_at "ax"
              simp only [eqv_exS, eqv_bl]
              exact q
          · walk_at "ax"
            refine ⟨(shp_ex _).ok, (shp_ex none).ok, ?_⟩
            simp only [eqv_exS]
            walk_at "ax"
            simp only [eqv_exS, eqv_bl]
            exact q
        · walk_at "ax"
          refine ⟨(shp_oI f.nv).ok, (shp_oI g.nv).ok, ?_⟩
          simp only [eqv_oI]
          generalize decide (f.nv = g.nv) = b3 at hn1 ⊢
          cases b3
          · clear hn1
            walk_at "ax"
            refine ⟨f, g, rfl, ?_⟩
            rw [hn0]
            walk_at "ax"
            refine ⟨f, g, rfl, pr tf tg, fun o ho => ?_⟩
            rcases o with _ | o
            · walk_at "ax"
              refine ⟨g, f, rfl, pr tg tf, fun o2 ho2 => ?_⟩
              rcases o2 with _ | o2
              · exact absurd (exc_both tf.ok tg.ok ho ho2) e
              · walk_at "ax"
                refine ⟨(shp_ex _).ok, (shp_ex none).ok, ?_⟩
                simp only [eqv_exS]
                walk_at "ax"
                simp only [eqv_exS, eqv_bl]
                exact q
            · walk_at "ax"
              refine ⟨(shp_ex _).ok, (shp_ex none).ok, ?_⟩
              simp only [eqv_exS]
              walk_at "ax"
              simp only [eqv_exS, eqv_bl]
              exact q
          · cases hn1
/-! ### Need.__mul__ -/
abbrev s_Need_m___mul__ : Stmt := inClass (topS 26) 7
theorem sc_Need_m___mul__ : FnScope ["self", "other", "result", "power", "left"] ["self", "other"] (defScope s_Need_m___mul__) := ⟨rfl, rfl, rfl, by decide +kernel, rfl, by decide +kernel, by decide +kernel⟩
def fs_Need_m___mul__ (cNeed : Addr) : FSp := fun ds Q => ∃ (n : Nd) (c : Nat), ds = [.sh (ndP cNeed n), .sh (.int (c : Int))] ∧ (NOk n ∧ c ≤ 400 ∧ n.rs.length * c ≤ 400 ∧ n.rs.length ≤ 400) ∧ ∀ m, PwN n c m → m.rs.length ≤ 401 → Q (.sh (ndP cNeed m)) ds
theorem ok_Need_m___mul__ {Pg : Program} {w : World} {K : PySem.W.Frag} {mg : Str → Option Value} {base : Heap} {a : Addr} {fd : FuncData} (F : L2.Fun K "__mul__" "Need.__mul__" s_Need_m___mul__ a fd)
    {cNeed : Addr} (T : Txt K mg cNeed)
    {a_Need_m___init__ : Addr} {d_Need_m___init__ : FuncData} (C_Need_m___init__ : CalleeC Pg w K mg base 3 "Need" cNeed a_Need_m___init__ d_Need_m___init__ ["self", "start", "rises", "never"] (fs_Need_m___init__ cNeed))
    {a_Need_m___rshift__ : Addr} {d_Need_m___rshift__ : FuncData} (C_Need_m___rshift__ : CalleeP Pg w K mg base 5 cNeed "__rshift__" a_Need_m___rshift__ d_Need_m___rshift__ ["self", "other"] (fs_Need_m___rshift__ cNeed)) :
    FnOk Pg w K mg base CX0 6 a fd ["self", "other"] (spD K (fs_Need_m___mul__ cNeed)) := by
  have n_Need_start : ClsA K cNeed "start" := ⟨T.cl_Need, T.n_Need_start⟩
  have n_Need_rises : ClsA K cNeed "rises" := ⟨T.cl_Need, T.n_Need_rises⟩
  have n_Need_never : ClsA K cNeed "never" := ⟨T.cl_Need, T.n_Need_never⟩
  have n_Need__values : ClsA K cNeed "_values" := ⟨T.cl_Need, T.n_Need__values⟩
  have is_Need := T.is_Need
  refine Fun.okD [] F sc_Need_m___mul__ (fun ds QD h => ?_) (fun cdv A outer s H E hr => ⟨_, _, (dss_cons (ds_if (dt_not (dt_chain op_le os_le op_le os_le de_int (de_v 1 (pv 1)) de_int))
    (dss_one ds_never)
    dss_nil)
    (dss_cons (ds_asg (de_make (fun h => pe_make C_Need_m___init__.m C_Need_m___init__.ok (hr.mono (by decide)) (by rfl) C_Need_m___init__.g C_Need_m___init__.b .nil pass0 h) (da_cons de_int (da_cons (de_tup (da_cons (de_tup (da_cons de_int (da_cons de_non da_nil))) da_nil)) (da_cons de_non da_nil)))) (dg_name (pg_name (i := 2) sc_Need_m___mul__.nd rfl (by first | exact .inl rfl | exact .inr rfl))))
    (dss_cons (ds_asg (de_v 0 (pv 0)) (dg_name (pg_name (i := 3) sc_Need_m___mul__.nd rfl (by first | exact .inl rfl | exact .inr rfl))))
    (dss_cons (ds_asg (de_v 1 (pv 1)) (dg_name (pg_name (i := 4) sc_Need_m___mul__.nd rfl (by first | exact .inl rfl | exact .inr rfl))))
    (dss_cons (ds_while PassesOwn.never (dt_cmp op_gt os_gt (de_v 4 (pv 4)) de_int (nomark _))
    (dss_mid (ds_if (dt_tru (de_op op_odd os_odd (de_v 4 (pv 4)) de_int))
    (dss_one (ds_asg (de_op (op_ownB C_Need_m___rshift__.o T.sf_Need (C_Need_m___rshift__.ok.raw C_Need_m___rshift__.b .nil) hr pass0) os_ownB (de_v 2 (pv 2)) (de_v 3 (pv 3))) (dg_name (pg_name (i := 2) sc_Need_m___mul__.nd rfl (by first | exact .inl rfl | exact .inr rfl)))))
    dss_nil)
    (dss_cons (ds_asg (de_op op_fdivW os_div (de_v 4 (pv 4)) de_int) (dg_name (pg_name (i := 4) sc_Need_m___mul__.nd rfl (by first | exact .inl rfl | exact .inr rfl))))
    (dss_one (ds_asg (de_ifExp (dt_cmp op_gt os_gt (de_v 4 (pv 4)) de_int (nomark _)) (de_op (op_ownB C_Need_m___rshift__.o T.sf_Need (C_Need_m___rshift__.ok.raw C_Need_m___rshift__.b .nil) hr pass0) os_ownB (de_v 3 (pv 3)) (de_v 3 (pv 3))) (de_v 3 (pv 3))) (dg_name (pg_name (i := 3) sc_Need_m___mul__.nd rfl (by first | exact .inl rfl | exact .inr rfl))))))))
    (dss_one (ds_ret (de_v 2 (pv 2))))))))), fun ds QD h => ?_⟩)
  · first
      | (obtain ⟨rfl, _⟩ := h; exact ⟨rfl, rfl⟩)
      | (obtain ⟨_, rfl, _⟩ := h; exact ⟨rfl, rfl⟩)
      | (obtain ⟨_, _, rfl, _⟩ := h; exact ⟨rfl, rfl⟩)
      | (obtain ⟨_, _, _, rfl, _⟩ := h; exact ⟨rfl, rfl⟩)
      | (obtain ⟨_, _, _, _, rfl, _⟩ := h; exact ⟨rfl, rfl⟩)
      | (obtain ⟨_, _, _, _, _, rfl, _⟩ := h; exact ⟨rfl, rfl⟩)
      | (obtain ⟨_, _, _, _, _, _, rfl, _⟩ := h; exact ⟨rfl, rfl⟩)
      | (obtain ⟨_, _, _, _, _, _, _, rfl, _⟩ := h; exact ⟨rfl, rfl⟩)
      | (obtain ⟨_, _, _, _, _, _, _, _, rfl, _⟩ := h; exact ⟨rfl, rfl⟩)
      | (obtain ⟨_, _, _, _, _, _, _, _, _, rfl, _⟩ := h; exact ⟨rfl, rfl⟩)
      | (obtain ⟨_, _, _, _, _, _, _, _, _, _, rfl, _⟩ := h; exact ⟨rfl, rfl⟩)
      | (obtain ⟨_, _, _, _, _, _, _, _, _, _, _, rfl, _⟩ := h; exact ⟨rfl, rfl⟩)
  · obtain ⟨n, c, rfl, ⟨ok, hc, hl, hl1⟩, q⟩ := h
    walk_at "ax"
    refine ⟨true, ⟨some 0, [(0, none)], none⟩, rfl, nok_id, ?_⟩
    walk_at "ax"
    refine ⟨fun m e => ∃ (p r l : Nat) (np nr : Nd), e = [some (.sh (ndP cNeed n)), some (.sh (.int (c : Int))), some (.sh (ndP cNeed nr)), some (.sh (ndP cNeed np)), some (.sh (.int (l : Int)))] ∧ r + p * l = c ∧ PwN n r nr ∧ PwN n p np ∧ nr.rs.length ≤ 1 + n.rs.length * r ∧ np.rs.length ≤ n.rs.length * p ∧ m = l, ⟨_, 1, 0, c, n, ⟨some 0, [(0, none)], none⟩, rfl, by omega, pw_id n, pw_one ok, by show 1 ≤ _; omega, by omega, rfl⟩, fun l e hI => ?_⟩
    obtain ⟨p, r, _, np, nr, rfl, hs, hr, hp, lr, lp, rfl⟩ := hI
    rcases Nat.eq_zero_or_pos l with rfl | hl0
    · walk_at "ax"
      rw [show r = c by omega] at hr lr
      exact q nr hr (by omega)
    · have hpc : p ≤ c := by
        have : p * 1 ≤ p * l := Nat.mul_le_mul_left p hl0
        omega
      have h1 : n.rs.length * r ≤ n.rs.length * c := Nat.mul_le_mul_left _ (by omega)
      have h2 : n.rs.length * p ≤ n.rs.length * c := Nat.mul_le_mul_left _ hpc
      walk_at "ax"
      refine ⟨fun env => ∃ (r' : Nat) (nr' : Nd), env = [some (.sh (ndP cNeed n)), some (.sh (.int (c : Int))), some (.sh (ndP cNeed nr')), some (.sh (ndP cNeed np)), some (.sh (.int (l : Int)))] ∧ r' + 2 * p * (l / 2) = c ∧ PwN n r' nr' ∧ nr'.rs.length ≤ 1 + n.rs.length * r', ?_, ?_⟩
      · walk_at "ax"
        · rename_i hodd0
          have hodd : l % 2 = 1 := by simp at hodd0; omega
          refine ⟨nr, np, rfl, ⟨hr.ok, hp.ok, by omega, by omega⟩, fun m hm => ?_⟩
          walk_at "ax"
          refine ⟨p + r, m, rfl, ?_, hr.step ok hp hm, ?_⟩
          · have e1 : l = 2 * (l / 2) + 1 := by omega
            have e2 : p * l = 2 * p * (l / 2) + p := by
              calc p * l = p * (2 * (l / 2) + 1) := by rw [← e1]
                _ = p * (2 * (l / 2)) + p := Nat.mul_succ p _
                _ = 2 * p * (l / 2) + p := by rw [Nat.mul_comm 2 p, Nat.mul_assoc]
            omega
          · have := hm.len
            rw [Nat.mul_add]
            omega
        · rename_i hodd0
          have hodd : l % 2 = 0 := by simp at hodd0; omega
          refine ⟨r, nr, rfl, ?_, hr, lr⟩
          have e1 : l = 2 * (l / 2) := by omega
          have e2 : p * l = 2 * p * (l / 2) := by
            calc p * l = p * (2 * (l / 2)) := by rw [← e1]
              _ = 2 * p * (l / 2) := by rw [Nat.mul_comm 2 p, Nat.mul_assoc]
          omega
      rintro _ ⟨r', nr', rfl, hs', hr', lr'⟩
      have el : (l : Int) / 2 = ((l / 2 : Nat) : Int) := by omega
      walk_at "ax"
      · rename_i hlp
        rw [el] at hlp
        refine ⟨np, np, rfl, ⟨hp.ok, hp.ok, by omega, by omega⟩, fun m hm => ?_⟩
        walk_at "ax"
        refine ⟨l / 2, by omega, 2 * p, r', l / 2, m, nr', by rw [← el]; rfl, hs', hr', ?_, lr', ?_, rfl⟩
        · rw [show 2 * p = p + p by omega]
          exact hp.step ok hp hm
        · have := hm.len
          rw [show 2 * p = p + p by omega, Nat.mul_add]
          omega
      · rename_i hlp
        rw [el] at hlp
        have h0 : l / 2 = 0 := by omega
        refine ⟨l / 2, by omega, p, r', l / 2, np, nr', by rw [← el]; rfl, ?_, hr', hp, lr', lp, rfl⟩
        rw [h0] at hs' ⊢
        omega
/-! ### _law_lattice -/
abbrev s__law_lattice : Stmt := topS 35
theorem sc__law_lattice : FnScope ["_law_f", "_law_g", "_law_h"] ["_law_f", "_law_g", "_law_h"] (defScope s__law_lattice) := ⟨rfl, rfl, rfl, by decide +kernel, rfl, by decide +kernel, by decide +kernel⟩
def fs__law_lattice (cNeed : Addr) : FSp := fun ds Q => ∃ (f g h : Nd), ds = [.sh (ndP cNeed f), .sh (ndP cNeed g), .sh (ndP cNeed h)] ∧ (T0 f ∧ T0 g ∧ T0 h) ∧ Q (.sh (.bl true)) ds
theorem ok__law_lattice {Pg : Program} {w : World} {K : PySem.W.Frag} {mg : Str → Option Value} {base : Heap} {a : Addr} {fd : FuncData} (F : L2.Fun K "_law_lattice" "_law_lattice" s__law_lattice a fd)
    {cNeed : Addr} (T : Txt K mg cNeed)
    {a__law_alike : Addr} {d__law_alike : FuncData} (C__law_alike : Callee Pg w K mg base 2 "_law_alike" a__law_alike d__law_alike ["_law_one", "_law_other"] (fs__law_alike cNeed))
    {a_Need_m___rshift__ : Addr} {d_Need_m___rshift__ : FuncData} (C_Need_m___rshift__ : CalleeP Pg w K mg base 5 cNeed "__rshift__" a_Need_m___rshift__ d_Need_m___rshift__ ["self", "other"] (fs_Need_m___rshift__ cNeed))
    {a_Need_m___or__ : Addr} {d_Need_m___or__ : FuncData} (C_Need_m___or__ : CalleeP Pg w K mg base 5 cNeed "__or__" a_Need_m___or__ d_Need_m___or__ ["self", "other"] (fs_Need_m___or__ cNeed))
    {a_Need_m___and__ : Addr} {d_Need_m___and__ : FuncData} (C_Need_m___and__ : CalleeP Pg w K mg base 5 cNeed "__and__" a_Need_m___and__ d_Need_m___and__ ["self", "other"] (fs_Need_m___and__ cNeed)) :
    FnOk Pg w K mg base CX0 6 a fd ["_law_f", "_law_g", "_law_h"] (spD K (fs__law_lattice cNeed)) := by
  have n_Need_start : ClsA K cNeed "start" := ⟨T.cl_Need, T.n_Need_start⟩
  have n_Need_rises : ClsA K cNeed "rises" := ⟨T.cl_Need, T.n_Need_rises⟩
  have n_Need_never : ClsA K cNeed "never" := ⟨T.cl_Need, T.n_Need_never⟩
  have n_Need__values : ClsA K cNeed "_values" := ⟨T.cl_Need, T.n_Need__values⟩
  have is_Need := T.is_Need
  refine Fun.okD [] F sc__law_lattice (fun ds QD h => ?_) (fun cdv A outer s H E hr => ⟨_, _, (dss_cons (ds_if (DW.pt (dw_or (dt_not (dt_tru (de_o (do_callP (fun h => pe_call C__law_alike.ok (hr.mono (by decide)) (by rfl) C__law_alike.g C__law_alike.kp C__law_alike.b .nil pass0 h) (da_cons (de_op (op_ownB C_Need_m___rshift__.o T.sf_Need (C_Need_m___rshift__.ok.raw C_Need_m___rshift__.b .nil) hr pass0) os_ownB (de_op (op_ownB C_Need_m___or__.o T.sf_Need (C_Need_m___or__.ok.raw C_Need_m___or__.b .nil) hr pass0) os_ownB (de_v 0 (pv 0)) (de_v 1 (pv 1))) (de_v 2 (pv 2))) (da_cons (de_op (op_ownB C_Need_m___or__.o T.sf_Need (C_Need_m___or__.ok.raw C_Need_m___or__.b .nil) hr pass0) os_ownB (de_op (op_ownB C_Need_m___rshift__.o T.sf_Need (C_Need_m___rshift__.ok.raw C_Need_m___rshift__.b .nil) hr pass0) os_ownB (de_v 0 (pv 0)) (de_v 2 (pv 2))) (de_op (op_ownB C_Need_m___rshift__.o T.sf_Need (C_Need_m___rshift__.ok.raw C_Need_m___rshift__.b .nil) hr pass0) os_ownB (de_v 1 (pv 1)) (de_v 2 (pv 2)))) da_nil)))))) (dw_or1 (dt_not (dt_tru (de_o (do_callP (fun h => pe_call C__law_alike.ok (hr.mono (by decide)) (by rfl) C__law_alike.g C__law_alike.kp C__law_alike.b .nil pass0 h) (da_cons (de_op (op_ownB C_Need_m___rshift__.o T.sf_Need (C_Need_m___rshift__.ok.raw C_Need_m___rshift__.b .nil) hr pass0) os_ownB (de_op (op_ownB C_Need_m___and__.o T.sf_Need (C_Need_m___and__.ok.raw C_Need_m___and__.b .nil) hr pass0) os_ownB (de_v 0 (pv 0)) (de_v 1 (pv 1))) (de_v 2 (pv 2))) (da_cons (de_op (op_ownB C_Need_m___and__.o T.sf_Need (C_Need_m___and__.ok.raw C_Need_m___and__.b .nil) hr pass0) os_ownB (de_op (op_ownB C_Need_m___rshift__.o T.sf_Need (C_Need_m___rshift__.ok.raw C_Need_m___rshift__.b .nil) hr pass0) os_ownB (de_v 0 (pv 0)) (de_v 2 (pv 2))) (de_op (op_ownB C_Need_m___rshift__.o T.sf_Need (C_Need_m___rshift__.ok.raw C_Need_m___rshift__.b .nil) hr pass0) os_ownB (de_v 1 (pv 1)) (de_v 2 (pv 2)))) da_nil)))))))))
    (dss_one (ds_ret de_bl))
    dss_nil)
    (dss_cons (ds_if (DW.pt (dw_or (dt_not (dt_tru (de_o (do_callP (fun h => pe_call C__law_alike.ok (hr.mono (by decide)) (by rfl) C__law_alike.g C__law_alike.kp C__law_alike.b .nil pass0 h) (da_cons (de_op (op_ownB C_Need_m___or__.o T.sf_Need (C_Need_m___or__.ok.raw C_Need_m___or__.b .nil) hr pass0) os_ownB (de_v 0 (pv 0)) (de_v 0 (pv 0))) (da_cons (de_v 0 (pv 0)) da_nil)))))) (dw_or (dt_not (dt_tru (de_o (do_callP (fun h => pe_call C__law_alike.ok (hr.mono (by decide)) (by rfl) C__law_alike.g C__law_alike.kp C__law_alike.b .nil pass0 h) (da_cons (de_op (op_ownB C_Need_m___and__.o T.sf_Need (C_Need_m___and__.ok.raw C_Need_m___and__.b .nil) hr pass0) os_ownB (de_v 0 (pv 0)) (de_v 0 (pv 0))) (da_cons (de_v 0 (pv 0)) da_nil)))))) (dw_or1 (dt_not (dt_tru (de_o (do_callP (fun h => pe_call C__law_alike.ok (hr.mono (by decide)) (by rfl) C__law_alike.g C__law_alike.kp C__law_alike.b .nil pass0 h) (da_cons (de_op (op_ownB C_Need_m___or__.o T.sf_Need (C_Need_m___or__.ok.raw C_Need_m___or__.b .nil) hr pass0) os_ownB (de_v 0 (pv 0)) (de_op (op_ownB C_Need_m___and__.o T.sf_Need (C_Need_m___and__.ok.raw C_Need_m___and__.b .nil) hr pass0) os_ownB (de_v 0 (pv 0)) (de_v 1 (pv 1)))) (da_cons (de_v 0 (pv 0)) da_nil))))))))))
    (dss_one (ds_ret de_bl))
    dss_nil)
    (dss_cons (ds_if (DW.pt (dw_or (dt_not (dt_tru (de_o (do_callP (fun h => pe_call C__law_alike.ok (hr.mono (by decide)) (by rfl) C__law_alike.g C__law_alike.kp C__law_alike.b .nil pass0 h) (da_cons (de_op (op_ownB C_Need_m___and__.o T.sf_Need (C_Need_m___and__.ok.raw C_Need_m___and__.b .nil) hr pass0) os_ownB (de_v 0 (pv 0)) (de_op (op_ownB C_Need_m___or__.o T.sf_Need (C_Need_m___or__.ok.raw C_Need_m___or__.b .nil) hr pass0) os_ownB (de_v 0 (pv 0)) (de_v 1 (pv 1)))) (da_cons (de_v 0 (pv 0)) da_nil)))))) (dw_or (dt_not (dt_tru (de_o (do_callP (fun h => pe_call C__law_alike.ok (hr.mono (by decide)) (by rfl) C__law_alike.g C__law_alike.kp C__law_alike.b .nil pass0 h) (da_cons (de_op (op_ownB C_Need_m___or__.o T.sf_Need (C_Need_m___or__.ok.raw C_Need_m___or__.b .nil) hr pass0) os_ownB (de_v 0 (pv 0)) (de_v 1 (pv 1))) (da_cons (de_op (op_ownB C_Need_m___or__.o T.sf_Need (C_Need_m___or__.ok.raw C_Need_m___or__.b .nil) hr pass0) os_ownB (de_v 1 (pv 1)) (de_v 0 (pv 0))) da_nil)))))) (dw_or1 (dt_not (dt_tru (de_o (do_callP (fun h => pe_call C__law_alike.ok (hr.mono (by decide)) (by rfl) C__law_alike.g C__law_alike.kp C__law_alike.b .nil pass0 h) (da_cons (de_op (op_ownB C_Need_m___and__.o T.sf_Need (C_Need_m___and__.ok.raw C_Need_m___and__.b .nil) hr pass0) os_ownB (de_v 0 (pv 0)) (de_v 1 (pv 1))) (da_cons (de_op (op_ownB C_Need_m___and__.o T.sf_Need (C_Need_m___and__.ok.raw C_Need_m___and__.b .nil) hr pass0) os_ownB (de_v 1 (pv 1)) (de_v 0 (pv 0))) da_nil))))))))))
    (dss_one (ds_ret de_bl))
    dss_nil)
    (dss_one (ds_ret (de_and (de_o (do_callP (fun h => pe_call C__law_alike.ok (hr.mono (by decide)) (by rfl) C__law_alike.g C__law_alike.kp C__law_alike.b .nil pass0 h) (da_cons (de_op (op_ownB C_Need_m___or__.o T.sf_Need (C_Need_m___or__.ok.raw C_Need_m___or__.b .nil) hr pass0) os_ownB (de_op (op_ownB C_Need_m___or__.o T.sf_Need (C_Need_m___or__.ok.raw C_Need_m___or__.b .nil) hr pass0) os_ownB (de_v 0 (pv 0)) (de_v 1 (pv 1))) (de_v 2 (pv 2))) (da_cons (de_op (op_ownB C_Need_m___or__.o T.sf_Need (C_Need_m___or__.ok.raw C_Need_m___or__.b .nil) hr pass0) os_ownB (de_v 0 (pv 0)) (de_op (op_ownB C_Need_m___or__.o T.sf_Need (C_Need_m___or__.ok.raw C_Need_m___or__.b .nil) hr pass0) os_ownB (de_v 1 (pv 1)) (de_v 2 (pv 2)))) da_nil)))) (de_one (de_o (do_callP (fun h => pe_call C__law_alike.ok (hr.mono (by decide)) (by rfl) C__law_alike.g C__law_alike.kp C__law_alike.b .nil pass0 h) (da_cons (de_op (op_ownB C_Need_m___and__.o T.sf_Need (C_Need_m___and__.ok.raw C_Need_m___and__.b .nil) hr pass0) os_ownB (de_v 0 (pv 0)) (de_op (op_ownB C_Need_m___or__.o T.sf_Need (C_Need_m___or__.ok.raw C_Need_m___or__.b .nil) hr pass0) os_ownB (de_v 1 (pv 1)) (de_v 2 (pv 2)))) (da_cons (de_op (op_ownB C_Need_m___or__.o T.sf_Need (C_Need_m___or__.ok.raw C_Need_m___or__.b .nil) hr pass0) os_ownB (de_op (op_ownB C_Need_m___and__.o T.sf_Need (C_Need_m___and__.ok.raw C_Need_m___and__.b .nil) hr pass0) os_ownB (de_v 0 (pv 0)) (de_v 1 (pv 1))) (de_op (op_ownB C_Need_m___and__.o T.sf_Need (C_Need_m___and__.ok.raw C_Need_m___and__.b .nil) hr pass0) os_ownB (de_v 0 (pv 0)) (de_v 2 (pv 2)))) da_nil))))))))))), fun ds QD h => ?_⟩)
  · first
      | (obtain ⟨rfl, _⟩ := h; exact ⟨rfl, rfl⟩)
      | (obtain ⟨_, rfl, _⟩ := h; exact ⟨rfl, rfl⟩)
      | (obtain ⟨_, _, rfl, _⟩ := h; exact ⟨rfl, rfl⟩)
      | (obtain ⟨_, _, _, rfl, _⟩ := h; exact ⟨rfl, rfl⟩)
      | (obtain ⟨_, _, _, _, rfl, _⟩ := h; exact ⟨rfl, rfl⟩)
      | (obtain ⟨_, _, _, _, _, rfl, _⟩ := h; exact ⟨rfl, rfl⟩)
      | (obtain ⟨_, _, _, _, _, _, rfl, _⟩ := h; exact ⟨rfl, rfl⟩)
      | (obtain ⟨_, _, _, _, _, _, _, rfl, _⟩ := h; exact ⟨rfl, rfl⟩)
      | (obtain ⟨_, _, _, _, _, _, _, _, rfl, _⟩ := h; exact ⟨rfl, rfl⟩)
      | (obtain ⟨_, _, _, _, _, _, _, _, _, rfl, _⟩ := h; exact ⟨rfl, rfl⟩)
      | (obtain ⟨_, _, _, _, _, _, _, _, _, _, rfl, _⟩ := h; exact ⟨rfl, rfl⟩)
      | (obtain ⟨_, _, _, _, _, _, _, _, _, _, _, rfl, _⟩ := h; exact ⟨rfl, rfl⟩)
  · obtain ⟨f, g, h, rfl, ⟨tf, tg, th⟩, q⟩ := h
    have sf := tf.t1
    have sg := tg.t1
    have sh := th.t1
    walk_at "ax"
    refine ⟨f, g, rfl, pr sf sg, fun a1 x1 => ?_⟩
    walk_at "ax"
    refine ⟨a1, h, rfl, pq (t_or x1 tf tg) sh, fun a2 x2 => ?_⟩
    walk_at "ax"
    refine ⟨f, h, rfl, pq sf sh, fun a3 x3 => ?_⟩
    walk_at "ax"
    refine ⟨g, h, rfl, pq sg sh, fun a4 x4 => ?_⟩
    walk_at "ax"
    refine ⟨a3, a4, rfl, pr (t_rs x3 tf th) (t_rs x4 tg th), fun a5 x5 => ?_⟩
    walk_at "ax"
    obtain rfl := or_rs th.ok x1 x2 x3 x4 x5
    refine ⟨a2, rfl, ?_⟩
    walk_at "ax"
    clear x1 x2 x3 x4 x5
    refine ⟨f, g, rfl, pr sf sg, fun b1 x1 => ?_⟩
    walk_at "ax"
    refine ⟨b1, h, rfl, pq (t_and x1 tf tg) sh, fun b2 x2 => ?_⟩
    walk_at "ax"
    refine ⟨f, h, rfl, pq sf sh, fun b3 x3 => ?_⟩
    walk_at "ax"
    refine ⟨g, h, rfl, pq sg sh, fun b4 x4 => ?_⟩
    walk_at "ax"
    refine ⟨b3, b4, rfl, pr (t_rs x3 tf th) (t_rs x4 tg th), fun b5 x5 => ?_⟩
    walk_at "ax"
    obtain rfl := and_rs th.ok x1 x2 x3 x4 x5
    refine ⟨b2, rfl, ?_⟩
    walk_at "ax"
    clear x1 x2 x3 x4 x5
    refine ⟨f, f, rfl, pr sf sf, fun c1 x1 => ?_⟩
    walk_at "ax"
    obtain rfl := (or_self tf.ok x1).symm
    refine ⟨f, rfl, ?_⟩
    walk_at "ax"
    refine ⟨f, f, rfl, pr sf sf, fun c2 x2 => ?_⟩
    walk_at "ax"
    obtain rfl := (and_self_ tf.ok x2).symm
    refine ⟨f, rfl, ?_⟩
    walk_at "ax"
    refine ⟨f, g, rfl, pr sf sg, fun c3 x3 => ?_⟩
    walk_at "ax"
    refine ⟨f, c3, rfl, pr sf (t_and x3 tf tg), fun c4 x4 => ?_⟩
    walk_at "ax"
    obtain rfl := (or_and tf.ok x3 x4).symm
    refine ⟨f, rfl, ?_⟩
    walk_at "ax"
    refine ⟨f, g, rfl, pr sf sg, fun c5 x5 => ?_⟩
    walk_at "ax"
    refine ⟨f, c5, rfl, pr sf (t_or x5 tf tg), fun c6 x6 => ?_⟩
    walk_at "ax"
    obtain rfl := (and_or tf.ok x5 x6).symm
    refine ⟨f, rfl, ?_⟩
    walk_at "ax"
    refine ⟨f, g, rfl, pr sf sg, fun d1 y1 => ?_⟩
    walk_at "ax"
    refine ⟨g, f, rfl, pr sg sf, fun d2 y2 => ?_⟩
    walk_at "ax"
    obtain rfl := (or_comm_ y2 y1).symm
    refine ⟨d1, rfl, ?_⟩
    walk_at "ax"
    refine ⟨f, g, rfl, pr sf sg, fun d3 y3 => ?_⟩
    walk_at "ax"
    refine ⟨g, f, rfl, pr sg sf, fun d4 y4 => ?_⟩
    walk_at "ax"
    obtain rfl := (and_comm_ y4 y3).symm
    refine ⟨d3, rfl, ?_⟩
    walk_at "ax"
    refine ⟨f, g, rfl, pr sf sg, fun e1 z1 => ?_⟩
    walk_at "ax"
    refine ⟨e1, h, rfl, pr (t_or z1 tf tg) sh, fun e2 z2 => ?_⟩
    walk_at "ax"
    refine ⟨g, h, rfl, pr sg sh, fun e3 z3 => ?_⟩
    walk_at "ax"
    refine ⟨f, e3, rfl, pr sf (t_or z3 tg th), fun e4 z4 => ?_⟩
    walk_at "ax"
    obtain rfl := or_assoc_ z1 z2 z3 z4
    refine ⟨e2, rfl, ?_⟩
    walk_at "ax"
    refine ⟨g, h, rfl, pr sg sh, fun f1 w1 => ?_⟩
    walk_at "ax"
    refine ⟨f, f1, rfl, pr sf (t_or w1 tg th), fun f2 w2 => ?_⟩
    walk_at "ax"
    refine ⟨f, g, rfl, pr sf sg, fun f3 w3 => ?_⟩
    walk_at "ax"
    refine ⟨f, h, rfl, pr sf sh, fun f4 w4 => ?_⟩
    walk_at "ax"
    refine ⟨f3, f4, rfl, pr (t_and w3 tf tg) (t_and w4 tf th), fun f5 w5 => ?_⟩
    walk_at "ax"
    obtain rfl := and_dist w1 w2 w3 w4 w5
    refine ⟨f2, rfl, ?_⟩
    walk_at "ax"
    exact q
/-! ### _law_rounds -/
abbrev s__law_rounds : Stmt := topS 36
theorem sc__law_rounds : FnScope ["_law_f", "_law_g", "_law_mine", "_law_theirs"] ["_law_f", "_law_g"] (defScope s__law_rounds) := ⟨rfl, rfl, rfl, by decide +kernel, rfl, by decide +kernel, by decide +kernel⟩
def fs__law_rounds (cNeed : Addr) : FSp := fun ds Q => ∃ (f g : Nd), ds = [.sh (ndP cNeed f), .sh (ndP cNeed g)] ∧ (T0 f ∧ T0 g) ∧ Q (.sh (.bl true)) ds
theorem ok__law_rounds {Pg : Program} {w : World} {K : PySem.W.Frag} {mg : Str → Option Value} {base : Heap} {a : Addr} {fd : FuncData} (F : L2.Fun K "_law_rounds" "_law_rounds" s__law_rounds a fd)
    {cNeed : Addr} (T : Txt K mg cNeed)
    {a_Need_m_mine : Addr} {d_Need_m_mine : FuncData} (C_Need_m_mine : CalleeM Pg w K mg base 5 cNeed "mine" a_Need_m_mine d_Need_m_mine ["self"] (fs_Need_m_mine cNeed))
    {a_Need_m_theirs : Addr} {d_Need_m_theirs : FuncData} (C_Need_m_theirs : CalleeM Pg w K mg base 5 cNeed "theirs" a_Need_m_theirs d_Need_m_theirs ["self"] (fs_Need_m_theirs cNeed))
    {a__law_alike : Addr} {d__law_alike : FuncData} (C__law_alike : Callee Pg w K mg base 2 "_law_alike" a__law_alike d__law_alike ["_law_one", "_law_other"] (fs__law_alike cNeed))
    {a_Need_m___rshift__ : Addr} {d_Need_m___rshift__ : FuncData} (C_Need_m___rshift__ : CalleeP Pg w K mg base 5 cNeed "__rshift__" a_Need_m___rshift__ d_Need_m___rshift__ ["self", "other"] (fs_Need_m___rshift__ cNeed))
    {a_Need_m_excess : Addr} {d_Need_m_excess : FuncData} (C_Need_m_excess : CalleeM Pg w K mg base 4 cNeed "excess" a_Need_m_excess d_Need_m_excess ["self", "other"] (fs_Need_m_excess cNeed))
    {a_Need_m_endless : Addr} {d_Need_m_endless : FuncData} (C_Need_m_endless : CalleeM Pg w K mg base 5 cNeed "endless" a_Need_m_endless d_Need_m_endless ["self"] (fs_Need_m_endless cNeed)) :
    FnOk Pg w K mg base CX0 6 a fd ["_law_f", "_law_g"] (spD K (fs__law_rounds cNeed)) := by
  have n_Need_start : ClsA K cNeed "start" := ⟨T.cl_Need, T.n_Need_start⟩
  have n_Need_rises : ClsA K cNeed "rises" := ⟨T.cl_Need, T.n_Need_rises⟩
  have n_Need_never : ClsA K cNeed "never" := ⟨T.cl_Need, T.n_Need_never⟩
  have n_Need__values : ClsA K cNeed "_values" := ⟨T.cl_Need, T.n_Need__values⟩
  have is_Need := T.is_Need
  refine Fun.okD [] F sc__law_rounds (fun ds QD h => ?_) (fun cdv A outer s H E hr => ⟨_, _, (dss_cons (ds_asg (de_meth0 (fun ho => pe_meth0 ho C_Need_m_mine.c C_Need_m_mine.m C_Need_m_mine.ok hr C_Need_m_mine.b .nil pass0) (de_v 0 (pv 0))) (dg_name (pg_name (i := 2) sc__law_rounds.nd rfl (by first | exact .inl rfl | exact .inr rfl))))
    (dss_cons (ds_asg (de_meth0 (fun ho => pe_meth0 ho C_Need_m_theirs.c C_Need_m_theirs.m C_Need_m_theirs.ok hr C_Need_m_theirs.b .nil pass0) (de_v 0 (pv 0))) (dg_name (pg_name (i := 3) sc__law_rounds.nd rfl (by first | exact .inl rfl | exact .inr rfl))))
    (dss_cons (ds_if (DW.pt (dw_or (dt_not (dt_tru (de_o (do_callP (fun h => pe_call C__law_alike.ok (hr.mono (by decide)) (by rfl) C__law_alike.g C__law_alike.kp C__law_alike.b .nil pass0 h) (da_cons (de_op (op_ownB C_Need_m___rshift__.o T.sf_Need (C_Need_m___rshift__.ok.raw C_Need_m___rshift__.b .nil) hr pass0) os_ownB (de_v 2 (pv 2)) (de_v 2 (pv 2))) (da_cons (de_v 2 (pv 2)) da_nil)))))) (dw_or1 (dt_not (dt_tru (de_o (do_callP (fun h => pe_call C__law_alike.ok (hr.mono (by decide)) (by rfl) C__law_alike.g C__law_alike.kp C__law_alike.b .nil pass0 h) (da_cons (de_meth0 (fun ho => pe_meth0 ho C_Need_m_mine.c C_Need_m_mine.m C_Need_m_mine.ok hr C_Need_m_mine.b .nil pass0) (de_v 2 (pv 2))) (da_cons (de_v 2 (pv 2)) da_nil)))))))))
    (dss_one (ds_ret de_bl))
    dss_nil)
    (dss_cons (ds_if (DW.pt (dw_or (dt_not (dt_tru (de_o (do_callP (fun h => pe_call C__law_alike.ok (hr.mono (by decide)) (by rfl) C__law_alike.g C__law_alike.kp C__law_alike.b .nil pass0 h) (da_cons (de_op (op_ownB C_Need_m___rshift__.o T.sf_Need (C_Need_m___rshift__.ok.raw C_Need_m___rshift__.b .nil) hr pass0) os_ownB (de_v 3 (pv 3)) (de_v 3 (pv 3))) (da_cons (de_v 3 (pv 3)) da_nil)))))) (dw_or1 (dt_not (dt_tru (de_o (do_callP (fun h => pe_call C__law_alike.ok (hr.mono (by decide)) (by rfl) C__law_alike.g C__law_alike.kp C__law_alike.b .nil pass0 h) (da_cons (de_meth0 (fun ho => pe_meth0 ho C_Need_m_theirs.c C_Need_m_theirs.m C_Need_m_theirs.ok hr C_Need_m_theirs.b .nil pass0) (de_v 3 (pv 3))) (da_cons (de_v 3 (pv 3)) da_nil)))))))))
    (dss_one (ds_ret de_bl))
    dss_nil)
    (dss_cons (ds_if (DW.pt (dw_or (dt_cmp (op_neD hr.units) os_neD (de_meth (fun ho h => pe_meth ho C_Need_m_excess.c C_Need_m_excess.m C_Need_m_excess.ok (hr.mono (by decide)) C_Need_m_excess.b .nil pass0 h) (de_v 2 (pv 2)) (da_cons (de_v 0 (pv 0)) da_nil)) (de_tup da_nil) (nomark _)) (dw_or1 (dt_cmp (op_neD hr.units) os_neD (de_meth (fun ho h => pe_meth ho C_Need_m_excess.c C_Need_m_excess.m C_Need_m_excess.ok (hr.mono (by decide)) C_Need_m_excess.b .nil pass0 h) (de_v 0 (pv 0)) (da_cons (de_v 3 (pv 3)) da_nil)) (de_tup da_nil) (nomark _)))))
    (dss_one (ds_ret de_bl))
    dss_nil)
    (dss_one (ds_ret (de_and (de_o (do_callP (fun h => pe_call C__law_alike.ok (hr.mono (by decide)) (by rfl) C__law_alike.g C__law_alike.kp C__law_alike.b .nil pass0 h) (da_cons (de_op (op_ownB C_Need_m___rshift__.o T.sf_Need (C_Need_m___rshift__.ok.raw C_Need_m___rshift__.b .nil) hr pass0) os_ownB (de_meth0 (fun ho => pe_meth0 ho C_Need_m_endless.c C_Need_m_endless.m C_Need_m_endless.ok hr C_Need_m_endless.b .nil pass0) (de_v 0 (pv 0))) (de_v 1 (pv 1))) (da_cons (de_meth0 (fun ho => pe_meth0 ho C_Need_m_endless.c C_Need_m_endless.m C_Need_m_endless.ok hr C_Need_m_endless.b .nil pass0) (de_v 0 (pv 0))) da_nil)))) (de_one (de_o (do_callP (fun h => pe_call C__law_alike.ok (hr.mono (by decide)) (by rfl) C__law_alike.g C__law_alike.kp C__law_alike.b .nil pass0 h) (da_cons (de_op (op_ownB C_Need_m___rshift__.o T.sf_Need (C_Need_m___rshift__.ok.raw C_Need_m___rshift__.b .nil) hr pass0) os_ownB (de_v 0 (pv 0)) (de_meth0 (fun ho => pe_meth0 ho C_Need_m_endless.c C_Need_m_endless.m C_Need_m_endless.ok hr C_Need_m_endless.b .nil pass0) (de_v 0 (pv 0)))) (da_cons (de_meth0 (fun ho => pe_meth0 ho C_Need_m_endless.c C_Need_m_endless.m C_Need_m_endless.ok hr C_Need_m_endless.b .nil pass0) (de_v 0 (pv 0))) da_nil))))))))))))), fun ds QD h => ?_⟩)
  · first
      | (obtain ⟨rfl, _⟩ := h; exact ⟨rfl, rfl⟩)
      | (obtain ⟨_, rfl, _⟩ := h; exact ⟨rfl, rfl⟩)
      | (obtain ⟨_, _, rfl, _⟩ := h; exact ⟨rfl, rfl⟩)
      | (obtain ⟨_, _, _, rfl, _⟩ := h; exact ⟨rfl, rfl⟩)
      | (obtain ⟨_, _, _, _, rfl, _⟩ := h; exact ⟨rfl, rfl⟩)
      | (obtain ⟨_, _, _, _, _, rfl, _⟩ := h; exact ⟨rfl, rfl⟩)
      | (obtain ⟨_, _, _, _, _, _, rfl, _⟩ := h; exact ⟨rfl, rfl⟩)
      | (obtain ⟨_, _, _, _, _, _, _, rfl, _⟩ := h; exact ⟨rfl, rfl⟩)
      | (obtain ⟨_, _, _, _, _, _, _, _, rfl, _⟩ := h; exact ⟨rfl, rfl⟩)
      | (obtain ⟨_, _, _, _, _, _, _, _, _, rfl, _⟩ := h; exact ⟨rfl, rfl⟩)
      | (obtain ⟨_, _, _, _, _, _, _, _, _, _, rfl, _⟩ := h; exact ⟨rfl, rfl⟩)
      | (obtain ⟨_, _, _, _, _, _, _, _, _, _, _, rfl, _⟩ := h; exact ⟨rfl, rfl⟩)
  · obtain ⟨f, g, rfl, ⟨tf, tg⟩, q⟩ := h
    have sf := tf.t1
    have sg := tg.t1
    have ok := tf.ok
    have tm := t_mine tf
    have tt := t_theirs tf
    walk_at "ax"
    refine ⟨f, rfl, ok, ?_⟩
    walk_at "ax"
    refine ⟨f, rfl, ok, ?_⟩
    walk_at "ax"
    refine ⟨mineF f, mineF f, rfl, pq tm tm, fun a1 x1 => ?_⟩
    walk_at "ax"
    obtain rfl := mine_rs ok x1
    refine ⟨mineF f, rfl, ?_⟩
    walk_at "ax"
    refine ⟨mineF f, rfl, tm.ok, ?_⟩
    rw [mine_mine ok]
    walk_at "ax"
    refine ⟨mineF f, rfl, ?_⟩
    walk_at "ax"
    refine ⟨theirsF f, theirsF f, rfl, pq tt tt, fun a2 x2 => ?_⟩
    walk_at "ax"
    obtain rfl := th_rs ok x2
    refine ⟨theirsF f, rfl, ?_⟩
    walk_at "ax"
    refine ⟨theirsF f, rfl, tt.ok, ?_⟩
    rw [th_th ok]
    walk_at "ax"
    refine ⟨theirsF f, rfl, ?_⟩
    walk_at "ax"
    refine ⟨mineF f, f, rfl, pr tm sf, fun o1 ho1 => ?_⟩
    obtain rfl := ho1.uniq (mine_exc ok)
    walk_at "ax"
    refine ⟨f, theirsF f, rfl, pr sf tt, fun o2 ho2 => ?_⟩
    obtain rfl := ho2.uniq (th_exc ok)
    walk_at "ax"
    refine ⟨f, rfl, ok, ?_⟩
    walk_at "ax"
    refine ⟨endlessF f, g, rfl, ⟨nok_endless ok, tg.ok, Nat.zero_le _, by have := tg.len; omega⟩, fun a3 x3 => ?_⟩
    obtain rfl := end_rs ok tg.ok x3
    walk_at "ax"
    refine ⟨f, rfl, ok, ?_⟩
    walk_at "ax"
    refine ⟨endlessF f, rfl, ?_⟩
    walk_at "ax"
    refine ⟨f, rfl, ok, ?_⟩
    walk_at "ax"
    refine ⟨f, endlessF f, rfl, ⟨ok, nok_endless ok, by have := tf.len; omega, Nat.zero_le _⟩, fun a4 x4 => ?_⟩
    obtain rfl := rs_end ok x4
    walk_at "ax"
    refine ⟨f, rfl, ok, ?_⟩
    walk_at "ax"
    refine ⟨endlessF f, rfl, ?_⟩
    walk_at "ax"
    exact q
/-! ### law -/
abbrev s_law : Stmt := topS 37
theorem sc_law : FnScope ["_law_script", "_law_draws_here", "_law_f", "_law_g", "_law_h", "_law_m", "_law_n"] ["_law_script"] (defScope s_law) := ⟨rfl, rfl, rfl, by decide +kernel, rfl, by decide +kernel, by decide +kernel⟩
theorem t_of {n : Nd} (h : NBd n) (r : N25 n.rs) : T0 n := ⟨h.ok, h.len, fun s e => by have := h.sb s e; omega, fun v e => by have := h.nb v e; omega, fun p hp => ⟨by have := (r p hp).1; omega, fun x e => by have := (r p hp).2 x e; omega⟩, by decide +kernel⟩
theorem pw_add {f a b c d : Nd} {m n : Nat} (ok : NOk f) (ha : PwN f (m + n) a) (hb : PwN f m b) (hc : PwN f n c) (hd : RsN b c d) : a = d := nd_ext ha.ok hd.ok fun k hk => by
  rw [ha.val k hk, hd.val k hk, hc.val k hk, hb.val _ (itN_nn ok hk n), Nat.add_comm m n, itN_add]
theorem pw_1 {f a : Nd} (ok : NOk f) (ha : PwN f 1 a) : a = f := nd_ext ha.ok ok fun k hk => by rw [ha.val k hk]; rfl
theorem pw_2 {f a b : Nd} (ha : PwN f 2 a) (hb : RsN f f b) : a = b := nd_ext ha.ok hb.ok fun k hk => by rw [ha.val k hk, hb.val k hk]; rfl
def fs_law (cNeed : Addr) : FSp := fun ds Q => ∃ (ns : List Int), ds = [.sh (.rol (pI ns))] ∧ ns.length ≤ 63 ∧ (∀ ds', Q (.sh (.bl true)) ds')
theorem ok_law {Pg : Program} {w : World} {K : PySem.W.Frag} {mg : Str → Option Value} {base : Heap} {a : Addr} {fd : FuncData} (F : L2.Fun K "law" "law" s_law a fd)
    (m_int : mg "int" = none)
    (m_list : mg "list" = none)
    {cNeed : Addr} (T : Txt K mg cNeed)
    {a__law_draws : Addr} {d__law_draws : FuncData} (C__law_draws : Callee Pg w K mg base 1 "_law_draws" a__law_draws d__law_draws ["_law_cell_here", "_law_many"] (fs__law_draws cNeed))
    {a__law_cell : Addr} {d__law_cell : FuncData} (C__law_cell : Callee Pg w K mg base 1 "_law_cell" a__law_cell d__law_cell ["_law_script", "_law_k"] (fs__law_cell cNeed))
    {a__law_make : Addr} {d__law_make : FuncData} (C__law_make : Callee Pg w K mg base 5 "_law_make" a__law_make d__law_make ["_law_need_here"] (fs__law_make cNeed))
    {a__law_need : Addr} {d__law_need : FuncData} (C__law_need : Callee Pg w K mg base 2 "_law_need" a__law_need d__law_need ["_law_draws_here", "_law_place"] (fs__law_need cNeed))
    {a_Need_m___init__ : Addr} {d_Need_m___init__ : FuncData} (C_Need_m___init__ : CalleeC Pg w K mg base 3 "Need" cNeed a_Need_m___init__ d_Need_m___init__ ["self", "start", "rises", "never"] (fs_Need_m___init__ cNeed))
    {a__law_alike : Addr} {d__law_alike : FuncData} (C__law_alike : Callee Pg w K mg base 2 "_law_alike" a__law_alike d__law_alike ["_law_one", "_law_other"] (fs__law_alike cNeed))
    {a_Need_m___rshift__ : Addr} {d_Need_m___rshift__ : FuncData} (C_Need_m___rshift__ : CalleeP Pg w K mg base 5 cNeed "__rshift__" a_Need_m___rshift__ d_Need_m___rshift__ ["self", "other"] (fs_Need_m___rshift__ cNeed))
    {a__law_lattice : Addr} {d__law_lattice : FuncData} (C__law_lattice : Callee Pg w K mg base 6 "_law_lattice" a__law_lattice d__law_lattice ["_law_f", "_law_g", "_law_h"] (fs__law_lattice cNeed))
    {a__law_rounds : Addr} {d__law_rounds : FuncData} (C__law_rounds : Callee Pg w K mg base 6 "_law_rounds" a__law_rounds d__law_rounds ["_law_f", "_law_g"] (fs__law_rounds cNeed))
    {a__law_told_equal : Addr} {d__law_told_equal : FuncData} (C__law_told_equal : Callee Pg w K mg base 5 "_law_told_equal" a__law_told_equal d__law_told_equal ["_law_f", "_law_g"] (fs__law_told_equal cNeed))
    {a_Need_m___or__ : Addr} {d_Need_m___or__ : FuncData} (C_Need_m___or__ : CalleeP Pg w K mg base 5 cNeed "__or__" a_Need_m___or__ d_Need_m___or__ ["self", "other"] (fs_Need_m___or__ cNeed))
    {a_Need_m___mul__ : Addr} {d_Need_m___mul__ : FuncData} (C_Need_m___mul__ : CalleeP Pg w K mg base 6 cNeed "__mul__" a_Need_m___mul__ d_Need_m___mul__ ["self", "other"] (fs_Need_m___mul__ cNeed)) :
    FnOk Pg w K mg base CX0 7 a fd ["_law_script"] (spD K (fs_law cNeed)) := by
  have n_Need_start : ClsA K cNeed "start" := ⟨T.cl_Need, T.n_Need_start⟩
  have n_Need_rises : ClsA K cNeed "rises" := ⟨T.cl_Need, T.n_Need_rises⟩
  have n_Need_never : ClsA K cNeed "never" := ⟨T.cl_Need, T.n_Need_never⟩
  have n_Need__values : ClsA K cNeed "_values" := ⟨T.cl_Need, T.n_Need__values⟩
  have is_Need := T.is_Need
  refine Fun.okD [] F sc_law (fun ds QD h => ?_) (fun cdv A outer s H E hr => ⟨_, _, (dss_cons (ds_asg (de_o (do_callP (fun h => pe_call C__law_draws.ok (hr.mono (by decide)) (by rfl) C__law_draws.g C__law_draws.kp C__law_draws.b .nil pass0 h) (da_cons (de_o (do_callP (fun h => pe_call C__law_cell.ok (hr.mono (by decide)) (by rfl) C__law_cell.g C__law_cell.kp C__law_cell.b .nil pass0 h) (da_cons (de_v 0 (pv 0)) (da_cons de_int da_nil)))) (da_cons de_int da_nil)))) (dg_name (pg_name (i := 1) sc_law.nd rfl (by first | exact .inl rfl | exact .inr rfl))))
    (dss_cons (ds_asg (de_o (do_callP (fun h => pe_call C__law_make.ok (hr.mono (by decide)) (by rfl) C__law_make.g C__law_make.kp C__law_make.b .nil pass0 h) (da_cons (de_o (do_callF (fun h => pe_call C__law_need.ok (hr.mono (by decide)) (by rfl) C__law_need.g C__law_need.kp C__law_need.b .nil pass0 h) (da_there (m := false) (de_v 1 (pv 1)) (da_here (do_lst (da_cons de_int da_nil)) da_nil)))) da_nil))) (dg_name (pg_name (i := 2) sc_law.nd rfl (by first | exact .inl rfl | exact .inr rfl))))
    (dss_cons (ds_asg (de_o (do_callP (fun h => pe_call C__law_make.ok (hr.mono (by decide)) (by rfl) C__law_make.g C__law_make.kp C__law_make.b .nil pass0 h) (da_cons (de_o (do_callF (fun h => pe_call C__law_need.ok (hr.mono (by decide)) (by rfl) C__law_need.g C__law_need.kp C__law_need.b .nil pass0 h) (da_there (m := false) (de_o (do_callP (fun h => pe_call C__law_draws.ok (hr.mono (by decide)) (by rfl) C__law_draws.g C__law_draws.kp C__law_draws.b .nil pass0 h) (da_cons (de_op op_add os_add (de_o (do_callP (fun h => pe_call C__law_cell.ok (hr.mono (by decide)) (by rfl) C__law_cell.g C__law_cell.kp C__law_cell.b .nil pass0 h) (da_cons (de_v 0 (pv 0)) (da_cons de_int da_nil)))) (de_ix ix_seq os_ix (de_v 1 (pv 1)) de_int)) (da_cons de_int da_nil)))) (da_here (do_lst (da_cons de_int da_nil)) da_nil)))) da_nil))) (dg_name (pg_name (i := 3) sc_law.nd rfl (by first | exact .inl rfl | exact .inr rfl))))
    (dss_cons (ds_asg (de_o (do_callP (fun h => pe_call C__law_make.ok (hr.mono (by decide)) (by rfl) C__law_make.g C__law_make.kp C__law_make.b .nil pass0 h) (da_cons (de_o (do_callF (fun h => pe_call C__law_need.ok (hr.mono (by decide)) (by rfl) C__law_need.g C__law_need.kp C__law_need.b .nil pass0 h) (da_there (m := false) (de_o (do_callP (fun h => pe_call C__law_draws.ok (hr.mono (by decide)) (by rfl) C__law_draws.g C__law_draws.kp C__law_draws.b .nil pass0 h) (da_cons (de_op op_add os_add (de_o (do_callP (fun h => pe_call C__law_cell.ok (hr.mono (by decide)) (by rfl) C__law_cell.g C__law_cell.kp C__law_cell.b .nil pass0 h) (da_cons (de_v 0 (pv 0)) (da_cons de_int da_nil)))) (de_ix ix_seq os_ix (de_v 1 (pv 1)) de_int)) (da_cons de_int da_nil)))) (da_here (do_lst (da_cons de_int da_nil)) da_nil)))) da_nil))) (dg_name (pg_name (i := 4) sc_law.nd rfl (by first | exact .inl rfl | exact .inr rfl))))
    (dss_mid (ds_if (dt_cmp op_eq os_eq (de_op op_mod os_mod (de_cb (fun h => pe_callTy call_int1 (by rfl) m_int (by decide +kernel) h) cs_int (da_cons (de_ix ix_seq os_ix (de_v 1 (pv 1)) de_int) da_nil)) de_int) de_int (nomark _))
    (dss_one (ds_asg (de_make (fun h => pe_make C_Need_m___init__.m C_Need_m___init__.ok (hr.mono (by decide)) (by rfl) C_Need_m___init__.g C_Need_m___init__.b .nil pass0 h) (da_cons (de_fld (de_v 2 (pv 2))) (da_cons (de_o (do_cb (fun h => pe_callTy call_list_of (by rfl) m_list (by decide +kernel) h) cs_list (da_cons (de_fld (de_v 2 (pv 2))) da_nil))) (da_cons (de_fld (de_v 2 (pv 2))) da_nil)))) (dg_name (pg_name (i := 3) sc_law.nd rfl (by first | exact .inl rfl | exact .inr rfl)))))
    dss_nil)
    (dss_cons (ds_if (DW.pt (dw_or (dt_not (dt_tru (de_o (do_callP (fun h => pe_call C__law_alike.ok (hr.mono (by decide)) (by rfl) C__law_alike.g C__law_alike.kp C__law_alike.b .nil pass0 h) (da_cons (de_op (op_ownB C_Need_m___rshift__.o T.sf_Need (C_Need_m___rshift__.ok.raw C_Need_m___rshift__.b .nil) (hr.mono (by decide)) pass0) os_ownB (de_op (op_ownB C_Need_m___rshift__.o T.sf_Need (C_Need_m___rshift__.ok.raw C_Need_m___rshift__.b .nil) (hr.mono (by decide)) pass0) os_ownB (de_v 2 (pv 2)) (de_v 3 (pv 3))) (de_v 4 (pv 4))) (da_cons (de_op (op_ownB C_Need_m___rshift__.o T.sf_Need (C_Need_m___rshift__.ok.raw C_Need_m___rshift__.b .nil) (hr.mono (by decide)) pass0) os_ownB (de_v 2 (pv 2)) (de_op (op_ownB C_Need_m___rshift__.o T.sf_Need (C_Need_m___rshift__.ok.raw C_Need_m___rshift__.b .nil) (hr.mono (by decide)) pass0) os_ownB (de_v 3 (pv 3)) (de_v 4 (pv 4)))) da_nil)))))) (dw_or (dt_not (dt_tru (de_o (do_callP (fun h => pe_call C__law_lattice.ok hr (by rfl) C__law_lattice.g C__law_lattice.kp C__law_lattice.b .nil pass0 h) (da_cons (de_v 2 (pv 2)) (da_cons (de_v 3 (pv 3)) (da_cons (de_v 4 (pv 4)) da_nil))))))) (dw_or1 (dt_not (dt_tru (de_o (do_callP (fun h => pe_call C__law_lattice.ok hr (by rfl) C__law_lattice.g C__law_lattice.kp C__law_lattice.b .nil pass0 h) (da_cons (de_v 3 (pv 3)) (da_cons (de_v 4 (pv 4)) (da_cons (de_v 2 (pv 2)) da_nil)))))))))))
    (dss_one (ds_ret de_bl))
    dss_nil)
    (dss_cons (ds_if (DW.pt (dw_or (dt_not (dt_tru (de_o (do_callP (fun h => pe_call C__law_rounds.ok hr (by rfl) C__law_rounds.g C__law_rounds.kp C__law_rounds.b .nil pass0 h) (da_cons (de_v 2 (pv 2)) (da_cons (de_v 3 (pv 3)) da_nil)))))) (dw_or (dt_not (dt_tru (de_o (do_callP (fun h => pe_call C__law_rounds.ok hr (by rfl) C__law_rounds.g C__law_rounds.kp C__law_rounds.b .nil pass0 h) (da_cons (de_v 4 (pv 4)) (da_cons (de_v 2 (pv 2)) da_nil)))))) (dw_or (dt_not (dt_tru (de_o (do_callP (fun h => pe_call C__law_told_equal.ok (hr.mono (by decide)) (by rfl) C__law_told_equal.g C__law_told_equal.kp C__law_told_equal.b .nil pass0 h) (da_cons (de_v 2 (pv 2)) (da_cons (de_v 3 (pv 3)) da_nil)))))) (dw_or1 (dt_not (dt_tru (de_o (do_callP (fun h => pe_call C__law_told_equal.ok (hr.mono (by decide)) (by rfl) C__law_told_equal.g C__law_told_equal.kp C__law_told_equal.b .nil pass0 h) (da_cons (de_v 2 (pv 2)) (da_cons (de_op (op_ownB C_Need_m___or__.o T.sf_Need (C_Need_m___or__.ok.raw C_Need_m___or__.b .nil) (hr.mono (by decide)) pass0) os_ownB (de_v 2 (pv 2)) (de_v 3 (pv 3))) da_nil)))))))))))
    (dss_one (ds_ret de_bl))
    dss_nil)
    (dss_cons (ds_asg (de_op op_mod os_mod (de_cb (fun h => pe_callTy call_int1 (by rfl) m_int (by decide +kernel) h) cs_int (da_cons (de_ix ix_seq os_ix (de_v 1 (pv 1)) de_int) da_nil)) de_int) (dg_name (pg_name (i := 5) sc_law.nd rfl (by first | exact .inl rfl | exact .inr rfl))))
    (dss_cons (ds_asg (de_op op_mod os_mod (de_cb (fun h => pe_callTy call_int1 (by rfl) m_int (by decide +kernel) h) cs_int (da_cons (de_ix ix_seq os_ix (de_v 1 (pv 1)) de_int) da_nil)) de_int) (dg_name (pg_name (i := 6) sc_law.nd rfl (by first | exact .inl rfl | exact .inr rfl))))
    (dss_one (ds_ret (de_and (de_o (do_callP (fun h => pe_call C__law_alike.ok (hr.mono (by decide)) (by rfl) C__law_alike.g C__law_alike.kp C__law_alike.b .nil pass0 h) (da_cons (de_op (op_ownI C_Need_m___mul__.o T.oi_Need_m___mul__ T.sf_Need (C_Need_m___mul__.ok.raw C_Need_m___mul__.b .nil) hr pass0) os_ownI (de_v 2 (pv 2)) (de_op op_add os_add (de_v 5 (pv 5)) (de_v 6 (pv 6)))) (da_cons (de_op (op_ownB C_Need_m___rshift__.o T.sf_Need (C_Need_m___rshift__.ok.raw C_Need_m___rshift__.b .nil) (hr.mono (by decide)) pass0) os_ownB (de_op (op_ownI C_Need_m___mul__.o T.oi_Need_m___mul__ T.sf_Need (C_Need_m___mul__.ok.raw C_Need_m___mul__.b .nil) hr pass0) os_ownI (de_v 2 (pv 2)) (de_v 5 (pv 5))) (de_op (op_ownI C_Need_m___mul__.o T.oi_Need_m___mul__ T.sf_Need (C_Need_m___mul__.ok.raw C_Need_m___mul__.b .nil) hr pass0) os_ownI (de_v 2 (pv 2)) (de_v 6 (pv 6)))) da_nil)))) (de_and (de_o (do_callP (fun h => pe_call C__law_alike.ok (hr.mono (by decide)) (by rfl) C__law_alike.g C__law_alike.kp C__law_alike.b .nil pass0 h) (da_cons (de_op (op_ownI C_Need_m___mul__.o T.oi_Need_m___mul__ T.sf_Need (C_Need_m___mul__.ok.raw C_Need_m___mul__.b .nil) hr pass0) os_ownI (de_v 2 (pv 2)) de_int) (da_cons (de_v 2 (pv 2)) da_nil)))) (de_one (de_o (do_callP (fun h => pe_call C__law_told_equal.ok (hr.mono (by decide)) (by rfl) C__law_told_equal.g C__law_told_equal.kp C__law_told_equal.b .nil pass0 h) (da_cons (de_op (op_ownI C_Need_m___mul__.o T.oi_Need_m___mul__ T.sf_Need (C_Need_m___mul__.ok.raw C_Need_m___mul__.b .nil) hr pass0) os_ownI (de_v 2 (pv 2)) de_int) (da_cons (de_op (op_ownB C_Need_m___rshift__.o T.sf_Need (C_Need_m___rshift__.ok.raw C_Need_m___rshift__.b .nil) (hr.mono (by decide)) pass0) os_ownB (de_v 2 (pv 2)) (de_v 2 (pv 2))) da_nil)))))))))))))))))), fun ds QD h => ?_⟩)
  · first
      | (obtain ⟨rfl, _⟩ := h; exact ⟨rfl, rfl⟩)
      | (obtain ⟨_, rfl, _⟩ := h; exact ⟨rfl, rfl⟩)
      | (obtain ⟨_, _, rfl, _⟩ := h; exact ⟨rfl, rfl⟩)
      | (obtain ⟨_, _, _, rfl, _⟩ := h; exact ⟨rfl, rfl⟩)
      | (obtain ⟨_, _, _, _, rfl, _⟩ := h; exact ⟨rfl, rfl⟩)
      | (obtain ⟨_, _, _, _, _, rfl, _⟩ := h; exact ⟨rfl, rfl⟩)
      | (obtain ⟨_, _, _, _, _, _, rfl, _⟩ := h; exact ⟨rfl, rfl⟩)
      | (obtain ⟨_, _, _, _, _, _, _, rfl, _⟩ := h; exact ⟨rfl, rfl⟩)
      | (obtain ⟨_, _, _, _, _, _, _, _, rfl, _⟩ := h; exact ⟨rfl, rfl⟩)
      | (obtain ⟨_, _, _, _, _, _, _, _, _, rfl, _⟩ := h; exact ⟨rfl, rfl⟩)
      | (obtain ⟨_, _, _, _, _, _, _, _, _, _, rfl, _⟩ := h; exact ⟨rfl, rfl⟩)
      | (obtain ⟨_, _, _, _, _, _, _, _, _, _, _, rfl, _⟩ := h; exact ⟨rfl, rfl⟩)
  · obtain ⟨ns, rfl, hl, q⟩ := h
    walk_at "ax"
    refine ⟨ns, 0, rfl, ?_⟩
    walk_at "ax"
    refine ⟨_, 40, rfl, by decide, ?_⟩
    have hdr := drawsF_rg (ns.getD 0 0) 40
    have hdl := drawsF_len (ns.getD 0 0) 40
    revert hdr hdl
    generalize drawsF (ns.getD 0 0) 40 = dr
    intro hdr hdl
    have dg : ∀ j : Nat, j < 40 → ∃ d, dr[j]? = some d ∧ 0 ≤ d ∧ d < 1000000 := fun j hj => by
      have h := List.getElem?_eq_getElem (l := dr) (i := j) (by omega)
      exact ⟨_, h, hdr _ (List.mem_of_getElem? h)⟩
    obtain ⟨d35, g35, b35⟩ := dg 35 (by omega)
    obtain ⟨d36, g36, b36⟩ := dg 36 (by omega)
    obtain ⟨d37, g37, b37⟩ := dg 37 (by omega)
    obtain ⟨d38, g38, b38⟩ := dg 38 (by omega)
    obtain ⟨d39, g39, b39⟩ := dg 39 (by omega)
    walk_at "ax"
    refine ⟨dr, 0, rfl, hdr, fun f k1 ⟨nb1, nr1⟩ => ?_⟩
    have tf := t_of nb1 nr1
    walk_at "ax"
    refine ⟨f, rfl, tf.ok, ?_⟩
    walk_at "ax"
    refine ⟨ns, 1, rfl, ?_⟩
    walk_at "ax"
    refine ⟨_, atI_map' (j := 39) g39, ?_⟩
    walk_at "ax"
    refine ⟨_, 30, rfl, by decide, ?_⟩
    have hdr2 := drawsF_rg (ns.getD 1 0 + d39) 30
    walk_at "ax"
    revert hdr2
    generalize drawsF (ns.getD 1 0 + d39) 30 = dr2
    intro hdr2
    refine ⟨dr2, 0, rfl, hdr2, fun g0 k2 ⟨nb2, nr2⟩ => ?_⟩
    have tg0 := t_of nb2 nr2
    walk_at "ax"
    refine ⟨g0, rfl, tg0.ok, ?_⟩
    walk_at "ax"
    refine ⟨ns, 2, rfl, ?_⟩
    walk_at "ax"
    refine ⟨_, atI_map' (j := 38) g38, ?_⟩
    walk_at "ax"
    refine ⟨_, 30, rfl, by decide, ?_⟩
    have hdr3 := drawsF_rg (ns.getD 2 0 + d38) 30
    walk_at "ax"
    revert hdr3
    generalize drawsF (ns.getD 2 0 + d38) 30 = dr3
    intro hdr3
    refine ⟨dr3, 0, rfl, hdr3, fun h k3 ⟨nb3, nr3⟩ => ?_⟩
    have th := t_of nb3 nr3
    walk_at "ax"
    refine ⟨h, rfl, th.ok, ?_⟩
    walk_at "ax"
    refine ⟨fun env => ∃ (g : Nd), env = [some (.sh (.rol (pI ns))), some (.sh (.lst (pI dr))), some (.sh (ndP cNeed f)), some (.sh (ndP cNeed g)), some (.sh (ndP cNeed h)), none, none] ∧ T0 g, ?_, ?_⟩
    · walk_at "ax"
      refine ⟨_, atI_map' (j := 37) g37, ?_⟩
      walk_at "ax"
      · refine ⟨false, f, rfl, tf.ok, ?_⟩
        walk_at "ax"
        exact ⟨f, rfl, tf⟩
      · exact ⟨g0, rfl, tg0⟩
    clear nb1 nr1 nb2 nr2 nb3 nr3 hdr2 hdr3 tg0
    rintro _ ⟨g, rfl, tg⟩
    have sf := tf.t1
    have sg := tg.t1
    have sh := th.t1
    walk_at "ax"
    refine ⟨f, g, rfl, pq sf sg, fun a1 x1 => ?_⟩
    walk_at "ax"
    refine ⟨a1, h, rfl, pq (t_rs x1 tf tg) sh, fun a2 x2 => ?_⟩
    walk_at "ax"
    refine ⟨g, h, rfl, pq sg sh, fun a3 x3 => ?_⟩
    walk_at "ax"
    refine ⟨f, a3, rfl, pq sf (t_rs x3 tg th), fun a4 x4 => ?_⟩
    walk_at "ax"
    obtain rfl := rs_assoc th.ok x1 x2 x3 x4
    refine ⟨a2, rfl, ?_⟩
    walk_at "ax"
    refine ⟨f, g, h, rfl, ⟨tf, tg, th⟩, ?_⟩
    walk_at "ax"
    refine ⟨g, h, f, rfl, ⟨tg, th, tf⟩, ?_⟩
    walk_at "ax"
    refine ⟨f, g, rfl, ⟨tf, tg⟩, ?_⟩
    walk_at "ax"
    refine ⟨h, f, rfl, ⟨th, tf⟩, ?_⟩
    walk_at "ax"
    refine ⟨f, g, rfl, ⟨sf, sg⟩, ?_⟩
    walk_at "ax"
    refine ⟨f, g, rfl, pr sf sg, fun a5 x5 => ?_⟩
    walk_at "ax"
    refine ⟨f, a5, rfl, ⟨sf, t_or x5 tf tg⟩, ?_⟩
    walk_at "ax"
    refine ⟨_, atI_map' (j := 35) g35, ?_⟩
    walk_at "ax"
    refine ⟨_, atI_map' (j := 36) g36, ?_⟩
    walk_at "ax"
    have hfl := tf.len
    obtain ⟨m, hm⟩ : ∃ m : Nat, d35 % 6 = (m : Int) := ⟨(d35 % 6).toNat, by omega⟩
    obtain ⟨n, hn⟩ : ∃ n : Nat, d36 % 6 = (n : Int) := ⟨(d36 % 6).toNat, by omega⟩
    have hm5 : m ≤ 5 := by omega
    have hn5 : n ≤ 5 := by omega
    have bmul : ∀ c : Nat, c ≤ 10 → f.rs.length * c ≤ 400 := fun c hc => by
      have : f.rs.length * c ≤ 10 * 10 := Nat.mul_le_mul hfl hc
      omega
    refine ⟨f, m + n, by rw [show ((m + n : Nat) : Int) = d35 % 6 + d36 % 6 by omega]; rfl, ⟨tf.ok, by omega, bmul _ (by omega), by omega⟩, fun b1 y1 lb1 => ?_⟩
    walk_at "ax"
    refine ⟨f, m, by rw [← hm]; rfl, ⟨tf.ok, by omega, bmul _ (by omega), by omega⟩, fun b2 y2 lb2 => ?_⟩
    walk_at "ax"
    refine ⟨f, n, by rw [← hn]; rfl, ⟨tf.ok, by omega, bmul _ (by omega), by omega⟩, fun b3 y3 lb3 => ?_⟩
    walk_at "ax"
    refine ⟨b2, b3, rfl, ⟨y2.ok, y3.ok, by omega, by omega⟩, fun b4 y4 => ?_⟩
    walk_at "ax"
    obtain rfl := pw_add tf.ok y1 y2 y3 y4
    refine ⟨b1, rfl, ?_⟩
    walk_at "ax"
    refine ⟨f, 1, rfl, ⟨tf.ok, by omega, bmul _ (by omega), by omega⟩, fun b5 y5 _ => ?_⟩
    walk_at "ax"
    obtain rfl := (pw_1 tf.ok y5).symm
    refine ⟨f, rfl, ?_⟩
    walk_at "ax"
    refine ⟨f, 2, rfl, ⟨tf.ok, by omega, bmul _ (by omega), by omega⟩, fun b6 y6 _ => ?_⟩
    walk_at "ax"
    refine ⟨f, f, rfl, pq sf sf, fun b7 y7 => ?_⟩
    walk_at "ax"
    obtain rfl := pw_2 y6 y7
    refine ⟨b6, b6, rfl, ⟨t_rs y7 tf tf, t_rs y7 tf tf⟩, ?_⟩
    walk_at "ax"
    exact q _
end K21
namespace K21
open PySem PySem.Spec PyProof.Rows L2 DL
def spLaw (K : PySem.W.Frag) : Sp := fun vs H Q _ => ∃ (a : Addr) (ns : List Int), vs = [.ref a] ∧ SqL K H a (ns.map V.int) ∧ ns.length ≤ 63 ∧ ∀ H', Q (.bl true) H'
theorem law_sp {K : PySem.W.Frag} {cNeed : Addr} {vs : List V} {H : Hp} {Q : VK} {E : XK} (h : spLaw K vs H Q E) : spD K (fs_law cNeed) vs H Q E := by
  obtain ⟨a, ns, rfl, hS, hl, q⟩ := h
  refine ⟨H, [.sh (.rol (ns.map P.int))], fun _ => [], fun d _ => d = .sh (.bl true), ?_, ⟨ns, rfl, hl, fun _ => rfl⟩, ?_⟩
  · refine ⟨Ex.refl _, fun i d e => ?_, fun _ _ => rfl, fun _ => List.nodup_nil, fun _ _ _ h => absurd h List.not_mem_nil, fun _ _ h => absurd h List.not_mem_nil, rfl⟩
    cases i with
    | zero =>
      cases e
      exact ⟨_, rfl, rfl, a, _, rfl, hS, RpA.ints⟩
    | succ i => cases e
  · rintro d ds v F B' H' G' rfl _ o _
    rw [show v = V.bl true from o.rp.2]
    exact q H'
theorem all_mk {l : PySem.W.OpenLaw} {w : World} {K : PySem.W.Frag} {h : Heap} {mg : Str → Option Value} {fa : Addr} (X : K.In h) (G : h.Ns mainGlobals mg) (hfa : mg "law" = some (.ref fa))
    {cNeed : Addr}
    {fo_Need_m___mul__ ro_Need_m___mul__ : Option Value}
    {od0 an0 : Option Addr} {sl0 : Array (Option Value)} {oc0 kV0 dc0 pm0 cd0 ct0 : Value} {f0 : Addr}
    {od1 an1 : Option Addr} {sl1 : Array (Option Value)} {oc1 kV1 dc1 pm1 cd1 ct1 : Value} {f1 : Addr}
    {od2 an2 : Option Addr} {sl2 : Array (Option Value)} {oc2 kV2 dc2 pm2 cd2 ct2 : Value} {f2 : Addr}
    {od3 an3 : Option Addr} {sl3 : Array (Option Value)} {oc3 kV3 dc3 pm3 cd3 ct3 : Value} {f3 : Addr}
    {od4 an4 : Option Addr} {sl4 : Array (Option Value)} {oc4 kV4 dc4 pm4 cd4 ct4 : Value} {f4 : Addr}
    {od5 an5 : Option Addr} {sl5 : Array (Option Value)} {oc5 kV5 dc5 pm5 cd5 ct5 : Value} {f5 : Addr}
    {od6 an6 : Option Addr} {sl6 : Array (Option Value)} {oc6 kV6 dc6 pm6 cd6 ct6 : Value} {f6 : Addr}
    {od7 an7 : Option Addr} {sl7 : Array (Option Value)} {oc7 kV7 dc7 pm7 cd7 ct7 : Value} {f7 : Addr}
    {od8 an8 : Option Addr} {sl8 : Array (Option Value)} {oc8 kV8 dc8 pm8 cd8 ct8 : Value} {f8 : Addr}
    {od9 an9 : Option Addr} {sl9 : Array (Option Value)} {oc9 kV9 dc9 pm9 cd9 ct9 : Value} {f9 : Addr}
    {od10 an10 : Option Addr} {sl10 : Array (Option Value)} {oc10 kV10 dc10 pm10 cd10 ct10 : Value} {f10 : Addr}
    {od11 an11 : Option Addr} {sl11 : Array (Option Value)} {oc11 kV11 dc11 pm11 cd11 ct11 : Value} {f11 : Addr}
    {od12 an12 : Option Addr} {sl12 : Array (Option Value)} {oc12 kV12 dc12 pm12 cd12 ct12 : Value} {f12 : Addr}
    {od13 an13 : Option Addr} {sl13 : Array (Option Value)} {oc13 kV13 dc13 pm13 cd13 ct13 : Value} {f13 : Addr}
    {od14 an14 : Option Addr} {sl14 : Array (Option Value)} {oc14 kV14 dc14 pm14 cd14 ct14 : Value} {f14 : Addr}
    {od15 an15 : Option Addr} {sl15 : Array (Option Value)} {oc15 kV15 dc15 pm15 cd15 ct15 : Value} {f15 : Addr}
    {od16 an16 : Option Addr} {sl16 : Array (Option Value)} {oc16 kV16 dc16 pm16 cd16 ct16 : Value} {f16 : Addr}
    {od17 an17 : Option Addr} {sl17 : Array (Option Value)} {oc17 kV17 dc17 pm17 cd17 ct17 : Value} {f17 : Addr}
    {od18 an18 : Option Addr} {sl18 : Array (Option Value)} {oc18 kV18 dc18 pm18 cd18 ct18 : Value} {f18 : Addr}
    {od19 an19 : Option Addr} {sl19 : Array (Option Value)} {oc19 kV19 dc19 pm19 cd19 ct19 : Value} {f19 : Addr}
    {od20 an20 : Option Addr} {sl20 : Array (Option Value)} {oc20 kV20 dc20 pm20 cd20 ct20 : Value} {f20 : Addr}
    {od21 an21 : Option Addr} {sl21 : Array (Option Value)} {oc21 kV21 dc21 pm21 cd21 ct21 : Value} {f21 : Addr}
    {od22 an22 : Option Addr} {sl22 : Array (Option Value)} {oc22 kV22 dc22 pm22 cd22 ct22 : Value} {f22 : Addr}
    {od23 an23 : Option Addr} {sl23 : Array (Option Value)} {oc23 kV23 dc23 pm23 cd23 ct23 : Value} {f23 : Addr}
    {od24 an24 : Option Addr} {sl24 : Array (Option Value)} {oc24 kV24 dc24 pm24 cd24 ct24 : Value} {f24 : Addr}
    {od25 an25 : Option Addr} {sl25 : Array (Option Value)} {oc25 kV25 dc25 pm25 cd25 ct25 : Value} {f25 : Addr}
    {od26 an26 : Option Addr} {sl26 : Array (Option Value)} {oc26 kV26 dc26 pm26 cd26 ct26 : Value} {f26 : Addr}
    {od27 an27 : Option Addr} {sl27 : Array (Option Value)} {oc27 kV27 dc27 pm27 cd27 ct27 : Value} {f27 : Addr}
    {od28 an28 : Option Addr} {sl28 : Array (Option Value)} {oc28 kV28 dc28 pm28 cd28 ct28 : Value} {f28 : Addr}
    {od29 an29 : Option Addr} {sl29 : Array (Option Value)} {oc29 kV29 dc29 pm29 cd29 ct29 : Value} {f29 : Addr}
    {od30 an30 : Option Addr} {sl30 : Array (Option Value)} {oc30 kV30 dc30 pm30 cd30 ct30 : Value} {f30 : Addr}
    {od31 an31 : Option Addr} {sl31 : Array (Option Value)} {oc31 kV31 dc31 pm31 cd31 ct31 : Value} {f31 : Addr}
    {od32 an32 : Option Addr} {sl32 : Array (Option Value)} {oc32 kV32 dc32 pm32 cd32 ct32 : Value} {f32 : Addr}
    {od33 an33 : Option Addr} {sl33 : Array (Option Value)} {oc33 kV33 dc33 pm33 cd33 ct33 : Value} {f33 : Addr}
    {od34 an34 : Option Addr} {sl34 : Array (Option Value)} {oc34 kV34 dc34 pm34 cd34 ct34 : Value} {f34 : Addr}
    {od35 an35 : Option Addr} {sl35 : Array (Option Value)} {oc35 kV35 dc35 pm35 cd35 ct35 : Value} {f35 : Addr}
    {od36 an36 : Option Addr} {sl36 : Array (Option Value)} {oc36 kV36 dc36 pm36 cd36 ct36 : Value} {f36 : Addr}
    {od37 an37 : Option Addr} {sl37 : Array (Option Value)} {oc37 kV37 dc37 pm37 cd37 ct37 : Value} {f37 : Addr}
    {od38 an38 : Option Addr} {sl38 : Array (Option Value)} {oc38 kV38 dc38 pm38 cd38 ct38 : Value} {f38 : Addr}
    {od39 an39 : Option Addr} {sl39 : Array (Option Value)} {oc39 kV39 dc39 pm39 cd39 ct39 : Value} {f39 : Addr}
    {od40 an40 : Option Addr} {sl40 : Array (Option Value)} {oc40 kV40 dc40 pm40 cd40 ct40 : Value} {f40 : Addr}
    {od41 an41 : Option Addr} {sl41 : Array (Option Value)} {oc41 kV41 dc41 pm41 cd41 ct41 : Value} {f41 : Addr}
    (qNeed_aC : PySem.W.nsIn K mainGlobals "Need" = some (some (.ref cNeed)))
    (qNeed_pg : PySem.W.plainGet K cNeed Str.empty = true)
    (qNeed_hd : PySem.W.hasDictIn K cNeed = true)
    (qNeed_po : PySem.W.plainOver K cNeed = true)
    (qNeed_sa : PySem.W.findIn K (.ref cNeed) "__setattr__" = some (some (.builtin "object.__setattr__")))
    (qNeed_mk : PySem.W.makesIn K cNeed = true)
    (qNeed_kc : PySem.W.keepIn K (.ref cNeed) = true)
    (qNeed_sf : PySem.W.selfFirst K cNeed = true)
    (qNeed_nf : PySem.W.notFirst K cNeed (.ref cNeed) = true)
    (qNeed_ia : PySem.W.findIn K (.ref cNeed) "__class__" = some (some (.builtin "object.__class__")))
    (qNeed_ib : PySem.W.specialIn K (.builtin "object.__class__") "__get__" = some (some (.builtin "getset_descriptor.__get__")))
    (qNeed_ic : PySem.W.takesIn K (.builtin "object.__class__") = some true)
    (qNeed_im : PySem.W.mroIn K cNeed (.type "object") = some true)
    (qNeed_n_start : PySem.W.findIn K (.ref cNeed) "start" = some none)
    (qNeed_n_rises : PySem.W.findIn K (.ref cNeed) "rises" = some none)
    (qNeed_n_never : PySem.W.findIn K (.ref cNeed) "never" = some none)
    (qNeed_n__values : PySem.W.findIn K (.ref cNeed) "_values" = some none)
    (qoNeed_m___mul___r : PySem.W.findIn K (.ref cNeed) "__rmul__" = some none)
    (qoNeed_m___mul___1 : PySem.W.findIn K (.type "int") "__mul__" = some fo_Need_m___mul__)
    (qoNeed_m___mul___2 : PySem.W.findIn K (.type "int") "__rmul__" = some ro_Need_m___mul__)
    (qoNeed_m___mul___s : PySem.W.subIn K (.type "int") (.ref cNeed) = some false)
    (a0 : PySem.W.nsIn K mainGlobals "are_rises" = some (some (.ref f0))) (l0 : K.lookup f0 = some ⟨oc0, od0, .func (PySem.W.fnOf "are_rises" "are_rises" (defArgs s_are_rises) (defBody s_are_rises) (defScope s_are_rises) .none kV0 dc0 pm0 an0 cd0 ct0), sl0⟩) (c0 : PySem.W.codeIn K cd0 "are_rises" = true) (k0 : PySem.W.keepIn K (.ref f0) = true)
    (a1 : PySem.W.nsIn K mainGlobals "is_open" = some (some (.ref f1))) (l1 : K.lookup f1 = some ⟨oc1, od1, .func (PySem.W.fnOf "is_open" "is_open" (defArgs s_is_open) (defBody s_is_open) (defScope s_is_open) .none kV1 dc1 pm1 an1 cd1 ct1), sl1⟩) (c1 : PySem.W.codeIn K cd1 "is_open" = true) (k1 : PySem.W.keepIn K (.ref f1) = true)
    (a2 : PySem.W.nsIn K mainGlobals "values_at_lows" = some (some (.ref f2))) (l2 : K.lookup f2 = some ⟨oc2, od2, .func (PySem.W.fnOf "values_at_lows" "values_at_lows" (defArgs s_values_at_lows) (defBody s_values_at_lows) (defScope s_values_at_lows) .none kV2 dc2 pm2 an2 cd2 ct2), sl2⟩) (c2 : PySem.W.codeIn K cd2 "values_at_lows" = true) (k2 : PySem.W.keepIn K (.ref f2) = true)
    (a3 : PySem.W.nsIn K mainGlobals "greatest_value" = some (some (.ref f3))) (l3 : K.lookup f3 = some ⟨oc3, od3, .func (PySem.W.fnOf "greatest_value" "greatest_value" (defArgs s_greatest_value) (defBody s_greatest_value) (defScope s_greatest_value) .none kV3 dc3 pm3 an3 cd3 ct3), sl3⟩) (c3 : PySem.W.codeIn K cd3 "greatest_value" = true) (k3 : PySem.W.keepIn K (.ref f3) = true)
    (a4 : PySem.W.nsIn K mainGlobals "pair_at" = some (some (.ref f4))) (l4 : K.lookup f4 = some ⟨oc4, od4, .func (PySem.W.fnOf "pair_at" "pair_at" (defArgs s_pair_at) (defBody s_pair_at) (defScope s_pair_at) .none kV4 dc4 pm4 an4 cd4 ct4), sl4⟩) (c4 : PySem.W.codeIn K cd4 "pair_at" = true) (k4 : PySem.W.keepIn K (.ref f4) = true)
    (a5 : PySem.W.nsIn K mainGlobals "flat_place" = some (some (.ref f5))) (l5 : K.lookup f5 = some ⟨oc5, od5, .func (PySem.W.fnOf "flat_place" "flat_place" (defArgs s_flat_place) (defBody s_flat_place) (defScope s_flat_place) .none kV5 dc5 pm5 an5 cd5 ct5), sl5⟩) (c5 : PySem.W.codeIn K cd5 "flat_place" = true) (k5 : PySem.W.keepIn K (.ref f5) = true)
    (a6 : PySem.W.nsIn K mainGlobals "sooner" = some (some (.ref f6))) (l6 : K.lookup f6 = some ⟨oc6, od6, .func (PySem.W.fnOf "sooner" "sooner" (defArgs s_sooner) (defBody s_sooner) (defScope s_sooner) .none kV6 dc6 pm6 an6 cd6 ct6), sl6⟩) (c6 : PySem.W.codeIn K cd6 "sooner" = true) (k6 : PySem.W.keepIn K (.ref f6) = true)
    (a7 : PySem.W.nsIn K mainGlobals "slopes_behind" = some (some (.ref f7))) (l7 : K.lookup f7 = some ⟨oc7, od7, .func (PySem.W.fnOf "slopes_behind" "slopes_behind" (defArgs s_slopes_behind) (defBody s_slopes_behind) (defScope s_slopes_behind) .none kV7 dc7 pm7 an7 cd7 ct7), sl7⟩) (c7 : PySem.W.codeIn K cd7 "slopes_behind" = true) (k7 : PySem.W.keepIn K (.ref f7) = true)
    (a8 : PySem.W.nsIn K mainGlobals "values_at_cuts" = some (some (.ref f8))) (l8 : K.lookup f8 = some ⟨oc8, od8, .func (PySem.W.fnOf "values_at_cuts" "values_at_cuts" (defArgs s_values_at_cuts) (defBody s_values_at_cuts) (defScope s_values_at_cuts) .none kV8 dc8 pm8 an8 cd8 ct8), sl8⟩) (c8 : PySem.W.codeIn K cd8 "values_at_cuts" = true) (k8 : PySem.W.keepIn K (.ref f8) = true)
    (a9 : PySem.W.nsIn K mainGlobals "joined" = some (some (.ref f9))) (l9 : K.lookup f9 = some ⟨oc9, od9, .func (PySem.W.fnOf "joined" "joined" (defArgs s_joined) (defBody s_joined) (defScope s_joined) .none kV9 dc9 pm9 an9 cd9 ct9), sl9⟩) (c9 : PySem.W.codeIn K cd9 "joined" = true) (k9 : PySem.W.keepIn K (.ref f9) = true)
    (a10 : PySem.W.nsIn K mainGlobals "first_above" = some (some (.ref f10))) (l10 : K.lookup f10 = some ⟨oc10, od10, .func (PySem.W.fnOf "first_above" "first_above" (defArgs s_first_above) (defBody s_first_above) (defScope s_first_above) .none kV10 dc10 pm10 an10 cd10 ct10), sl10⟩) (c10 : PySem.W.codeIn K cd10 "first_above" = true) (k10 : PySem.W.keepIn K (.ref f10) = true)
    (a11 : PySem.W.nsIn K mainGlobals "exceeds" = some (some (.ref f11))) (l11 : K.lookup f11 = some ⟨oc11, od11, .func (PySem.W.fnOf "exceeds" "exceeds" (defArgs s_exceeds) (defBody s_exceeds) (defScope s_exceeds) .none kV11 dc11 pm11 an11 cd11 ct11), sl11⟩) (c11 : PySem.W.codeIn K cd11 "exceeds" = true) (k11 : PySem.W.keepIn K (.ref f11) = true)
    (a12 : PySem.W.findIn K (.ref cNeed) "__eq__" = some (some (.ref f12))) (i12 : PySem.W.isFn K (.ref f12) = true) (l12 : K.lookup f12 = some ⟨oc12, od12, .func (PySem.W.fnOf "__eq__" "Need.__eq__" (defArgs s_Need_m___eq__) (defBody s_Need_m___eq__) (defScope s_Need_m___eq__) .none kV12 dc12 pm12 an12 cd12 ct12), sl12⟩) (c12 : PySem.W.codeIn K cd12 "Need.__eq__" = true) (k12 : PySem.W.keepIn K (.ref f12) = true)
    (a13 : PySem.W.nsIn K mainGlobals "_law_cell" = some (some (.ref f13))) (l13 : K.lookup f13 = some ⟨oc13, od13, .func (PySem.W.fnOf "_law_cell" "_law_cell" (defArgs s__law_cell) (defBody s__law_cell) (defScope s__law_cell) .none kV13 dc13 pm13 an13 cd13 ct13), sl13⟩) (c13 : PySem.W.codeIn K cd13 "_law_cell" = true) (k13 : PySem.W.keepIn K (.ref f13) = true)
    (a14 : PySem.W.nsIn K mainGlobals "_law_draws" = some (some (.ref f14))) (l14 : K.lookup f14 = some ⟨oc14, od14, .func (PySem.W.fnOf "_law_draws" "_law_draws" (defArgs s__law_draws) (defBody s__law_draws) (defScope s__law_draws) .none kV14 dc14 pm14 an14 cd14 ct14), sl14⟩) (c14 : PySem.W.codeIn K cd14 "_law_draws" = true) (k14 : PySem.W.keepIn K (.ref f14) = true)
    (a15 : PySem.W.nsIn K mainGlobals "_law_take" = some (some (.ref f15))) (l15 : K.lookup f15 = some ⟨oc15, od15, .func (PySem.W.fnOf "_law_take" "_law_take" (defArgs s__law_take) (defBody s__law_take) (defScope s__law_take) .none kV15 dc15 pm15 an15 cd15 ct15), sl15⟩) (c15 : PySem.W.codeIn K cd15 "_law_take" = true) (k15 : PySem.W.keepIn K (.ref f15) = true)
    (a16 : PySem.W.nsIn K mainGlobals "value_at" = some (some (.ref f16))) (l16 : K.lookup f16 = some ⟨oc16, od16, .func (PySem.W.fnOf "value_at" "value_at" (defArgs s_value_at) (defBody s_value_at) (defScope s_value_at) .none kV16 dc16 pm16 an16 cd16 ct16), sl16⟩) (c16 : PySem.W.codeIn K cd16 "value_at" = true) (k16 : PySem.W.keepIn K (.ref f16) = true)
    (a17 : PySem.W.nsIn K mainGlobals "composed" = some (some (.ref f17))) (l17 : K.lookup f17 = some ⟨oc17, od17, .func (PySem.W.fnOf "composed" "composed" (defArgs s_composed) (defBody s_composed) (defScope s_composed) .none kV17 dc17 pm17 an17 cd17 ct17), sl17⟩) (c17 : PySem.W.codeIn K cd17 "composed" = true) (k17 : PySem.W.keepIn K (.ref f17) = true)
    (a18 : PySem.W.nsIn K mainGlobals "side_by_side" = some (some (.ref f18))) (l18 : K.lookup f18 = some ⟨oc18, od18, .func (PySem.W.fnOf "side_by_side" "side_by_side" (defArgs s_side_by_side) (defBody s_side_by_side) (defScope s_side_by_side) .none kV18 dc18 pm18 an18 cd18 ct18), sl18⟩) (c18 : PySem.W.codeIn K cd18 "side_by_side" = true) (k18 : PySem.W.keepIn K (.ref f18) = true)
    (a19 : PySem.W.nsIn K mainGlobals "rises_of_smaller" = some (some (.ref f19))) (l19 : K.lookup f19 = some ⟨oc19, od19, .func (PySem.W.fnOf "rises_of_smaller" "rises_of_smaller" (defArgs s_rises_of_smaller) (defBody s_rises_of_smaller) (defScope s_rises_of_smaller) .none kV19 dc19 pm19 an19 cd19 ct19), sl19⟩) (c19 : PySem.W.codeIn K cd19 "rises_of_smaller" = true) (k19 : PySem.W.keepIn K (.ref f19) = true)
    (a20 : PySem.W.nsIn K mainGlobals "rises_of_greater" = some (some (.ref f20))) (l20 : K.lookup f20 = some ⟨oc20, od20, .func (PySem.W.fnOf "rises_of_greater" "rises_of_greater" (defArgs s_rises_of_greater) (defBody s_rises_of_greater) (defScope s_rises_of_greater) .none kV20 dc20 pm20 an20 cd20 ct20), sl20⟩) (c20 : PySem.W.codeIn K cd20 "rises_of_greater" = true) (k20 : PySem.W.keepIn K (.ref f20) = true)
    (a21 : PySem.W.nsIn K mainGlobals "check_need" = some (some (.ref f21))) (l21 : K.lookup f21 = some ⟨oc21, od21, .func (PySem.W.fnOf "check_need" "check_need" (defArgs s_check_need) (defBody s_check_need) (defScope s_check_need) .none kV21 dc21 pm21 an21 cd21 ct21), sl21⟩) (c21 : PySem.W.codeIn K cd21 "check_need" = true) (k21 : PySem.W.keepIn K (.ref f21) = true)
    (a22 : PySem.W.findIn K (.ref cNeed) "_first_enough" = some (some (.ref f22))) (i22 : PySem.W.isFn K (.ref f22) = true) (l22 : K.lookup f22 = some ⟨oc22, od22, .func (PySem.W.fnOf "_first_enough" "Need._first_enough" (defArgs s_Need_m__first_enough) (defBody s_Need_m__first_enough) (defScope s_Need_m__first_enough) .none kV22 dc22 pm22 an22 cd22 ct22), sl22⟩) (c22 : PySem.W.codeIn K cd22 "Need._first_enough" = true) (k22 : PySem.W.keepIn K (.ref f22) = true)
    (a23 : PySem.W.findIn K (.ref cNeed) "_last_enough" = some (some (.ref f23))) (i23 : PySem.W.isFn K (.ref f23) = true) (l23 : K.lookup f23 = some ⟨oc23, od23, .func (PySem.W.fnOf "_last_enough" "Need._last_enough" (defArgs s_Need_m__last_enough) (defBody s_Need_m__last_enough) (defScope s_Need_m__last_enough) .none kV23 dc23 pm23 an23 cd23 ct23), sl23⟩) (c23 : PySem.W.codeIn K cd23 "Need._last_enough" = true) (k23 : PySem.W.keepIn K (.ref f23) = true)
    (a24 : PySem.W.nsIn K mainGlobals "_law_need" = some (some (.ref f24))) (l24 : K.lookup f24 = some ⟨oc24, od24, .func (PySem.W.fnOf "_law_need" "_law_need" (defArgs s__law_need) (defBody s__law_need) (defScope s__law_need) .none kV24 dc24 pm24 an24 cd24 ct24), sl24⟩) (c24 : PySem.W.codeIn K cd24 "_law_need" = true) (k24 : PySem.W.keepIn K (.ref f24) = true)
    (a25 : PySem.W.nsIn K mainGlobals "_law_alike" = some (some (.ref f25))) (l25 : K.lookup f25 = some ⟨oc25, od25, .func (PySem.W.fnOf "_law_alike" "_law_alike" (defArgs s__law_alike) (defBody s__law_alike) (defScope s__law_alike) .none kV25 dc25 pm25 an25 cd25 ct25), sl25⟩) (c25 : PySem.W.codeIn K cd25 "_law_alike" = true) (k25 : PySem.W.keepIn K (.ref f25) = true)
    (a26 : PySem.W.findIn K (.ref cNeed) "__init__" = some (some (.ref f26))) (i26 : PySem.W.isFn K (.ref f26) = true) (l26 : K.lookup f26 = some ⟨oc26, od26, .func (PySem.W.fnOf "__init__" "Need.__init__" (defArgs s_Need_m___init__) (defBody s_Need_m___init__) (defScope s_Need_m___init__) .none kV26 dc26 pm26 an26 cd26 ct26), sl26⟩) (c26 : PySem.W.codeIn K cd26 "Need.__init__" = true) (k26 : PySem.W.keepIn K (.ref f26) = true)
    (a27 : PySem.W.findIn K (.ref cNeed) "_beside" = some (some (.ref f27))) (i27 : PySem.W.isFn K (.ref f27) = true) (l27 : K.lookup f27 = some ⟨oc27, od27, .func (PySem.W.fnOf "_beside" "Need._beside" (defArgs s_Need_m__beside) (defBody s_Need_m__beside) (defScope s_Need_m__beside) .none kV27 dc27 pm27 an27 cd27 ct27), sl27⟩) (c27 : PySem.W.codeIn K cd27 "Need._beside" = true) (k27 : PySem.W.keepIn K (.ref f27) = true)
    (a28 : PySem.W.findIn K (.ref cNeed) "_value" = some (some (.ref f28))) (i28 : PySem.W.isFn K (.ref f28) = true) (l28 : K.lookup f28 = some ⟨oc28, od28, .func (PySem.W.fnOf "_value" "Need._value" (defArgs s_Need_m__value) (defBody s_Need_m__value) (defScope s_Need_m__value) .none kV28 dc28 pm28 an28 cd28 ct28), sl28⟩) (c28 : PySem.W.codeIn K cd28 "Need._value" = true) (k28 : PySem.W.keepIn K (.ref f28) = true)
    (a29 : PySem.W.findIn K (.ref cNeed) "excess" = some (some (.ref f29))) (i29 : PySem.W.isFn K (.ref f29) = true) (l29 : K.lookup f29 = some ⟨oc29, od29, .func (PySem.W.fnOf "excess" "Need.excess" (defArgs s_Need_m_excess) (defBody s_Need_m_excess) (defScope s_Need_m_excess) .none kV29 dc29 pm29 an29 cd29 ct29), sl29⟩) (c29 : PySem.W.codeIn K cd29 "Need.excess" = true) (k29 : PySem.W.keepIn K (.ref f29) = true)
    (a30 : PySem.W.findIn K (.ref cNeed) "__and__" = some (some (.ref f30))) (i30 : PySem.W.isFn K (.ref f30) = true) (l30 : K.lookup f30 = some ⟨oc30, od30, .func (PySem.W.fnOf "__and__" "Need.__and__" (defArgs s_Need_m___and__) (defBody s_Need_m___and__) (defScope s_Need_m___and__) .none kV30 dc30 pm30 an30 cd30 ct30), sl30⟩) (c30 : PySem.W.codeIn K cd30 "Need.__and__" = true) (k30 : PySem.W.keepIn K (.ref f30) = true)
    (a31 : PySem.W.findIn K (.ref cNeed) "__or__" = some (some (.ref f31))) (i31 : PySem.W.isFn K (.ref f31) = true) (l31 : K.lookup f31 = some ⟨oc31, od31, .func (PySem.W.fnOf "__or__" "Need.__or__" (defArgs s_Need_m___or__) (defBody s_Need_m___or__) (defScope s_Need_m___or__) .none kV31 dc31 pm31 an31 cd31 ct31), sl31⟩) (c31 : PySem.W.codeIn K cd31 "Need.__or__" = true) (k31 : PySem.W.keepIn K (.ref f31) = true)
    (a32 : PySem.W.findIn K (.ref cNeed) "__rshift__" = some (some (.ref f32))) (i32 : PySem.W.isFn K (.ref f32) = true) (l32 : K.lookup f32 = some ⟨oc32, od32, .func (PySem.W.fnOf "__rshift__" "Need.__rshift__" (defArgs s_Need_m___rshift__) (defBody s_Need_m___rshift__) (defScope s_Need_m___rshift__) .none kV32 dc32 pm32 an32 cd32 ct32), sl32⟩) (c32 : PySem.W.codeIn K cd32 "Need.__rshift__" = true) (k32 : PySem.W.keepIn K (.ref f32) = true)
    (a33 : PySem.W.findIn K (.ref cNeed) "endless" = some (some (.ref f33))) (i33 : PySem.W.isFn K (.ref f33) = true) (l33 : K.lookup f33 = some ⟨oc33, od33, .func (PySem.W.fnOf "endless" "Need.endless" (defArgs s_Need_m_endless) (defBody s_Need_m_endless) (defScope s_Need_m_endless) .none kV33 dc33 pm33 an33 cd33 ct33), sl33⟩) (c33 : PySem.W.codeIn K cd33 "Need.endless" = true) (k33 : PySem.W.keepIn K (.ref f33) = true)
    (a34 : PySem.W.findIn K (.ref cNeed) "mine" = some (some (.ref f34))) (i34 : PySem.W.isFn K (.ref f34) = true) (l34 : K.lookup f34 = some ⟨oc34, od34, .func (PySem.W.fnOf "mine" "Need.mine" (defArgs s_Need_m_mine) (defBody s_Need_m_mine) (defScope s_Need_m_mine) .none kV34 dc34 pm34 an34 cd34 ct34), sl34⟩) (c34 : PySem.W.codeIn K cd34 "Need.mine" = true) (k34 : PySem.W.keepIn K (.ref f34) = true)
    (a35 : PySem.W.findIn K (.ref cNeed) "theirs" = some (some (.ref f35))) (i35 : PySem.W.isFn K (.ref f35) = true) (l35 : K.lookup f35 = some ⟨oc35, od35, .func (PySem.W.fnOf "theirs" "Need.theirs" (defArgs s_Need_m_theirs) (defBody s_Need_m_theirs) (defScope s_Need_m_theirs) .none kV35 dc35 pm35 an35 cd35 ct35), sl35⟩) (c35 : PySem.W.codeIn K cd35 "Need.theirs" = true) (k35 : PySem.W.keepIn K (.ref f35) = true)
    (a36 : PySem.W.nsIn K mainGlobals "_law_make" = some (some (.ref f36))) (l36 : K.lookup f36 = some ⟨oc36, od36, .func (PySem.W.fnOf "_law_make" "_law_make" (defArgs s__law_make) (defBody s__law_make) (defScope s__law_make) .none kV36 dc36 pm36 an36 cd36 ct36), sl36⟩) (c36 : PySem.W.codeIn K cd36 "_law_make" = true) (k36 : PySem.W.keepIn K (.ref f36) = true)
    (a37 : PySem.W.nsIn K mainGlobals "_law_told_equal" = some (some (.ref f37))) (l37 : K.lookup f37 = some ⟨oc37, od37, .func (PySem.W.fnOf "_law_told_equal" "_law_told_equal" (defArgs s__law_told_equal) (defBody s__law_told_equal) (defScope s__law_told_equal) .none kV37 dc37 pm37 an37 cd37 ct37), sl37⟩) (c37 : PySem.W.codeIn K cd37 "_law_told_equal" = true) (k37 : PySem.W.keepIn K (.ref f37) = true)
    (a38 : PySem.W.findIn K (.ref cNeed) "__mul__" = some (some (.ref f38))) (i38 : PySem.W.isFn K (.ref f38) = true) (l38 : K.lookup f38 = some ⟨oc38, od38, .func (PySem.W.fnOf "__mul__" "Need.__mul__" (defArgs s_Need_m___mul__) (defBody s_Need_m___mul__) (defScope s_Need_m___mul__) .none kV38 dc38 pm38 an38 cd38 ct38), sl38⟩) (c38 : PySem.W.codeIn K cd38 "Need.__mul__" = true) (k38 : PySem.W.keepIn K (.ref f38) = true)
    (a39 : PySem.W.nsIn K mainGlobals "_law_lattice" = some (some (.ref f39))) (l39 : K.lookup f39 = some ⟨oc39, od39, .func (PySem.W.fnOf "_law_lattice" "_law_lattice" (defArgs s__law_lattice) (defBody s__law_lattice) (defScope s__law_lattice) .none kV39 dc39 pm39 an39 cd39 ct39), sl39⟩) (c39 : PySem.W.codeIn K cd39 "_law_lattice" = true) (k39 : PySem.W.keepIn K (.ref f39) = true)
    (a40 : PySem.W.nsIn K mainGlobals "_law_rounds" = some (some (.ref f40))) (l40 : K.lookup f40 = some ⟨oc40, od40, .func (PySem.W.fnOf "_law_rounds" "_law_rounds" (defArgs s__law_rounds) (defBody s__law_rounds) (defScope s__law_rounds) .none kV40 dc40 pm40 an40 cd40 ct40), sl40⟩) (c40 : PySem.W.codeIn K cd40 "_law_rounds" = true) (k40 : PySem.W.keepIn K (.ref f40) = true)
    (a41 : PySem.W.nsIn K mainGlobals "law" = some (some (.ref f41))) (l41 : K.lookup f41 = some ⟨oc41, od41, .func (PySem.W.fnOf "law" "law" (defArgs s_law) (defBody s_law) (defScope s_law) .none kV41 dc41 pm41 an41 cd41 ct41), sl41⟩) (c41 : PySem.W.codeIn K cd41 "law" = true) (k41 : PySem.W.keepIn K (.ref f41) = true)
    (z_len : PySem.W.nsIn K mainGlobals "len" = some none)
    (z_tuple : PySem.W.nsIn K mainGlobals "tuple" = some none)
    (z_sum : PySem.W.nsIn K mainGlobals "sum" = some none)
    (z_min : PySem.W.nsIn K mainGlobals "min" = some none)
    (z_range : PySem.W.nsIn K mainGlobals "range" = some none)
    (z_isinstance : PySem.W.nsIn K mainGlobals "isinstance" = some none)
    (z_int : PySem.W.nsIn K mainGlobals "int" = some none)
    (z_abs : PySem.W.nsIn K mainGlobals "abs" = some none)
    (z_max : PySem.W.nsIn K mainGlobals "max" = some none)
    (z_sorted : PySem.W.nsIn K mainGlobals "sorted" = some none)
    (z_set : PySem.W.nsIn K mainGlobals "set" = some none)
    (z_list : PySem.W.nsIn K mainGlobals "list" = some none)
    (z_zip : PySem.W.nsIn K mainGlobals "zip" = some none) :
    ∃ fd : FuncData, (∀ (s : Shared) (v : Value), BindsTo s fd ⟨[v], []⟩ [("_law_script", v)]) ∧ ∀ base : Heap, K.In base → base.Ns mainGlobals mg → FnOk l.prog w K mg base CX0 7 fa fd ["_law_script"] (spLaw K) := by
  have e := hfa.symm.trans (PySem.W.mg_of X G a41)
  cases e
  have F0 := fun_mk (st := s_are_rises) l0 c0 k0
  have F1 := fun_mk (st := s_is_open) l1 c1 k1
  have F2 := fun_mk (st := s_values_at_lows) l2 c2 k2
  have F3 := fun_mk (st := s_greatest_value) l3 c3 k3
  have F4 := fun_mk (st := s_pair_at) l4 c4 k4
  have F5 := fun_mk (st := s_flat_place) l5 c5 k5
  have F6 := fun_mk (st := s_sooner) l6 c6 k6
  have F7 := fun_mk (st := s_slopes_behind) l7 c7 k7
  have F8 := fun_mk (st := s_values_at_cuts) l8 c8 k8
  have F9 := fun_mk (st := s_joined) l9 c9 k9
  have F10 := fun_mk (st := s_first_above) l10 c10 k10
  have F11 := fun_mk (st := s_exceeds) l11 c11 k11
  have F12 := fun_mk (st := s_Need_m___eq__) l12 c12 k12
  have F13 := fun_mk (st := s__law_cell) l13 c13 k13
  have F14 := fun_mk (st := s__law_draws) l14 c14 k14
  have F15 := fun_mk (st := s__law_take) l15 c15 k15
  have F16 := fun_mk (st := s_value_at) l16 c16 k16
  have F17 := fun_mk (st := s_composed) l17 c17 k17
  have F18 := fun_mk (st := s_side_by_side) l18 c18 k18
  have F19 := fun_mk (st := s_rises_of_smaller) l19 c19 k19
  have F20 := fun_mk (st := s_rises_of_greater) l20 c20 k20
  have F21 := fun_mk (st := s_check_need) l21 c21 k21
  have F22 := fun_mk (st := s_Need_m__first_enough) l22 c22 k22
  have F23 := fun_mk (st := s_Need_m__last_enough) l23 c23 k23
  have F24 := fun_mk (st := s__law_need) l24 c24 k24
  have F25 := fun_mk (st := s__law_alike) l25 c25 k25
  have F26 := fun_mk (st := s_Need_m___init__) l26 c26 k26
  have F27 := fun_mk (st := s_Need_m__beside) l27 c27 k27
  have F28 := fun_mk (st := s_Need_m__value) l28 c28 k28
  have F29 := fun_mk (st := s_Need_m_excess) l29 c29 k29
  have F30 := fun_mk (st := s_Need_m___and__) l30 c30 k30
  have F31 := fun_mk (st := s_Need_m___or__) l31 c31 k31
  have F32 := fun_mk (st := s_Need_m___rshift__) l32 c32 k32
  have F33 := fun_mk (st := s_Need_m_endless) l33 c33 k33
  have F34 := fun_mk (st := s_Need_m_mine) l34 c34 k34
  have F35 := fun_mk (st := s_Need_m_theirs) l35 c35 k35
  have F36 := fun_mk (st := s__law_make) l36 c36 k36
  have F37 := fun_mk (st := s__law_told_equal) l37 c37 k37
  have F38 := fun_mk (st := s_Need_m___mul__) l38 c38 k38
  have F39 := fun_mk (st := s__law_lattice) l39 c39 k39
  have F40 := fun_mk (st := s__law_rounds) l40 c40 k40
  have F41 := fun_mk (st := s_law) l41 c41 k41
  have m_len := PySem.W.mg_none_of X G z_len
  have m_tuple := PySem.W.mg_none_of X G z_tuple
  have m_sum := PySem.W.mg_none_of X G z_sum
  have m_min := PySem.W.mg_none_of X G z_min
  have m_range := PySem.W.mg_none_of X G z_range
  have m_isinstance := PySem.W.mg_none_of X G z_isinstance
  have m_int := PySem.W.mg_none_of X G z_int
  have m_abs := PySem.W.mg_none_of X G z_abs
  have m_max := PySem.W.mg_none_of X G z_max
  have m_sorted := PySem.W.mg_none_of X G z_sorted
  have m_set := PySem.W.mg_none_of X G z_set
  have m_list := PySem.W.mg_none_of X G z_list
  have m_zip := PySem.W.mg_none_of X G z_zip
  have g0 := PySem.W.mg_of X G a0
  have g1 := PySem.W.mg_of X G a1
  have g2 := PySem.W.mg_of X G a2
  have g3 := PySem.W.mg_of X G a3
  have g4 := PySem.W.mg_of X G a4
  have g5 := PySem.W.mg_of X G a5
  have g6 := PySem.W.mg_of X G a6
  have g7 := PySem.W.mg_of X G a7
  have g8 := PySem.W.mg_of X G a8
  have g9 := PySem.W.mg_of X G a9
  have g10 := PySem.W.mg_of X G a10
  have g11 := PySem.W.mg_of X G a11
  have g13 := PySem.W.mg_of X G a13
  have g14 := PySem.W.mg_of X G a14
  have g15 := PySem.W.mg_of X G a15
  have g16 := PySem.W.mg_of X G a16
  have g17 := PySem.W.mg_of X G a17
  have g18 := PySem.W.mg_of X G a18
  have g19 := PySem.W.mg_of X G a19
  have g20 := PySem.W.mg_of X G a20
  have g21 := PySem.W.mg_of X G a21
  have g24 := PySem.W.mg_of X G a24
  have g25 := PySem.W.mg_of X G a25
  have g36 := PySem.W.mg_of X G a36
  have g37 := PySem.W.mg_of X G a37
  have g39 := PySem.W.mg_of X G a39
  have g40 := PySem.W.mg_of X G a40
  have g41 := PySem.W.mg_of X G a41
  have K_Need : Cls K cNeed := ⟨qNeed_pg, qNeed_hd, qNeed_po, qNeed_sa⟩
  have T : Txt K mg cNeed := ⟨K_Need, PySem.W.mg_of X G qNeed_aC, qNeed_sf, qNeed_nf, ⟨K_Need, qNeed_ia, qNeed_ib, qNeed_ic, qNeed_im, DL.kit_self K cNeed⟩, qNeed_n_start, qNeed_n_rises, qNeed_n_never, qNeed_n__values, ⟨qoNeed_m___mul___r, ⟨_, qoNeed_m___mul___1⟩, ⟨_, qoNeed_m___mul___2⟩, qoNeed_m___mul___s⟩⟩
  refine' ⟨_, ?_, fun base _ _ => ?_⟩
  rotate_left 2
  have O0 := ok_are_rises (Pg := l.prog) (w := w) (base := base) F0 T
  have C_are_rises : DL.Callee l.prog w K mg base 1 "are_rises" f0 _ ["pairs"] (fs_are_rises cNeed) := ⟨O0, g0, k0, F0.binds fun _ _ _ _ _ _ us hl => match us, hl with | [_], _ => rfl⟩
  have O1 := ok_is_open (Pg := l.prog) (w := w) (base := base) F1 m_len T
  have C_is_open : DL.Callee l.prog w K mg base 1 "is_open" f1 _ ["rises"] (fs_is_open cNeed) := ⟨O1, g1, k1, F1.binds fun _ _ _ _ _ _ us hl => match us, hl with | [_], _ => rfl⟩
  have O2 := ok_values_at_lows (Pg := l.prog) (w := w) (base := base) F2 m_tuple T
  have C_values_at_lows : DL.Callee l.prog w K mg base 1 "values_at_lows" f2 _ ["start", "rises"] (fs_values_at_lows cNeed) := ⟨O2, g2, k2, F2.binds fun _ _ _ _ _ _ us hl => match us, hl with | [_, _], _ => rfl⟩
  have O3 := ok_greatest_value (Pg := l.prog) (w := w) (base := base) F3 m_sum T
  have C_greatest_value : DL.Callee l.prog w K mg base 1 "greatest_value" f3 _ ["start", "rises"] (fs_greatest_value cNeed) := ⟨O3, g3, k3, F3.binds fun _ _ _ _ _ _ us hl => match us, hl with | [_, _], _ => rfl⟩
  have O4 := ok_pair_at (Pg := l.prog) (w := w) (base := base) F4 m_len T
  have C_pair_at : DL.Callee l.prog w K mg base 1 "pair_at" f4 _ ["rises", "k"] (fs_pair_at cNeed) := ⟨O4, g4, k4, F4.binds fun _ _ _ _ _ _ us hl => match us, hl with | [_, _], _ => rfl⟩
  have O5 := ok_flat_place (Pg := l.prog) (w := w) (base := base) F5 T
  have C_flat_place : DL.Callee l.prog w K mg base 1 "flat_place" f5 _ ["rises", "number"] (fs_flat_place cNeed) := ⟨O5, g5, k5, F5.binds fun _ _ _ _ _ _ us hl => match us, hl with | [_, _], _ => rfl⟩
  have O6 := ok_sooner (Pg := l.prog) (w := w) (base := base) F6 m_min T
  have C_sooner : DL.Callee l.prog w K mg base 1 "sooner" f6 _ ["one", "other"] (fs_sooner cNeed) := ⟨O6, g6, k6, F6.binds fun _ _ _ _ _ _ us hl => match us, hl with | [_, _], _ => rfl⟩
  have O7 := ok_slopes_behind (Pg := l.prog) (w := w) (base := base) F7 m_len T
  have C_slopes_behind : DL.Callee l.prog w K mg base 1 "slopes_behind" f7 _ ["rises", "cuts"] (fs_slopes_behind cNeed) := ⟨O7, g7, k7, F7.binds fun _ _ _ _ _ _ us hl => match us, hl with | [_, _], _ => rfl⟩
  have O8 := ok_values_at_cuts (Pg := l.prog) (w := w) (base := base) F8 m_range m_len T
  have C_values_at_cuts : DL.Callee l.prog w K mg base 1 "values_at_cuts" f8 _ ["start", "slopes", "cuts"] (fs_values_at_cuts cNeed) := ⟨O8, g8, k8, F8.binds fun _ _ _ _ _ _ us hl => match us, hl with | [_, _, _], _ => rfl⟩
  have O9 := ok_joined (Pg := l.prog) (w := w) (base := base) F9 m_tuple T
  have C_joined : DL.Callee l.prog w K mg base 1 "joined" f9 _ ["spans"] (fs_joined cNeed) := ⟨O9, g9, k9, F9.binds fun _ _ _ _ _ _ us hl => match us, hl with | [_], _ => rfl⟩
  have O10 := ok_first_above (Pg := l.prog) (w := w) (base := base) F10 T
  have C_first_above : DL.Callee l.prog w K mg base 1 "first_above" f10 _ ["pieces"] (fs_first_above cNeed) := ⟨O10, g10, k10, F10.binds fun _ _ _ _ _ _ us hl => match us, hl with | [_], _ => rfl⟩
  have O11 := ok_exceeds (Pg := l.prog) (w := w) (base := base) F11 T
  have C_exceeds : DL.Callee l.prog w K mg base 1 "exceeds" f11 _ ["one", "other"] (fs_exceeds cNeed) := ⟨O11, g11, k11, F11.binds fun _ _ _ _ _ _ us hl => match us, hl with | [_, _], _ => rfl⟩
  have O12 := ok_Need_m___eq__ (Pg := l.prog) (w := w) (base := base) F12 m_isinstance T
  have CP_Need_m___eq__ : DL.CalleeP l.prog w K mg base 1 cNeed "__eq__" f12 _ ["self", "other"] (fs_Need_m___eq__ cNeed) := ⟨O12, ⟨a12, i12⟩, F12.binds fun _ _ _ _ _ _ us hl => match us, hl with | [_, _], _ => rfl⟩
  have O13 := ok__law_cell (Pg := l.prog) (w := w) (base := base) F13 m_len m_int T
  have C__law_cell : DL.Callee l.prog w K mg base 1 "_law_cell" f13 _ ["_law_script", "_law_k"] (fs__law_cell cNeed) := ⟨O13, g13, k13, F13.binds fun _ _ _ _ _ _ us hl => match us, hl with | [_, _], _ => rfl⟩
  have O14 := ok__law_draws (Pg := l.prog) (w := w) (base := base) F14 m_abs m_int m_range T
  have C__law_draws : DL.Callee l.prog w K mg base 1 "_law_draws" f14 _ ["_law_cell_here", "_law_many"] (fs__law_draws cNeed) := ⟨O14, g14, k14, F14.binds fun _ _ _ _ _ _ us hl => match us, hl with | [_, _], _ => rfl⟩
  have O15 := ok__law_take (Pg := l.prog) (w := w) (base := base) F15 m_len T
  have C__law_take : DL.Callee l.prog w K mg base 1 "_law_take" f15 _ ["_law_draws_here", "_law_place"] (fs__law_take cNeed) := ⟨O15, g15, k15, F15.binds fun _ _ _ _ _ _ us hl => match us, hl with | [_, _], _ => rfl⟩
  have O16 := ok_value_at (Pg := l.prog) (w := w) (base := base) F16 m_min T C_pair_at
  have C_value_at : DL.Callee l.prog w K mg base 2 "value_at" f16 _ ["start", "rises", "values", "k"] (fs_value_at cNeed) := ⟨O16, g16, k16, F16.binds fun _ _ _ _ _ _ us hl => match us, hl with | [_, _, _, _], _ => rfl⟩
  have O17 := ok_composed (Pg := l.prog) (w := w) (base := base) F17 m_len m_max m_tuple T C_sooner
  have C_composed : DL.Callee l.prog w K mg base 2 "composed" f17 _ ["outer", "start", "inner"] (fs_composed cNeed) := ⟨O17, g17, k17, F17.binds fun _ _ _ _ _ _ us hl => match us, hl with | [_, _, _], _ => rfl⟩
  have O18 := ok_side_by_side (Pg := l.prog) (w := w) (base := base) F18 m_sorted m_set m_list m_zip T C_slopes_behind C_values_at_cuts
  have C_side_by_side : DL.Callee l.prog w K mg base 2 "side_by_side" f18 _ ["one_start", "one", "other_start", "other"] (fs_side_by_side cNeed) := ⟨O18, g18, k18, F18.binds fun _ _ _ _ _ _ us hl => match us, hl with | [_, _, _, _], _ => rfl⟩
  have O19 := ok_rises_of_smaller (Pg := l.prog) (w := w) (base := base) F19 T C_sooner C_joined
  have C_rises_of_smaller : DL.Callee l.prog w K mg base 2 "rises_of_smaller" f19 _ ["pieces"] (fs_rises_of_smaller cNeed) := ⟨O19, g19, k19, F19.binds fun _ _ _ _ _ _ us hl => match us, hl with | [_], _ => rfl⟩
  have O20 := ok_rises_of_greater (Pg := l.prog) (w := w) (base := base) F20 m_max T C_joined
  have C_rises_of_greater : DL.Callee l.prog w K mg base 2 "rises_of_greater" f20 _ ["pieces"] (fs_rises_of_greater cNeed) := ⟨O20, g20, k20, F20.binds fun _ _ _ _ _ _ us hl => match us, hl with | [_], _ => rfl⟩
  have O21 := ok_check_need (Pg := l.prog) (w := w) (base := base) F21 m_len T C_are_rises C_is_open C_greatest_value
  have C_check_need : DL.Callee l.prog w K mg base 2 "check_need" f21 _ ["start", "rises", "never"] (fs_check_need cNeed) := ⟨O21, g21, k21, F21.binds fun _ _ _ _ _ _ us hl => match us, hl with | [_, _, _], _ => rfl⟩
  have O22 := ok_Need_m__first_enough (Pg := l.prog) (w := w) (base := base) F22 T C_flat_place
  have CM_Need_m__first_enough : DL.CalleeM l.prog w K mg base 2 cNeed "_first_enough" f22 _ ["self"] (fs_Need_m__first_enough cNeed) := ⟨O22, K_Need, ⟨a22, i22, k22⟩, F22.binds fun _ _ _ _ _ _ us hl => match us, hl with | [_], _ => rfl⟩
  have O23 := ok_Need_m__last_enough (Pg := l.prog) (w := w) (base := base) F23 T C_flat_place
  have CM_Need_m__last_enough : DL.CalleeM l.prog w K mg base 2 cNeed "_last_enough" f23 _ ["self"] (fs_Need_m__last_enough cNeed) := ⟨O23, K_Need, ⟨a23, i23, k23⟩, F23.binds fun _ _ _ _ _ _ us hl => match us, hl with | [_], _ => rfl⟩
  have O24 := ok__law_need (Pg := l.prog) (w := w) (base := base) F24 m_int m_range m_len m_tuple T C__law_take
  have C__law_need : DL.Callee l.prog w K mg base 2 "_law_need" f24 _ ["_law_draws_here", "_law_place"] (fs__law_need cNeed) := ⟨O24, g24, k24, F24.binds fun _ _ _ _ _ _ us hl => match us, hl with | [_, _], _ => rfl⟩
  have O25 := ok__law_alike (Pg := l.prog) (w := w) (base := base) F25 m_isinstance T CP_Need_m___eq__
  have C__law_alike : DL.Callee l.prog w K mg base 2 "_law_alike" f25 _ ["_law_one", "_law_other"] (fs__law_alike cNeed) := ⟨O25, g25, k25, F25.binds fun _ _ _ _ _ _ us hl => match us, hl with | [_, _], _ => rfl⟩
  have O26 := ok_Need_m___init__ (Pg := l.prog) (w := w) (base := base) F26 m_tuple T C_check_need C_values_at_lows
  have CC_Need_m___init__ : DL.CalleeC l.prog w K mg base 3 "Need" cNeed f26 _ ["self", "start", "rises", "never"] (fs_Need_m___init__ cNeed) := ⟨O26, ⟨qNeed_mk, a26, i26, qNeed_kc⟩, T.mg_Need, F26.binds fun _ _ _ _ _ _ us hl => match us, hl with | [_, _, _, _], _ => rfl⟩
  have O27 := ok_Need_m__beside (Pg := l.prog) (w := w) (base := base) F27 T C_side_by_side
  have CM_Need_m__beside : DL.CalleeM l.prog w K mg base 3 cNeed "_beside" f27 _ ["self", "other"] (fs_Need_m__beside cNeed) := ⟨O27, K_Need, ⟨a27, i27, k27⟩, F27.binds fun _ _ _ _ _ _ us hl => match us, hl with | [_, _], _ => rfl⟩
  have O28 := ok_Need_m__value (Pg := l.prog) (w := w) (base := base) F28 T C_value_at
  have CM_Need_m__value : DL.CalleeM l.prog w K mg base 3 cNeed "_value" f28 _ ["self", "k"] (fs_Need_m__value cNeed) := ⟨O28, K_Need, ⟨a28, i28, k28⟩, F28.binds fun _ _ _ _ _ _ us hl => match us, hl with | [_, _], _ => rfl⟩
  have O29 := ok_Need_m_excess (Pg := l.prog) (w := w) (base := base) F29 T C_first_above CM_Need_m__beside C_exceeds
  have CM_Need_m_excess : DL.CalleeM l.prog w K mg base 4 cNeed "excess" f29 _ ["self", "other"] (fs_Need_m_excess cNeed) := ⟨O29, K_Need, ⟨a29, i29, k29⟩, F29.binds fun _ _ _ _ _ _ us hl => match us, hl with | [_, _], _ => rfl⟩
  have O30 := ok_Need_m___and__ (Pg := l.prog) (w := w) (base := base) F30 m_max T CC_Need_m___init__ C_exceeds C_rises_of_greater CM_Need_m__beside
  have CP_Need_m___and__ : DL.CalleeP l.prog w K mg base 5 cNeed "__and__" f30 _ ["self", "other"] (fs_Need_m___and__ cNeed) := ⟨O30, ⟨a30, i30⟩, F30.binds fun _ _ _ _ _ _ us hl => match us, hl with | [_, _], _ => rfl⟩
  have O31 := ok_Need_m___or__ (Pg := l.prog) (w := w) (base := base) F31 m_min T CC_Need_m___init__ C_rises_of_smaller CM_Need_m__beside C_sooner
  have CP_Need_m___or__ : DL.CalleeP l.prog w K mg base 5 cNeed "__or__" f31 _ ["self", "other"] (fs_Need_m___or__ cNeed) := ⟨O31, ⟨a31, i31⟩, F31.binds fun _ _ _ _ _ _ us hl => match us, hl with | [_, _], _ => rfl⟩
  have O32 := ok_Need_m___rshift__ (Pg := l.prog) (w := w) (base := base) F32 T C_composed CC_Need_m___init__ CM_Need_m__value
  have CP_Need_m___rshift__ : DL.CalleeP l.prog w K mg base 5 cNeed "__rshift__" f32 _ ["self", "other"] (fs_Need_m___rshift__ cNeed) := ⟨O32, ⟨a32, i32⟩, F32.binds fun _ _ _ _ _ _ us hl => match us, hl with | [_, _], _ => rfl⟩
  have O33 := ok_Need_m_endless (Pg := l.prog) (w := w) (base := base) F33 T CM_Need_m__first_enough CC_Need_m___init__
  have CM_Need_m_endless : DL.CalleeM l.prog w K mg base 5 cNeed "endless" f33 _ ["self"] (fs_Need_m_endless cNeed) := ⟨O33, K_Need, ⟨a33, i33, k33⟩, F33.binds fun _ _ _ _ _ _ us hl => match us, hl with | [_], _ => rfl⟩
  have O34 := ok_Need_m_mine (Pg := l.prog) (w := w) (base := base) F34 T CM_Need_m__last_enough CC_Need_m___init__
  have CM_Need_m_mine : DL.CalleeM l.prog w K mg base 5 cNeed "mine" f34 _ ["self"] (fs_Need_m_mine cNeed) := ⟨O34, K_Need, ⟨a34, i34, k34⟩, F34.binds fun _ _ _ _ _ _ us hl => match us, hl with | [_], _ => rfl⟩
  have O35 := ok_Need_m_theirs (Pg := l.prog) (w := w) (base := base) F35 T CM_Need_m__first_enough CC_Need_m___init__
  have CM_Need_m_theirs : DL.CalleeM l.prog w K mg base 5 cNeed "theirs" f35 _ ["self"] (fs_Need_m_theirs cNeed) := ⟨O35, K_Need, ⟨a35, i35, k35⟩, F35.binds fun _ _ _ _ _ _ us hl => match us, hl with | [_], _ => rfl⟩
  have O36 := ok__law_make (Pg := l.prog) (w := w) (base := base) F36 T CC_Need_m___init__
  have C__law_make : DL.Callee l.prog w K mg base 5 "_law_make" f36 _ ["_law_need_here"] (fs__law_make cNeed) := ⟨O36, g36, k36, F36.binds fun _ _ _ _ _ _ us hl => match us, hl with | [_], _ => rfl⟩
  have O37 := ok__law_told_equal (Pg := l.prog) (w := w) (base := base) F37 T CP_Need_m___eq__ CM_Need_m_excess
  have C__law_told_equal : DL.Callee l.prog w K mg base 5 "_law_told_equal" f37 _ ["_law_f", "_law_g"] (fs__law_told_equal cNeed) := ⟨O37, g37, k37, F37.binds fun _ _ _ _ _ _ us hl => match us, hl with | [_, _], _ => rfl⟩
  have O38 := ok_Need_m___mul__ (Pg := l.prog) (w := w) (base := base) F38 T CC_Need_m___init__ CP_Need_m___rshift__
  have CP_Need_m___mul__ : DL.CalleeP l.prog w K mg base 6 cNeed "__mul__" f38 _ ["self", "other"] (fs_Need_m___mul__ cNeed) := ⟨O38, ⟨a38, i38⟩, F38.binds fun _ _ _ _ _ _ us hl => match us, hl with | [_, _], _ => rfl⟩
  have O39 := ok__law_lattice (Pg := l.prog) (w := w) (base := base) F39 T C__law_alike CP_Need_m___rshift__ CP_Need_m___or__ CP_Need_m___and__
  have C__law_lattice : DL.Callee l.prog w K mg base 6 "_law_lattice" f39 _ ["_law_f", "_law_g", "_law_h"] (fs__law_lattice cNeed) := ⟨O39, g39, k39, F39.binds fun _ _ _ _ _ _ us hl => match us, hl with | [_, _, _], _ => rfl⟩
  have O40 := ok__law_rounds (Pg := l.prog) (w := w) (base := base) F40 T CM_Need_m_mine CM_Need_m_theirs C__law_alike CP_Need_m___rshift__ CM_Need_m_excess CM_Need_m_endless
  have C__law_rounds : DL.Callee l.prog w K mg base 6 "_law_rounds" f40 _ ["_law_f", "_law_g"] (fs__law_rounds cNeed) := ⟨O40, g40, k40, F40.binds fun _ _ _ _ _ _ us hl => match us, hl with | [_, _], _ => rfl⟩
  exact (ok_law (Pg := l.prog) (w := w) (base := base) F41 m_int m_list T C__law_draws C__law_cell C__law_make C__law_need CC_Need_m___init__ C__law_alike CP_Need_m___rshift__ C__law_lattice C__law_rounds C__law_told_equal CP_Need_m___or__ CP_Need_m___mul__).imp fun vs H Q E h => law_sp h
  exact fun s v => .of_eq rfl
end K21
open PySem PySem.W PyProof.Rows
set_option maxHeartbeats 0 in
theorem PySem.Challenge.cw_signedpacts_k21_whole_need_algebra_holds : PySem.Challenge.rw_signedpacts_k21_whole_need_algebra.Holds := by
  w_on; o_law; k_head; (case hw => w_witness2)
  k_fill
  refine L2.walk_of (l := PySem.Challenge.rw_signedpacts_k21_whole_need_algebra) (n := 63) (k := 7) (x := "_law_script") (CX := fun _ => L2.CX0) (sp := fun w => K21.spLaw _) rfl (by decide) rfl ⟨rfl, by decide, by decide⟩ (fun w h Y => PySem.W.kIn_of Y) ?F (fun _ _ a ns hl _ hS => ⟨a, ns, rfl, hS, hl, fun _ => rfl⟩) (fun _ _ _ _ _ h => h)
  case F =>
    intro w mg fa h KX G hmg
    refine' K21.all_mk KX G hmg ?qNeed_aC ?qNeed_pg ?qNeed_hd ?qNeed_po ?qNeed_sa ?qNeed_mk ?qNeed_kc ?qNeed_sf ?qNeed_nf ?qNeed_ia ?qNeed_ib ?qNeed_ic ?qNeed_im ?qNeed_n_start ?qNeed_n_rises ?qNeed_n_never ?qNeed_n__values ?qoNeed_m___mul___r ?qoNeed_m___mul___1 ?qoNeed_m___mul___2 ?qoNeed_m___mul___s ?a0 ?l0 ?c0 ?k0 ?a1 ?l1 ?c1 ?k1 ?a2 ?l2 ?c2 ?k2 ?a3 ?l3 ?c3 ?k3 ?a4 ?l4 ?c4 ?k4 ?a5 ?l5 ?c5 ?k5 ?a6 ?l6 ?c6 ?k6 ?a7 ?l7 ?c7 ?k7 ?a8 ?l8 ?c8 ?k8 ?a9 ?l9 ?c9 ?k9 ?a10 ?l10 ?c10 ?k10 ?a11 ?l11 ?c11 ?k11 ?a12 ?i12 ?l12 ?c12 ?k12 ?a13 ?l13 ?c13 ?k13 ?a14 ?l14 ?c14 ?k14 ?a15 ?l15 ?c15 ?k15 ?a16 ?l16 ?c16 ?k16 ?a17 ?l17 ?c17 ?k17 ?a18 ?l18 ?c18 ?k18 ?a19 ?l19 ?c19 ?k19 ?a20 ?l20 ?c20 ?k20 ?a21 ?l21 ?c21 ?k21 ?a22 ?i22 ?l22 ?c22 ?k22 ?a23 ?i23 ?l23 ?c23 ?k23 ?a24 ?l24 ?c24 ?k24 ?a25 ?l25 ?c25 ?k25 ?a26 ?i26 ?l26 ?c26 ?k26 ?a27 ?i27 ?l27 ?c27 ?k27 ?a28 ?i28 ?l28 ?c28 ?k28 ?a29 ?i29 ?l29 ?c29 ?k29 ?a30 ?i30 ?l30 ?c30 ?k30 ?a31 ?i31 ?l31 ?c31 ?k31 ?a32 ?i32 ?l32 ?c32 ?k32 ?a33 ?i33 ?l33 ?c33 ?k33 ?a34 ?i34 ?l34 ?c34 ?k34 ?a35 ?i35 ?l35 ?c35 ?k35 ?a36 ?l36 ?c36 ?k36 ?a37 ?l37 ?c37 ?k37 ?a38 ?i38 ?l38 ?c38 ?k38 ?a39 ?l39 ?c39 ?k39 ?a40 ?l40 ?c40 ?k40 ?a41 ?l41 ?c41 ?k41 ?z_len ?z_tuple ?z_sum ?z_min ?z_range ?z_isinstance ?z_int ?z_abs ?z_max ?z_sorted ?z_set ?z_list ?z_zip
    (case qNeed_aC => k_is); (case qNeed_pg => k_is); (case qNeed_hd => k_is); (case qNeed_po => k_is); (case qNeed_sa => k_is); (case qNeed_mk => k_is); (case qNeed_kc => k_is); (case qNeed_sf => k_is); (case qNeed_nf => k_is); (case qNeed_ia => k_is); (case qNeed_ib => k_is); (case qNeed_ic => k_is); (case qNeed_im => k_is); (case qNeed_n_start => k_is); (case qNeed_n_rises => k_is); (case qNeed_n_never => k_is); (case qNeed_n__values => k_is); (case qoNeed_m___mul___r => k_is); (case qoNeed_m___mul___1 => k_is); (case qoNeed_m___mul___2 => k_is); (case qoNeed_m___mul___s => k_is); (case a0 => k_is); (case l0 => k_is); (case c0 => k_is); (case k0 => k_is); (case a1 => k_is); (case l1 => k_is); (case c1 => k_is); (case k1 => k_is); (case a2 => k_is); (case l2 => k_is); (case c2 => k_is); (case k2 => k_is); (case a3 => k_is); (case l3 => k_is); (case c3 => k_is); (case k3 => k_is); (case a4 => k_is); (case l4 => k_is); (case c4 => k_is); (case k4 => k_is); (case a5 => k_is); (case l5 => k_is); (case c5 => k_is); (case k5 => k_is); (case a6 => k_is); (case l6 => k_is); (case c6 => k_is); (case k6 => k_is); (case a7 => k_is); (case l7 => k_is); (case c7 => k_is); (case k7 => k_is); (case a8 => k_is); (case l8 => k_is); (case c8 => k_is); (case k8 => k_is); (case a9 => k_is); (case l9 => k_is); (case c9 => k_is); (case k9 => k_is); (case a10 => k_is); (case l10 => k_is); (case c10 => k_is); (case k10 => k_is); (case a11 => k_is); (case l11 => k_is); (case c11 => k_is); (case k11 => k_is); (case a12 => k_is); (case i12 => k_is); (case l12 => k_is); (case c12 => k_is); (case k12 => k_is); (case a13 => k_is); (case l13 => k_is); (case c13 => k_is); (case k13 => k_is); (case a14 => k_is); (case l14 => k_is); (case c14 => k_is); (case k14 => k_is); (case a15 => k_is); (case l15 => k_is); (case c15 => k_is); (case k15 => k_is); (case a16 => k_is); (case l16 => k_is); (case c16 => k_is); (case k16 => k_is); (case a17 => k_is); (case l17 => k_is); (case c17 => k_is); (case k17 => k_is); (case a18 => k_is); (case l18 => k_is); (case c18 => k_is); (case k18 => k_is); (case a19 => k_is); (case l19 => k_is); (case c19 => k_is); (case k19 => k_is); (case a20 => k_is); (case l20 => k_is); (case c20 => k_is); (case k20 => k_is); (case a21 => k_is); (case l21 => k_is); (case c21 => k_is); (case k21 => k_is); (case a22 => k_is); (case i22 => k_is); (case l22 => k_is); (case c22 => k_is); (case k22 => k_is); (case a23 => k_is); (case i23 => k_is); (case l23 => k_is); (case c23 => k_is); (case k23 => k_is); (case a24 => k_is); (case l24 => k_is); (case c24 => k_is); (case k24 => k_is); (case a25 => k_is); (case l25 => k_is); (case c25 => k_is); (case k25 => k_is); (case a26 => k_is); (case i26 => k_is); (case l26 => k_is); (case c26 => k_is); (case k26 => k_is); (case a27 => k_is); (case i27 => k_is); (case l27 => k_is); (case c27 => k_is); (case k27 => k_is); (case a28 => k_is); (case i28 => k_is); (case l28 => k_is); (case c28 => k_is); (case k28 => k_is); (case a29 => k_is); (case i29 => k_is); (case l29 => k_is); (case c29 => k_is); (case k29 => k_is); (case a30 => k_is); (case i30 => k_is); (case l30 => k_is); (case c30 => k_is); (case k30 => k_is); (case a31 => k_is); (case i31 => k_is); (case l31 => k_is); (case c31 => k_is); (case k31 => k_is); (case a32 => k_is); (case i32 => k_is); (case l32 => k_is); (case c32 => k_is); (case k32 => k_is); (case a33 => k_is); (case i33 => k_is); (case l33 => k_is); (case c33 => k_is); (case k33 => k_is); (case a34 => k_is); (case i34 => k_is); (case l34 => k_is); (case c34 => k_is); (case k34 => k_is); (case a35 => k_is); (case i35 => k_is); (case l35 => k_is); (case c35 => k_is); (case k35 => k_is); (case a36 => k_is); (case l36 => k_is); (case c36 => k_is); (case k36 => k_is); (case a37 => k_is); (case l37 => k_is); (case c37 => k_is); (case k37 => k_is); (case a38 => k_is); (case i38 => k_is); (case l38 => k_is); (case c38 => k_is); (case k38 => k_is); (case a39 => k_is); (case l39 => k_is); (case c39 => k_is); (case k39 => k_is); (case a40 => k_is); (case l40 => k_is); (case c40 => k_is); (case k40 => k_is); (case a41 => k_is); (case l41 => k_is); (case c41 => k_is); (case k41 => k_is); (case z_len => k_is); (case z_tuple => k_is); (case z_sum => k_is); (case z_min => k_is); (case z_range => k_is); (case z_isinstance => k_is); (case z_int => k_is); (case z_abs => k_is); (case z_max => k_is); (case z_sorted => k_is); (case z_set => k_is); (case z_list => k_is); (case z_zip => k_is)

